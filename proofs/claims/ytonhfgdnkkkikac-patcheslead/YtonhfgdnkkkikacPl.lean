/-
  Differences and patches of rows in their places: plain mathematics for PatchesLead (P2.3, P2.4).
-/
import Derived.Test.YtonhfgdnkkkikacPu
namespace Go.Proofs.Ytonhfgdnkkkikac
set_option linter.unusedVariables false

theorem lft_in (xs ys : List Fl) (x : Fl) : x ∈ lft xs ys ↔ x ∈ xs ∧ ¬x ∈ ys := by
  unfold lft
  rw [List.mem_filter]
  constructor
  · rintro ⟨h1, h2⟩
    refine ⟨h1, fun h => ?_⟩
    rw [(th_mem x ys).2 h] at h2
    simp at h2
  · rintro ⟨h1, h2⟩
    refine ⟨h1, ?_⟩
    cases h : th x ys ys.length
    · rfl
    · exact absurd ((th_mem x ys).1 h) h2
theorem srt_self {b : List Fl} (h : Srt b) : srt b b.length = b := (srt_is h fun _ => Iff.rfl).symm
theorem lft_srt {xs : List Fl} (ys : List Fl) (h : Srt xs) : Srt (lft xs ys) := List.Pairwise.filter _ h
theorem lft_none (b : List Fl) : lft b b = [] := by
  refine List.eq_nil_iff_forall_not_mem.2 fun x hx => ?_
  obtain ⟨h1, h2⟩ := (lft_in b b x).1 hx
  exact h2 h1
/-- What is patched by a difference is what was wanted. -/
theorem patch_leads {a b : List Fl} (ha : Srt a) (hb : Srt b) : srt (lft a (lft a b) ++ lft b a) (lft a (lft a b) ++ lft b a).length = b := by
  refine (srt_is hb fun x => ?_).symm
  rw [List.mem_append, lft_in, lft_in, lft_in]
  constructor
  · intro h
    by_cases hx : x ∈ a
    · exact .inl ⟨hx, fun k => k.2 h⟩
    · exact .inr ⟨h, hx⟩
  · rintro (⟨h1, h2⟩ | ⟨h1, _⟩)
    · exact Classical.not_not.1 fun k => h2 ⟨h1, k⟩
    · exact h1
theorem filter_parts {α : Type} (p : α → Bool) : ∀ l : List α, (l.filter p).length + (l.filter fun x => !p x).length = l.length
  | [] => rfl
  | x :: r => by
    have ih := filter_parts p r
    cases h : p x <;> simp [h] <;> omega
/-- How many come and go. -/
theorem patch_counts {a b : List Fl} (ha : Srt a) (hb : Srt b) : a.length + (lft b a).length = b.length + (lft a b).length := by
  have h1 := filter_parts (fun f => th f b b.length) a
  have h2 := filter_parts (fun f => th f a a.length) b
  have e : a.filter (fun f => th f b b.length) = b.filter (fun f => th f a a.length) := by
    refine srt_unique _ _ (List.Pairwise.filter _ ha) (List.Pairwise.filter _ hb) fun x => ?_
    rw [List.mem_filter, List.mem_filter, th_mem, th_mem]
    exact ⟨fun ⟨p, q⟩ => ⟨q, p⟩, fun ⟨p, q⟩ => ⟨q, p⟩⟩
  rw [e] at h1
  unfold lft
  omega

end Go.Proofs.Ytonhfgdnkkkikac
