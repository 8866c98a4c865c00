/-
  A frame sent at the first of two ports: fabric.Deliver there, where one at most arrives.
-/
import Derived.Test.YtncdininppehkaaGreatJAsksAnswered9
namespace Go.Proofs.YtncdininppehkaaGreat
open Go.RowKit
set_option linter.unusedVariables false
set_option maxRecDepth 100000
theorem own_old {w w' : World} {B e sz n g : Nat} {u : Value} {xs : List Value} (h : w.ownsRow B e sz u n xs) (hg : w.grownBy w' (some g)) (hlt : g < B) : w'.ownsRow B e sz u n xs := by
 refine h.kept hg ?_
 cases hu : u.ownBlock with
 | none => exact .inl rfl
 | some k => exact .inr (fun e => by have := own_ge h k hu; cases e; omega)
theorem dlv_any (g h : Nat) (S : List Sw) (a b d s k x y t o : Int) (body : ByteArray) (l : List Ar) (w : World) (hSl : S.length = 2) (hS : SwsAt w (.slice (some ⟨g, 0, none⟩) 2 2) S) (hP : PrsAt w (.slice (some ⟨h, 0, none⟩) 3 3) (twP a b)) (ha : 0 ≤ a ∧ a ≤ 5)
  (hm : may S (twP a b) [] = true) (hf : fault d s k x y t o body.size = 0) (hL : comeG (twP a b) [] (led S (twP a b) [] a 1 d s k x y t o) = l) (hl : l.length ≤ 1) :
  Calls Tryz.prog 18 #[.agg #[.slice (some ⟨g, 0, none⟩) 2 2, .slice (some ⟨h, 0, none⟩) 3 3, .slice none 0 0], .int .i64 1, fr d s k x y t o body] w fun e w' => ∃ u, e = .returned (.tuple #[u, .int .i64 0]) ∧ w'.ownsRow w.heap.size 56 9 u l.length (l.flatMap (arC body)) ∧ Below w.heap.size w w' := by
 have hd := tw_del hm ha hf
 rw [hL] at hd
 have hA : arrL (KD S (twP a b) [] 6) (twP a b) 1 d s k x y t o body.size = l := by
  have := hd.2
  unfold delL at this
  rwa [if_pos hm] at this
 have hb : body.size ≤ maxLen := by have := (fault_all hf).2.2.1; unfold maxLen; omega
 have HD := deliver_any S (twP a b) [] (some ⟨g, 0, none⟩) (some ⟨h, 0, none⟩) none 2 3 0 1 d s k x y t o body w ⟨by rw [hSl]; exact hS, hP, ⟨none, 0, rfl, fun _ => rfl, .inl rfl⟩⟩ (by omega) (by show 3 ≤ 1000; decide) (by decide) (fun _ _ => sorts_nil) hb (fun _ _ => by rw [hA]; exact sortsAr_tiny hl)
 rw [hSl] at HD
 refine HD.mono ?_
 rintro e w1 ⟨u, rfl, l', ⟨hp, _, ho⟩, hb1⟩
 rw [hd.2] at hp
 have hll : l' = l := by
  match l, hl, hp with
  | [], _, hp => exact List.perm_nil.1 hp
  | [z], _, hp => exact List.perm_singleton.1 hp
 subst hll
 exact ⟨u, by rw [hd.1], ho, hb1⟩
end Go.Proofs.YtncdininppehkaaGreat
