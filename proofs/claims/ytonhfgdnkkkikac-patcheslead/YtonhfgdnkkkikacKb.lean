/-
  FrameTells, if flow.Patch makes one flow of one.
-/
import Derived.Test.YtonhfgdnkkkikacKf
import Derived.Test.YtonhfgdnkkkikacWf
namespace Go.Proofs.Ytonhfgdnkkkikac
open Go.RowKit
set_option linter.unusedVariables false
set_option maxRecDepth 100000

/-- flow.Patch of nothing by one flow of zeros: one flow. -/
def PatchOne : Prop := ∀ (g : Nat) (w : World), w.cell? ⟨g, 0, none⟩ = some (.int .i64 0) → w.cell? ⟨g, 1, none⟩ = some (.int .i64 0) → w.cell? ⟨g, 2, none⟩ = some (.slice none 0 0) → w.cell? ⟨g, 3, none⟩ = some (.slice none 0 0) →
  Calls Try.prog 12 #[.slice none 0 0, .slice (some ⟨g, 0, none⟩) 1 1, .slice none 0 0] w fun e w' => ∃ a cap, e = .returned (.slice a 1 cap) ∧ Below w.heap.size w w'

set_option maxHeartbeats 1000000 in
theorem frameTells_any (hP : PatchOne) (w : World) :
    Calls Try.prog 18 #[] w fun e w' => e = .returned (.bool true) ∧ Below w.heap.size w w' := by
  have HP := hide hP
  clear hP
  go_enter Try.func18, Try.ntmps18
  go_wp2_with fail
  refine (frame_any 0 0 0 0 _ _ (by omega) (by omega) (by omega) (by omega) (by decide)).mono ?_
  rintro e w1 ⟨dst, src, kind, ips, ipd, ttl, port, body, rfl, hf, hb1⟩
  go_wp2_with fail
  refine (encode_yes _ _ _ _ _ _ _ _ _ hf).mono ?_
  rintro e w2 ⟨v2, rfl, ho2, hb2⟩
  have hl := enc_length dst src kind ips ipd ttl port body
  have hbel : Below w.heap.size w w2 := hb1.trans (hb2.mono hb1.size)
  have hs2 := hbel.size
  obtain ⟨g, cap, rfl, hg, _, hcell⟩ := own_cells ho2 (by omega)
  clear hcell ho2 hf
  generalize (enc dst src kind ips ipd ttl port body).length = n at *
  have hn : (4 : Int) < (n : Int) := by omega
  clear hl
  go_wp2_with fail
  refine (unhide HP w2.heap.size _ (by simp) (by simp) (by simp) (by simp)).mono ?_
  rintro e w3 ⟨a3, c3, rfl, hb3⟩
  have hbel3 : Below w.heap.size w w3 := (hbel.alloc hs2 _).trans (hb3.mono (by simp; omega))
  go_wp2_with fail
  go_ret
  exact ⟨rfl, hbel3⟩

end Go.Proofs.Ytonhfgdnkkkikac
