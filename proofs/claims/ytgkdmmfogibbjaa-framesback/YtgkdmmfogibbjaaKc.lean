/-
  slices.Clone at bytes.
-/
import Derived.Test.YtgkdmmfogibbjaaFm
import Derived.Test.YtgkdmmfogibbjaaKf
import Derived.Test.YtgkdmmfogibbjaaEq
namespace Go.Proofs.Ytgkdmmfogibbjaa
open Go.RowKit
set_option linter.unusedVariables false
set_option maxRecDepth 100000

set_option maxHeartbeats 1000000 in
theorem clone_any (g cap : Nat) (xs : List Int) (w : World) (hI : IsB w (some ⟨g, 0, none⟩) xs.length cap xs) :
    Calls Try.prog 22 #[.slice (some ⟨g, 0, none⟩) xs.length cap] w fun e w' => ∃ v, e = .returned v ∧ w'.ownsRow w.heap.size 5 1 v xs.length (U xs) ∧ Below w.heap.size w w' := by
  obtain ⟨i0, hi, hz0, hz1, hz2⟩ := info_parts infoByte
  have hnl := fun (w' : World) => Lib.run_eql_slice_nil (P := Try.prog) w' 27 5 (some ⟨g, 0, none⟩) xs.length cap 0 0 Try.underlying27
  have hm := hI.2.2.1
  have HI := hide hI
  clear hI
  go_enter Try.func22, Try.ntmps22
  have hoA : (w.alloc (.cells #[] 5)).ownsRow w.heap.size 5 1 (.slice (some ⟨w.heap.size, 0, none⟩) 0 0) 0 [] := World.ownsRow_made w #[] 0 (Nat.le_refl _) (by decide) rfl
  have HOA := hide hoA
  clear hoA
  go_wp2_with (at_builtin; refine wpList_append_own _ rfl _ _ 27 rfl w.heap.size 5 i0 (.int .u8 0) 1 1 Try.underlying27 hi hz0 hz1 hz2 rfl (by decide) _ _ _ rfl (unhide HOA) ⟨g, 0, none⟩ xs.length cap (U xs) rfl ?a1 ?a2 ?a3 ?a4 ?a5 ?a6 ?_)
  case a1 => rw [U_length]; omega
  case a2 => exact (HI.out.below ((Below.refl _ w).alloc (Nat.le_refl _) _) (Nat.le_refl _)).news
  case a3 => exact U_one _
  case a4 => unfold maxLen; omega
  case a5 => omega
  case a6 => simp
  intro v1 w1 ho1 hg1 _
  have hb1 : Below w.heap.size w w1 := ((Below.refl _ w).alloc (Nat.le_refl _) _).grown hg1 (by simp) (own_ge HOA.out)
  have ho1' : w1.ownsRow w.heap.size 5 1 v1 xs.length (U xs) := by simpa using ho1
  clear ho1 hg1 HOA
  go_wp2
  go_ret
  exact ⟨v1, rfl, ho1', hb1⟩

end Go.Proofs.Ytgkdmmfogibbjaa
