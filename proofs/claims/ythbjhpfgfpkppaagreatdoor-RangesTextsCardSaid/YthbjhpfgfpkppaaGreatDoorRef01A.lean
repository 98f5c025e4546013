/-
  The reference's calls of layer 1 (mandolineref01), each by a contract: the same plain functions as span's.
-/
import Derived.WalkSmall
import Derived.Test.YthbjhpfgfpkppaaGreatDoorSpanB
import Derived.Test.YthbjhpfgfpkppaaGreatDoorSpanC
namespace Go.Proofs.YthbjhpfgfpkppaaGreatDoor
open Go Go.RowKit

set_option maxHeartbeats 400000 in
theorem end_any (w : World) :
    Calls Tryz.prog 45 #[] w fun e w' => e = .returned (.int .i64 4611686018427387904) ∧ w' = w := by
  go_enter Tryz.func45, Tryz.ntmps45
  go_wp2
  go_ret
  exact ⟨rfl, rfl⟩

set_option maxHeartbeats 400000 in
theorem rright_any (a b : Int) (w : World) :
    Calls Tryz.prog 44 #[.agg #[.int .i64 a, .int .i64 b]] w fun e w' => e = .returned (.bool (rtB a b)) ∧ Below w.heap.size w w' := by
  by_cases h0 : 0 ≤ a
  · by_cases h1 : a ≤ b
    · by_cases h2 : b ≤ 4611686018427387904
      · go_enter Tryz.func44, Tryz.ntmps44
        go_wp2
        go_quiet ((go_at_call 45; exact Calls.quiet_of_same (end_any _)))
        go_wp2
        go_ret
        exact ⟨ret_bool (by simp [rtB, h0, h1, h2]), below_drewN (by go_grown) _⟩
      · go_enter Tryz.func44, Tryz.ntmps44
        go_wp2
        go_quiet ((go_at_call 45; exact Calls.quiet_of_same (end_any _)))
        go_wp2
        go_ret
        exact ⟨ret_bool (by simp [rtB, h0, h1]), below_drewN (by go_grown) _⟩
    · have h1' : decide (a ≤ b) = false := by simpa using h1
      go_enter Tryz.func44, Tryz.ntmps44
      go_wp2
      go_quiet ((go_at_call 45; exact Calls.quiet_of_same (end_any _)))
      go_wp2
      go_ret
      exact ⟨ret_bool (rtB_no (by omega)).symm, below_drewN (by go_grown) _⟩
  · have h0' : decide (0 ≤ a) = false := by simpa using h0
    go_enter Tryz.func44, Tryz.ntmps44
    go_wp2
    go_quiet ((go_at_call 45; exact Calls.quiet_of_same (end_any _)))
    go_wp2
    go_ret
    exact ⟨ret_bool (rtB_no (by omega)).symm, below_drewN (by go_grown) _⟩

end Go.Proofs.YthbjhpfgfpkppaaGreatDoor
