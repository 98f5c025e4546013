/-
  imap.same: whether two numbers are one.
-/
import Derived.Tactics2
import Derived.Defers
import Derived.Recover
import Derived.Test.YthbjhpfgfpkppaaDoorSpanA
namespace Go.Proofs.YthbjhpfgfpkppaaDoor
open Go Go.RowKit

theorem same_idle (w : World) : CallsD Tryd.prog 49 #[] .returning w fun e u' w' => e = .returned (.tuple #[]) ∧ u' = .returning ∧ w' = w := by
  refine callsD_of_wpS Tryd.func49 rfl fun c₀ cs hu => ?_
  apply wpS_region
  simp [wpOpsS, go_sem, recoverD, hu, Tryd.ntmps49]
  cases c₀
  simp_all [bodyPostS, results, Tryd.results49]

theorem same_any (a b : Int) (w : World) : Calls Tryd.prog 28 #[.int .u8 a, .int .u8 b] w fun e w' => e = .returned (.bool (decide (a = b))) ∧ w' = w := by
  go_enter_defers Tryd.func28, Tryd.ntmps28
  go_wp2
  refine leaves_cons (f := 49) (args := #[]) (by simp) (by simp [go_sem]) ?_
  refine (same_idle _).mono ?_
  rintro e u' w'' ⟨rfl, rfl, rfl⟩
  have hb : (a == b) = decide (a = b) := by by_cases h : a = b <;> simp [h]
  exact ⟨.bool (a == b), by simp [results, Tryd.results28, go_sem], ret_bool hb, rfl⟩
end Go.Proofs.YthbjhpfgfpkppaaDoor
