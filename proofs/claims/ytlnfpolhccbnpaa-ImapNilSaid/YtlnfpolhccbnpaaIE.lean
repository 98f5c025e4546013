/-
  imap.same: whether two numbers are one.
-/
import Derived.Tactics2
import Derived.Defers
import Derived.Recover
import Derived.Test.YtlnfpolhccbnpaaSpanA
namespace Go.Proofs.Ytlnfpolhccbnpaa
open Go Go.RowKit

theorem same_idle (w : World) : CallsD Try.prog 60 #[] .returning w fun e u' w' => e = .returned (.tuple #[]) ∧ u' = .returning ∧ w' = w := by
  refine callsD_of_wpS Try.func60 rfl fun c₀ cs hu => ?_
  apply wpS_region
  simp [wpOpsS, go_sem, recoverD, hu, Try.ntmps60]
  cases c₀
  simp_all [bodyPostS, results, Try.results60]

theorem same_any (a b : Int) (w : World) : Calls Try.prog 45 #[.int .i64 a, .int .i64 b] w fun e w' => e = .returned (.bool (decide (a = b))) ∧ w' = w := by
  go_enter_defers Try.func45, Try.ntmps45
  go_wp2
  refine leaves_cons (f := 60) (args := #[]) (by simp) (by simp [go_sem]) ?_
  refine (same_idle _).mono ?_
  rintro e u' w'' ⟨rfl, rfl, rfl⟩
  have hb : (a == b) = decide (a = b) := by by_cases h : a = b <;> simp [h]
  exact ⟨.bool (a == b), by simp [results, Try.results45, go_sem], ret_bool hb, rfl⟩
end Go.Proofs.Ytlnfpolhccbnpaa
