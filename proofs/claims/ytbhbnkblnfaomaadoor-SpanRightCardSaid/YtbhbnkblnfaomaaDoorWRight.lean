/-
  The walk of SpanRight.
-/
import Derived.Test.YtbhbnkblnfaomaaDoorAwake
import Derived.Test.YtbhbnkblnfaomaaDoorRef01A
import Derived.Lib.QuietBelow
namespace Go.Proofs.YtbhbnkblnfaomaaDoor
open Go Go.RowKit Go.Sort

/-- a contract that only makes memory, met in every world of the class -/
theorem rg {P : Program} {f : FuncId} {args : Array Value} {w : World} {v : Value} (h : ∀ W, Below w.heap.size w W → Calls P f args W fun e w' => e = .returned v ∧ Below W.heap.size W w') :
    ∀ d os, Calls P f args (grow (redrawn w d) os) fun e w'' => e = .returned v ∧ ∃ p : Regrown, w'' = grow (redrawn w p.d) p.os :=
  fun d os => Calls.regrown_of (h _ (below_regrown w d os))

set_option maxHeartbeats 2000000 in
theorem walk_SpanRight (a b p : Int) (w : World) (hL : LaidAt w) (_wa : (Lit.int .i64 a).wf = true) (_wb : (Lit.int .i64 b).wf = true) (_wp : (Lit.int .i64 p).wf = true) :
    Calls Tryd.prog 3 #[.agg #[.int .i64 a, .int .i64 b], .int .i64 p] w fun e w' => e = .returned (.bool true) ∧ Below w.heap.size w w' := by
  have W0 : Below w.heap.size w (w.alloc (.cells #[.int .i64 a, .int .i64 b] 23)) := by go_grown
  have k0 := cell_regrown (show (w.alloc (.cells #[.int .i64 a, .int .i64 b] 23)).cell? ⟨w.heap.size, 0, none⟩ = some (.int .i64 a) from by simp)
  have k1 := cell_regrown (show (w.alloc (.cells #[.int .i64 a, .int .i64 b] 23)).cell? ⟨w.heap.size, 1, none⟩ = some (.int .i64 b) from by simp)
  have cA := rg (w := w.alloc (.cells #[.int .i64 a, .int .i64 b] 23)) (f := 12) (args := #[]) (v := .bool true) (fun W hW => awake_any W ((hL.below W0).below hW))
  have c1 := rg (w := w.alloc (.cells #[.int .i64 a, .int .i64 b] 23)) (fun W _ => right_any a b W)
  have c2 := rg (w := w.alloc (.cells #[.int .i64 a, .int .i64 b] 23)) (fun W _ => rright_any a b W)
  have c3 := rg (w := w.alloc (.cells #[.int .i64 a, .int .i64 b] 23)) (fun W _ => len_any a b W)
  have c4 := rg (w := w.alloc (.cells #[.int .i64 a, .int .i64 b] 23)) (fun W _ => rlen_any a b W)
  have c5 := rg (w := w.alloc (.cells #[.int .i64 a, .int .i64 b] 23)) (fun W _ => has_any a b p W)
  have c6 := rg (w := w.alloc (.cells #[.int .i64 a, .int .i64 b] 23)) (fun W _ => rhas_any a b p W)
  go_enter Tryd.func3, Tryd.ntmps3
  go_wp2
  refine wp_region_quiet_below (by kernel_rfl) (by kernel_rfl) ?_
  repeat (quiet_step (first | exact cA _ _ | exact c1 _ _ | exact c2 _ _ | exact c3 _ _ | exact c4 _ _ | exact c5 _ _ | exact c6 _ _))
  refine wpQuiet_nil ?_
  intro _ hw'
  obtain ⟨⟨dq, osq⟩, hw''⟩ := hw'
  subst hw''
  go_wp2
  go_ret
  exact ⟨ret_bool (by simp), bel W0 (below_regrown _ dq osq)⟩
end Go.Proofs.YtbhbnkblnfaomaaDoor
