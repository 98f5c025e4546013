/-
  The walk of SpanMeets.
-/
import Derived.Lib.QuietBelow
import Derived.Test.YtbhbnkblnfaomaaDoorAwake
import Derived.Test.YtbhbnkblnfaomaaDoorRef01B
import Derived.Test.YtbhbnkblnfaomaaDoorRef01C
namespace Go.Proofs.YtbhbnkblnfaomaaDoor
open Go Go.RowKit Go.Sort

theorem rgm {P : Program} {f : FuncId} {args : Array Value} {w : World} {v : Value} (h : ∀ W, Below w.heap.size w W → Calls P f args W fun e w' => e = .returned v ∧ Below W.heap.size W w') :
    ∀ d os, Calls P f args (grow (redrawn w d) os) fun e w'' => e = .returned v ∧ ∃ p : Regrown, w'' = grow (redrawn w p.d) p.os :=
  fun d os => Calls.regrown_of (h _ (below_regrown w d os))
theorem meetB_comm (a b c d : Int) : meetB c d a b = meetB a b c d := by
  unfold meetB; rw [mxI_comm c a, mnI_comm d b, Bool.and_comm (rtB c d)]
theorem meet_back (a b c d : Int) (w : World) :
    Calls Tryd.prog 19 #[.agg #[.int .i64 c, .int .i64 d], .agg #[.int .i64 a, .int .i64 b]] w fun e w' => e = .returned (.tuple #[.agg #[.int .i64 (meetF a b c d), .int .i64 (meetT a b c d)], .bool (meetB a b c d)]) ∧ Below w.heap.size w w' := by
  have h := meet_any c d a b w
  rw [show meetF c d a b = meetF a b c d from by unfold meetF; rw [meetB_comm, mxI_comm c a], show meetT c d a b = meetT a b c d from by unfold meetT; rw [meetB_comm, mnI_comm d b], meetB_comm] at h
  exact h

set_option maxHeartbeats 4000000 in
set_option maxRecDepth 100000 in
theorem walk_SpanMeets (a b c d : Int) (w : World) (hL : LaidAt w) (_ha : (Lit.int .i64 a).wf = true) (_hb : (Lit.int .i64 b).wf = true) (_hc : (Lit.int .i64 c).wf = true) (_hd : (Lit.int .i64 d).wf = true) :
    Calls Tryd.prog 4 #[.agg #[.int .i64 a, .int .i64 b], .agg #[.int .i64 c, .int .i64 d]] w fun e w' => e = .returned (.bool true) ∧ Below w.heap.size w w' := by
  go_enter Tryd.func4, Tryd.ntmps4
  go_wp2_with fail
  with_reducible refine (meet_any a b c d _).mono ?_
  rintro e w1 ⟨rfl, hb1⟩
  obtain ⟨hc1, hf1⟩ := bcell hb1
  have hz1 : w.heap.size < w1.heap.size ∧ w.heap.size + 1 < w1.heap.size ∧ w.heap.size < w1.heap.size + 1 ∧ w.heap.size + 1 < w1.heap.size + 1 := (by have := hb1.size; (try simp only [World.size_alloc] at this); omega)
  have B1 := bel (w := w) (by go_grown) hb1
  clear hb1
  go_wp2_with fail
  with_reducible refine (meet_back a b c d _).mono ?_
  rintro e w2 ⟨rfl, hb2⟩
  obtain ⟨hc2, hf2⟩ := bcell hb2
  have hz2 : w.heap.size < w2.heap.size ∧ w.heap.size + 1 < w2.heap.size ∧ w1.heap.size < w2.heap.size ∧ w.heap.size < w2.heap.size + 1 ∧ w.heap.size + 1 < w2.heap.size + 1 ∧ w1.heap.size < w2.heap.size + 1 := (by have := hb2.size; (try simp only [World.size_alloc] at this); omega)
  have B2 := bel (w := w) (by go_grown) hb2
  clear hb2
  go_wp2_with fail
  with_reducible refine (rmeet_any a b c d _).mono ?_
  rintro e w3 ⟨rfl, hb3⟩
  obtain ⟨hc3, hf3⟩ := bcell hb3
  have hz3 : w.heap.size < w3.heap.size ∧ w.heap.size + 1 < w3.heap.size ∧ w1.heap.size < w3.heap.size ∧ w2.heap.size < w3.heap.size ∧ w.heap.size < w3.heap.size + 1 ∧ w.heap.size + 1 < w3.heap.size + 1 ∧ w1.heap.size < w3.heap.size + 1 ∧ w2.heap.size < w3.heap.size + 1 := (by have := hb3.size; (try simp only [World.size_alloc] at this); omega)
  have B3 := bel (w := w) (by go_grown) hb3
  clear hb3
  go_wp2_with fail
  have k00 := cell_regrown (show (w3.alloc (.cells #[.int .i64 (meetF a b c d), .int .i64 (meetT a b c d)] 23)).cell? ⟨w.heap.size, 0, none⟩ = some (.int .i64 a) from by simp [go_sem, *])
  have k01 := cell_regrown (show (w3.alloc (.cells #[.int .i64 (meetF a b c d), .int .i64 (meetT a b c d)] 23)).cell? ⟨w.heap.size, 1, none⟩ = some (.int .i64 b) from by simp [go_sem, *])
  have k10 := cell_regrown (show (w3.alloc (.cells #[.int .i64 (meetF a b c d), .int .i64 (meetT a b c d)] 23)).cell? ⟨w.heap.size + 1, 0, none⟩ = some (.int .i64 c) from by simp [go_sem, *])
  have k11 := cell_regrown (show (w3.alloc (.cells #[.int .i64 (meetF a b c d), .int .i64 (meetT a b c d)] 23)).cell? ⟨w.heap.size + 1, 1, none⟩ = some (.int .i64 d) from by simp [go_sem, *])
  have k20 := cell_regrown (show (w3.alloc (.cells #[.int .i64 (meetF a b c d), .int .i64 (meetT a b c d)] 23)).cell? ⟨w1.heap.size, 0, none⟩ = some (.int .i64 (meetF a b c d)) from by simp [go_sem, *])
  have k21 := cell_regrown (show (w3.alloc (.cells #[.int .i64 (meetF a b c d), .int .i64 (meetT a b c d)] 23)).cell? ⟨w1.heap.size, 1, none⟩ = some (.int .i64 (meetT a b c d)) from by simp [go_sem, *])
  have k30 := cell_regrown (show (w3.alloc (.cells #[.int .i64 (meetF a b c d), .int .i64 (meetT a b c d)] 23)).cell? ⟨w2.heap.size, 0, none⟩ = some (.int .i64 (meetF a b c d)) from by simp [go_sem, *])
  have k31 := cell_regrown (show (w3.alloc (.cells #[.int .i64 (meetF a b c d), .int .i64 (meetT a b c d)] 23)).cell? ⟨w2.heap.size, 1, none⟩ = some (.int .i64 (meetT a b c d)) from by simp [go_sem, *])
  have k40 := cell_regrown (show (w3.alloc (.cells #[.int .i64 (meetF a b c d), .int .i64 (meetT a b c d)] 23)).cell? ⟨w3.heap.size, 0, none⟩ = some (.int .i64 (meetF a b c d)) from by simp [go_sem, *])
  have k41 := cell_regrown (show (w3.alloc (.cells #[.int .i64 (meetF a b c d), .int .i64 (meetT a b c d)] 23)).cell? ⟨w3.heap.size, 1, none⟩ = some (.int .i64 (meetT a b c d)) from by simp [go_sem, *])
  have W4 : Below w.heap.size w (w3.alloc (.cells #[.int .i64 (meetF a b c d), .int .i64 (meetT a b c d)] 23)) := by go_grown
  have qA := rgm (w := (w3.alloc (.cells #[.int .i64 (meetF a b c d), .int .i64 (meetT a b c d)] 23))) (f := 12) (args := #[]) (v := .bool true) (fun W hW => awake_any W ((hL.below W4).below hW))
  have q1 := rgm (w := (w3.alloc (.cells #[.int .i64 (meetF a b c d), .int .i64 (meetT a b c d)] 23))) (fun W _ => within_any a b c d W)
  have q2 := rgm (w := (w3.alloc (.cells #[.int .i64 (meetF a b c d), .int .i64 (meetT a b c d)] 23))) (fun W _ => rwithin_any a b c d W)
  clear hc1 hc2 hc3 hf1 hf2 hf3
  refine wp_region_quiet_below (by kernel_rfl) (by kernel_rfl) ?_
  repeat (quiet_step (first | with_reducible exact qA _ _ | with_reducible exact q1 _ _ | with_reducible exact q2 _ _))
  refine wpQuiet_nil ?_
  intro _ hw'
  obtain ⟨⟨dq, osq⟩, hw''⟩ := hw'
  subst hw''
  go_wp2_with fail
  go_ret
  exact ⟨ret_bool (by simp), bel W4 (below_regrown _ dq osq)⟩
end Go.Proofs.YtbhbnkblnfaomaaDoor
