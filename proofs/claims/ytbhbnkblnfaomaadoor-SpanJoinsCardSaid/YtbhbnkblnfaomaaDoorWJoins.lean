/-
  The walk of SpanJoins.
-/
import Derived.Test.YtbhbnkblnfaomaaDoorAwake
import Derived.Test.YtbhbnkblnfaomaaDoorRef01C
namespace Go.Proofs.YtbhbnkblnfaomaaDoor
open Go Go.RowKit

theorem touchB_comm (a b c d : Int) : touchB c d a b = touchB a b c d := by
  unfold touchB; rw [mxI_comm c a, mnI_comm d b, Bool.and_comm (rtB c d)]
theorem joinF_comm (a b c d : Int) : joinF c d a b = joinF a b c d := by
  unfold joinF; rw [touchB_comm, mnI_comm c a]
theorem joinT_comm (a b c d : Int) : joinT c d a b = joinT a b c d := by
  unfold joinT; rw [touchB_comm, mxI_comm d b]
theorem join_back (a b c d : Int) (w : World) :
    Calls Tryd.prog 23 #[.agg #[.int .i64 c, .int .i64 d], .agg #[.int .i64 a, .int .i64 b]] w fun e w' => e = .returned (.tuple #[.agg #[.int .i64 (joinF a b c d), .int .i64 (joinT a b c d)], .bool (touchB a b c d)]) ∧ Below w.heap.size w w' := by
  have h := join_any c d a b w
  rw [joinF_comm, joinT_comm, touchB_comm] at h
  exact h
theorem touch_back (a b c d : Int) (w : World) :
    Calls Tryd.prog 25 #[.agg #[.int .i64 c, .int .i64 d], .agg #[.int .i64 a, .int .i64 b]] w fun e w' => e = .returned (.bool (touchB a b c d)) ∧ Below w.heap.size w w' := by
  have h := touch_any c d a b w
  rw [touchB_comm] at h
  exact h

set_option maxHeartbeats 4000000 in
set_option maxRecDepth 100000 in
theorem walk_SpanJoins (a b c d : Int) (w : World) (hL : LaidAt w) (_ha : (Lit.int .i64 a).wf = true) (_hb : (Lit.int .i64 b).wf = true) (_hc : (Lit.int .i64 c).wf = true) (_hd : (Lit.int .i64 d).wf = true) :
    Calls Tryd.prog 5 #[.agg #[.int .i64 a, .int .i64 b], .agg #[.int .i64 c, .int .i64 d]] w fun e w' => e = .returned (.bool true) ∧ Below w.heap.size w w' := by
  go_enter Tryd.func5, Tryd.ntmps5
  go_wp2_with fail
  with_reducible refine (join_any a b c d _).mono ?_
  rintro e w1 ⟨rfl, hb1⟩
  obtain ⟨hc1, hf1⟩ := bcell hb1
  have hz1 : w.heap.size < w1.heap.size ∧ w.heap.size + 1 < w1.heap.size ∧ w.heap.size < w1.heap.size + 1 ∧ w.heap.size + 1 < w1.heap.size + 1 := (by have := hb1.size; (try simp only [World.size_alloc] at this); omega)
  have B1 := bel (w := w) (by go_grown) hb1
  clear hb1
  go_wp2_with fail
  with_reducible refine (join_back a b c d _).mono ?_
  rintro e w2 ⟨rfl, hb2⟩
  obtain ⟨hc2, hf2⟩ := bcell hb2
  have hz2 : w.heap.size < w2.heap.size ∧ w.heap.size + 1 < w2.heap.size ∧ w1.heap.size < w2.heap.size ∧ w.heap.size < w2.heap.size + 1 ∧ w.heap.size + 1 < w2.heap.size + 1 ∧ w1.heap.size < w2.heap.size + 1 := (by have := hb2.size; (try simp only [World.size_alloc] at this); omega)
  have B2 := bel (w := w) (by go_grown) hb2
  clear hb2
  go_wp2_with fail
  with_reducible refine (rjoin_any a b c d _).mono ?_
  rintro e w3 ⟨rfl, hb3⟩
  obtain ⟨hc3, hf3⟩ := bcell hb3
  have hz3 : w.heap.size < w3.heap.size ∧ w.heap.size + 1 < w3.heap.size ∧ w1.heap.size < w3.heap.size ∧ w2.heap.size < w3.heap.size ∧ w.heap.size < w3.heap.size + 1 ∧ w.heap.size + 1 < w3.heap.size + 1 ∧ w1.heap.size < w3.heap.size + 1 ∧ w2.heap.size < w3.heap.size + 1 := (by have := hb3.size; (try simp only [World.size_alloc] at this); omega)
  have B3 := bel (w := w) (by go_grown) hb3
  clear hb3
  go_wp2_with fail
  with_reducible refine (awake_any _ (hL.below (by go_grown))).mono ?_
  rintro e w4 ⟨rfl, hb4⟩
  obtain ⟨hc4, hf4⟩ := bcell hb4
  have hz4 : w.heap.size < w4.heap.size ∧ w.heap.size + 1 < w4.heap.size ∧ w1.heap.size < w4.heap.size ∧ w2.heap.size < w4.heap.size ∧ w3.heap.size < w4.heap.size := (by have := hb4.size; (try simp only [World.size_alloc] at this); omega)
  have B4 := bel (w := w) (by go_grown) hb4
  clear hb4
  go_wp2_with fail
  with_reducible refine (touch_any a b c d _).mono ?_
  rintro e w5 ⟨rfl, hb5⟩
  obtain ⟨hc5, hf5⟩ := bcell hb5
  have hz5 : w.heap.size < w5.heap.size ∧ w.heap.size + 1 < w5.heap.size ∧ w1.heap.size < w5.heap.size ∧ w2.heap.size < w5.heap.size ∧ w3.heap.size < w5.heap.size := (by have := hb5.size; (try simp only [World.size_alloc] at this); omega)
  have B5 := bel (w := w) (by go_grown) hb5
  clear hb5
  go_wp2_with fail
  with_reducible refine (touch_back a b c d _).mono ?_
  rintro e w6 ⟨rfl, hb6⟩
  obtain ⟨hc6, hf6⟩ := bcell hb6
  have hz6 : w.heap.size < w6.heap.size ∧ w.heap.size + 1 < w6.heap.size ∧ w1.heap.size < w6.heap.size ∧ w2.heap.size < w6.heap.size ∧ w3.heap.size < w6.heap.size := (by have := hb6.size; (try simp only [World.size_alloc] at this); omega)
  have B6 := bel (w := w) (by go_grown) hb6
  clear hb6
  go_wp2_with fail
  go_ret
  exact ⟨ret_bool (by simp), by go_grown⟩
end Go.Proofs.YtbhbnkblnfaomaaDoor
