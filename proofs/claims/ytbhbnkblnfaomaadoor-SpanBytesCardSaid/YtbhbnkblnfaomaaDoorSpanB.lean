/-
  The calls of layer 1 (span): Meet, Touch, Join, Within, each by a contract.
-/
import Derived.Test.YtbhbnkblnfaomaaDoorSpanA
namespace Go.Proofs.YtbhbnkblnfaomaaDoor
open Go Go.RowKit

theorem lt_next {w w1 w2 : World} (h : w.heap.size < w1.heap.size ∧ w.heap.size + 1 < w1.heap.size ∧ w.heap.size + 1 + 1 < w1.heap.size) (k : w1.heap.size < w2.heap.size) : w1.heap.size < w2.heap.size ∧ w.heap.size < w2.heap.size ∧ w.heap.size + 1 < w2.heap.size ∧ w.heap.size + 1 + 1 < w2.heap.size := by omega
theorem lt_next2 {w w1 w2 : World} (h : w.heap.size < w1.heap.size ∧ w.heap.size + 1 < w1.heap.size) (k : w1.heap.size < w2.heap.size) : w1.heap.size < w2.heap.size ∧ w.heap.size < w2.heap.size ∧ w.heap.size + 1 < w2.heap.size := by omega
/-- have both something, and its two ends -/
def meetB (a b c d : Int) : Bool := rtB a b && rtB c d && decide (mxI a c < mnI b d)
def meetF (a b c d : Int) : Int := if meetB a b c d then mxI a c else 0
def meetT (a b c d : Int) : Int := if meetB a b c d then mnI b d else 0
set_option maxHeartbeats 800000 in
theorem meet_any (a b c d : Int) (w : World) :
    Calls Tryd.prog 19 #[.agg #[.int .i64 a, .int .i64 b], .agg #[.int .i64 c, .int .i64 d]] w fun e w' => e = .returned (.tuple #[.agg #[.int .i64 (meetF a b c d), .int .i64 (meetT a b c d)], .bool (meetB a b c d)]) ∧ Below w.heap.size w w' := by
  cases hr : rtB a b with
  | false =>
    have HF : Hid (Ending.returned (.tuple #[.agg #[.int .i64 0, .int .i64 0], .bool false]) = .returned (.tuple #[.agg #[.int .i64 (meetF a b c d), .int .i64 (meetT a b c d)], .bool (meetB a b c d)])) := by unfold Hid; have hm : meetB a b c d = false := (by simp [meetB, hr]); simp [meetF, meetT, hm]
    go_enter Tryd.func19, Tryd.ntmps19
    go_wp2_with (first
      | (go_at_call 37; with_reducible refine (overlap_any _ _ _ _ _).mono ?_; rintro e w1 ⟨rfl, hb1⟩; obtain ⟨hc1, hf1⟩ := bcell hb1; have hz1 := lt3 hb1; have B1 := bel (w := w) (by go_grown) hb1)
      | (go_at_call 13; with_reducible refine (right_any a b _).mono ?_; rintro e w2 ⟨rfl, hb2⟩; obtain ⟨hc2, hf2⟩ := bcell hb2; have hz2 := lt_next hz1 (lt1 hb2); have B2 := bel (w := w) (by go_grown) hb2))
    refine bodyPost_ret (v := .tuple #[.agg #[.int .i64 0, .int .i64 0], .bool false]) (by simp [results, Tryd.results19, go_sem, hc2, hc1, hz1]) rfl ⟨HF.out, by go_grown⟩
  | true =>
    cases hs : rtB c d with
    | false =>
      have HF : Hid (Ending.returned (.tuple #[.agg #[.int .i64 0, .int .i64 0], .bool false]) = .returned (.tuple #[.agg #[.int .i64 (meetF a b c d), .int .i64 (meetT a b c d)], .bool (meetB a b c d)])) := by unfold Hid; have hm : meetB a b c d = false := (by simp [meetB, hs]); simp [meetF, meetT, hm]
      go_enter Tryd.func19, Tryd.ntmps19
      go_wp2_with (first
        | (go_at_call 37; with_reducible refine (overlap_any _ _ _ _ _).mono ?_; rintro e w1 ⟨rfl, hb1⟩; obtain ⟨hc1, hf1⟩ := bcell hb1; have hz1 := lt3 hb1; have B1 := bel (w := w) (by go_grown) hb1)
        | (go_at_call 13; with_reducible refine (right_any a b _).mono ?_; rintro e w2 ⟨rfl, hb2⟩; obtain ⟨hc2, hf2⟩ := bcell hb2; have hz2 := lt_next hz1 (lt1 hb2); have B2 := bel (w := w) (by go_grown) hb2)
        | (go_at_call 13; with_reducible refine (right_any c d _).mono ?_; rintro e w3 ⟨rfl, hb3⟩; obtain ⟨hc3, hf3⟩ := bcell hb3;  have B3 := bel (w := w) B2 hb3))
      refine bodyPost_ret (v := .tuple #[.agg #[.int .i64 0, .int .i64 0], .bool false]) (by simp [results, Tryd.results19, go_sem, hc3, hc2, hc1, hz1, hz2]) rfl ⟨HF.out, by go_grown⟩
    | true =>
      by_cases h : mxI a c < mnI b d
      · have HF : Hid (Ending.returned (.tuple #[.agg #[.int .i64 (mxI a c), .int .i64 (mnI b d)], .bool true]) = .returned (.tuple #[.agg #[.int .i64 (meetF a b c d), .int .i64 (meetT a b c d)], .bool (meetB a b c d)])) := by unfold Hid; have hm : meetB a b c d = true := (by simp [meetB, hr, hs, h]); simp [meetF, meetT, hm]
        go_enter Tryd.func19, Tryd.ntmps19
        go_wp2_with (first
          | (go_at_call 37; with_reducible refine (overlap_any _ _ _ _ _).mono ?_; rintro e w1 ⟨rfl, hb1⟩; obtain ⟨hc1, hf1⟩ := bcell hb1; have hz1 := lt3 hb1; have B1 := bel (w := w) (by go_grown) hb1)
          | (go_at_call 13; with_reducible refine (right_any a b _).mono ?_; rintro e w2 ⟨rfl, hb2⟩; obtain ⟨hc2, hf2⟩ := bcell hb2; have hz2 := lt_next hz1 (lt1 hb2); have B2 := bel (w := w) (by go_grown) hb2)
          | (go_at_call 13; with_reducible refine (right_any c d _).mono ?_; rintro e w3 ⟨rfl, hb3⟩; obtain ⟨hc3, hf3⟩ := bcell hb3;  have B3 := bel (w := w) B2 hb3))
        refine bodyPost_ret (v := .tuple #[.agg #[.int .i64 (mxI a c), .int .i64 (mnI b d)], .bool true]) (by simp [results, Tryd.results19, go_sem, hc3, hc2, hc1, hz1, hz2]) rfl ⟨HF.out, by go_grown⟩
      · have HF : Hid (Ending.returned (.tuple #[.agg #[.int .i64 0, .int .i64 0], .bool false]) = .returned (.tuple #[.agg #[.int .i64 (meetF a b c d), .int .i64 (meetT a b c d)], .bool (meetB a b c d)])) := by unfold Hid; have hm : meetB a b c d = false := (by simp [meetB]; omega); simp [meetF, meetT, hm]
        go_enter Tryd.func19, Tryd.ntmps19
        go_wp2_with (first
          | (go_at_call 37; with_reducible refine (overlap_any _ _ _ _ _).mono ?_; rintro e w1 ⟨rfl, hb1⟩; obtain ⟨hc1, hf1⟩ := bcell hb1; have hz1 := lt3 hb1; have B1 := bel (w := w) (by go_grown) hb1)
          | (go_at_call 13; with_reducible refine (right_any a b _).mono ?_; rintro e w2 ⟨rfl, hb2⟩; obtain ⟨hc2, hf2⟩ := bcell hb2; have hz2 := lt_next hz1 (lt1 hb2); have B2 := bel (w := w) (by go_grown) hb2)
          | (go_at_call 13; with_reducible refine (right_any c d _).mono ?_; rintro e w3 ⟨rfl, hb3⟩; obtain ⟨hc3, hf3⟩ := bcell hb3;  have B3 := bel (w := w) B2 hb3))
        refine bodyPost_ret (v := .tuple #[.agg #[.int .i64 0, .int .i64 0], .bool false]) (by simp [results, Tryd.results19, go_sem, hc3, hc2, hc1, hz1, hz2]) rfl ⟨HF.out, by go_grown⟩

/-- touch, and the two ends of both as one -/
def touchB (a b c d : Int) : Bool := rtB a b && rtB c d && decide (mxI a c ≤ mnI b d)
set_option maxHeartbeats 800000 in
theorem touch_any (a b c d : Int) (w : World) :
    Calls Tryd.prog 25 #[.agg #[.int .i64 a, .int .i64 b], .agg #[.int .i64 c, .int .i64 d]] w fun e w' => e = .returned (.bool (touchB a b c d)) ∧ Below w.heap.size w w' := by
  cases hr : rtB a b with
  | false =>
    go_enter Tryd.func25, Tryd.ntmps25
    go_wp2_with (first
      | (go_at_call 37; with_reducible refine (overlap_any _ _ _ _ _).mono ?_; rintro e w1 ⟨rfl, hb1⟩; obtain ⟨hc1, hf1⟩ := bcell hb1; have hz1 := lt2 hb1; have B1 := bel (w := w) (by go_grown) hb1)
      | (go_at_call 13; with_reducible refine (right_any a b _).mono ?_; rintro e w2 ⟨rfl, hb2⟩; obtain ⟨hc2, hf2⟩ := bcell hb2; have hz2 := lt_next2 hz1 (lt1 hb2); have B2 := bel (w := w) (by go_grown) hb2))
    go_ret
    exact ⟨ret_bool (by simp [touchB, hr]), by go_grown⟩
  | true =>
    cases hs : rtB c d with
    | false =>
      go_enter Tryd.func25, Tryd.ntmps25
      go_wp2_with (first
        | (go_at_call 37; with_reducible refine (overlap_any _ _ _ _ _).mono ?_; rintro e w1 ⟨rfl, hb1⟩; obtain ⟨hc1, hf1⟩ := bcell hb1; have hz1 := lt2 hb1; have B1 := bel (w := w) (by go_grown) hb1)
        | (go_at_call 13; with_reducible refine (right_any a b _).mono ?_; rintro e w2 ⟨rfl, hb2⟩; obtain ⟨hc2, hf2⟩ := bcell hb2; have hz2 := lt_next2 hz1 (lt1 hb2); have B2 := bel (w := w) (by go_grown) hb2)
        | (go_at_call 13; with_reducible refine (right_any c d _).mono ?_; rintro e w3 ⟨rfl, hb3⟩; obtain ⟨hc3, hf3⟩ := bcell hb3;  have B3 := bel (w := w) B2 hb3))
      go_ret
      exact ⟨ret_bool (by simp [touchB, hs]), by go_grown⟩
    | true =>
      by_cases h : mxI a c ≤ mnI b d
      · go_enter Tryd.func25, Tryd.ntmps25
        go_wp2_with (first
          | (go_at_call 37; with_reducible refine (overlap_any _ _ _ _ _).mono ?_; rintro e w1 ⟨rfl, hb1⟩; obtain ⟨hc1, hf1⟩ := bcell hb1; have hz1 := lt2 hb1; have B1 := bel (w := w) (by go_grown) hb1)
          | (go_at_call 13; with_reducible refine (right_any a b _).mono ?_; rintro e w2 ⟨rfl, hb2⟩; obtain ⟨hc2, hf2⟩ := bcell hb2; have hz2 := lt_next2 hz1 (lt1 hb2); have B2 := bel (w := w) (by go_grown) hb2)
          | (go_at_call 13; with_reducible refine (right_any c d _).mono ?_; rintro e w3 ⟨rfl, hb3⟩; obtain ⟨hc3, hf3⟩ := bcell hb3;  have B3 := bel (w := w) B2 hb3))
        go_ret
        exact ⟨ret_bool (by simp [touchB, hr, hs, h]), by go_grown⟩
      · go_enter Tryd.func25, Tryd.ntmps25
        go_wp2_with (first
          | (go_at_call 37; with_reducible refine (overlap_any _ _ _ _ _).mono ?_; rintro e w1 ⟨rfl, hb1⟩; obtain ⟨hc1, hf1⟩ := bcell hb1; have hz1 := lt2 hb1; have B1 := bel (w := w) (by go_grown) hb1)
          | (go_at_call 13; with_reducible refine (right_any a b _).mono ?_; rintro e w2 ⟨rfl, hb2⟩; obtain ⟨hc2, hf2⟩ := bcell hb2; have hz2 := lt_next2 hz1 (lt1 hb2); have B2 := bel (w := w) (by go_grown) hb2)
          | (go_at_call 13; with_reducible refine (right_any c d _).mono ?_; rintro e w3 ⟨rfl, hb3⟩; obtain ⟨hc3, hf3⟩ := bcell hb3;  have B3 := bel (w := w) B2 hb3))
        go_ret
        exact ⟨ret_bool (by simp [touchB]; omega), by go_grown⟩

def joinF (a b c d : Int) : Int := if touchB a b c d then mnI a c else 0
def joinT (a b c d : Int) : Int := if touchB a b c d then mxI b d else 0
set_option maxHeartbeats 800000 in
theorem join_any (a b c d : Int) (w : World) :
    Calls Tryd.prog 23 #[.agg #[.int .i64 a, .int .i64 b], .agg #[.int .i64 c, .int .i64 d]] w fun e w' => e = .returned (.tuple #[.agg #[.int .i64 (joinF a b c d), .int .i64 (joinT a b c d)], .bool (touchB a b c d)]) ∧ Below w.heap.size w w' := by
  cases ht : touchB a b c d with
  | false =>
    have HF : Hid (Ending.returned (.tuple #[.agg #[.int .i64 0, .int .i64 0], .bool false]) = .returned (.tuple #[.agg #[.int .i64 (joinF a b c d), .int .i64 (joinT a b c d)], .bool false])) := by unfold Hid; simp [joinF, joinT, ht]
    go_enter Tryd.func23, Tryd.ntmps23
    go_wp2_with (first
      | (go_at_call 25; with_reducible refine (touch_any a b c d _).mono ?_; rintro e w1 ⟨rfl, hb1⟩; obtain ⟨hc1, hf1⟩ := bcell hb1; have hz1 := lt3 hb1; have B1 := bel (w := w) (by go_grown) hb1))
    refine bodyPost_ret (v := .tuple #[.agg #[.int .i64 0, .int .i64 0], .bool false]) (by simp [results, Tryd.results23, go_sem, hc1]) rfl ⟨HF.out, by go_grown⟩
  | true =>
    have HF : Hid (Ending.returned (.tuple #[.agg #[.int .i64 (mnI a c), .int .i64 (mxI b d)], .bool true]) = .returned (.tuple #[.agg #[.int .i64 (joinF a b c d), .int .i64 (joinT a b c d)], .bool true])) := by unfold Hid; simp [joinF, joinT, ht]
    go_enter Tryd.func23, Tryd.ntmps23
    go_wp2_with (first
      | (go_at_call 25; with_reducible refine (touch_any a b c d _).mono ?_; rintro e w1 ⟨rfl, hb1⟩; obtain ⟨hc1, hf1⟩ := bcell hb1; have hz1 := lt3 hb1; have B1 := bel (w := w) (by go_grown) hb1))
    all_goals
      refine bodyPost_ret (v := .tuple #[.agg #[.int .i64 (mnI a c), .int .i64 (mxI b d)], .bool true]) (by simp [results, Tryd.results23, go_sem, hc1, mnI, mxI]; omega) rfl ⟨HF.out, by go_grown⟩

def withinB (a b c d : Int) : Bool := rtB a b && rtB c d && (decide (a = b) || (decide (c ≤ a) && decide (b ≤ d)))
set_option maxHeartbeats 800000 in
theorem within_any (a b c d : Int) (w : World) :
    Calls Tryd.prog 21 #[.agg #[.int .i64 a, .int .i64 b], .agg #[.int .i64 c, .int .i64 d]] w fun e w' => e = .returned (.bool (withinB a b c d)) ∧ Below w.heap.size w w' := by
  cases hr : rtB a b with
  | false =>
    go_enter Tryd.func21, Tryd.ntmps21
    go_wp2_with (first
      | (go_at_call 13; with_reducible refine (right_any a b _).mono ?_; rintro e w1 ⟨rfl, hb1⟩; obtain ⟨hc1, hf1⟩ := bcell hb1; have hz1 := lt2 hb1; have B1 := bel (w := w) (by go_grown) hb1))
    go_ret
    exact ⟨ret_bool (by simp [withinB, hr]), by go_grown⟩
  | true =>
    cases hs : rtB c d with
    | false =>
      go_enter Tryd.func21, Tryd.ntmps21
      go_wp2_with (first
        | (go_at_call 13; with_reducible refine (right_any a b _).mono ?_; rintro e w1 ⟨rfl, hb1⟩; obtain ⟨hc1, hf1⟩ := bcell hb1; have hz1 := lt2 hb1; have B1 := bel (w := w) (by go_grown) hb1)
        | (go_at_call 13; with_reducible refine (right_any c d _).mono ?_; rintro e w2 ⟨rfl, hb2⟩; obtain ⟨hc2, hf2⟩ := bcell hb2; have B2 := bel (w := w) B1 hb2))
      go_ret
      exact ⟨ret_bool (by simp [withinB, hs]), by go_grown⟩
    | true =>
      by_cases h : a = b
      · subst h
        go_enter Tryd.func21, Tryd.ntmps21
        go_wp2_with (first
          | (go_at_call 13; with_reducible refine (right_any a a _).mono ?_; rintro e w1 ⟨rfl, hb1⟩; obtain ⟨hc1, hf1⟩ := bcell hb1; have hz1 := lt2 hb1; have B1 := bel (w := w) (by go_grown) hb1)
          | (go_at_call 13; with_reducible refine (right_any c d _).mono ?_; rintro e w2 ⟨rfl, hb2⟩; obtain ⟨hc2, hf2⟩ := bcell hb2; have B2 := bel (w := w) B1 hb2))
        go_ret
        exact ⟨ret_bool (by simp [withinB, hr, hs]), by go_grown⟩
      · have h' : (a == b) = false := by simpa using h
        by_cases h1 : c ≤ a
        · by_cases h2 : b ≤ d
          · go_enter Tryd.func21, Tryd.ntmps21
            go_wp2_with (first
              | (go_at_call 13; with_reducible refine (right_any a b _).mono ?_; rintro e w1 ⟨rfl, hb1⟩; obtain ⟨hc1, hf1⟩ := bcell hb1; have hz1 := lt2 hb1; have B1 := bel (w := w) (by go_grown) hb1)
              | (go_at_call 13; with_reducible refine (right_any c d _).mono ?_; rintro e w2 ⟨rfl, hb2⟩; obtain ⟨hc2, hf2⟩ := bcell hb2; have B2 := bel (w := w) B1 hb2))
            go_ret
            exact ⟨ret_bool (by simp [withinB, hr, hs, h, h1, h2]), by go_grown⟩
          · go_enter Tryd.func21, Tryd.ntmps21
            go_wp2_with (first
              | (go_at_call 13; with_reducible refine (right_any a b _).mono ?_; rintro e w1 ⟨rfl, hb1⟩; obtain ⟨hc1, hf1⟩ := bcell hb1; have hz1 := lt2 hb1; have B1 := bel (w := w) (by go_grown) hb1)
              | (go_at_call 13; with_reducible refine (right_any c d _).mono ?_; rintro e w2 ⟨rfl, hb2⟩; obtain ⟨hc2, hf2⟩ := bcell hb2; have B2 := bel (w := w) B1 hb2))
            go_ret
            exact ⟨ret_bool (by simp [withinB, hr, hs, h]; omega), by go_grown⟩
        · go_enter Tryd.func21, Tryd.ntmps21
          go_wp2_with (first
            | (go_at_call 13; with_reducible refine (right_any a b _).mono ?_; rintro e w1 ⟨rfl, hb1⟩; obtain ⟨hc1, hf1⟩ := bcell hb1; have hz1 := lt2 hb1; have B1 := bel (w := w) (by go_grown) hb1)
            | (go_at_call 13; with_reducible refine (right_any c d _).mono ?_; rintro e w2 ⟨rfl, hb2⟩; obtain ⟨hc2, hf2⟩ := bcell hb2; have B2 := bel (w := w) B1 hb2))
          go_ret
          exact ⟨ret_bool (by simp [withinB, hr, hs, h]; omega), by go_grown⟩
end Go.Proofs.YtbhbnkblnfaomaaDoor
