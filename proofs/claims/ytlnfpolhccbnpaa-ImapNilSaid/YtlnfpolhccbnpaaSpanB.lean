/-
  The calls of layer 1 (span): Meet, Touch, Join, Within, each by a contract.
-/
import Derived.Test.YtlnfpolhccbnpaaSpanA
namespace Go.Proofs.Ytlnfpolhccbnpaa
open Go Go.RowKit

theorem lt_next {w w1 w2 : World} (h : w.heap.size < w1.heap.size ∧ w.heap.size + 1 < w1.heap.size ∧ w.heap.size + 1 + 1 < w1.heap.size) (k : w1.heap.size < w2.heap.size) : w1.heap.size < w2.heap.size ∧ w.heap.size < w2.heap.size ∧ w.heap.size + 1 < w2.heap.size ∧ w.heap.size + 1 + 1 < w2.heap.size := by omega
theorem lt_next2 {w w1 w2 : World} (h : w.heap.size < w1.heap.size ∧ w.heap.size + 1 < w1.heap.size) (k : w1.heap.size < w2.heap.size) : w1.heap.size < w2.heap.size ∧ w.heap.size < w2.heap.size ∧ w.heap.size + 1 < w2.heap.size := by omega
/-- have both something, and its two ends -/
def meetB (a b c d : Int) : Bool := rtB a b && rtB c d && decide (mxI a c < mnI b d)
def meetF (a b c d : Int) : Int := if meetB a b c d then mxI a c else 0
def meetT (a b c d : Int) : Int := if meetB a b c d then mnI b d else 0
set_option maxHeartbeats 800000 in
theorem meet_any (a b c d : Int) (w : World) :
    Calls Try.prog 57 #[.agg #[.int .i64 a, .int .i64 b], .agg #[.int .i64 c, .int .i64 d]] w fun e w' => e = .returned (.tuple #[.agg #[.int .i64 (meetF a b c d), .int .i64 (meetT a b c d)], .bool (meetB a b c d)]) ∧ Below w.heap.size w w' := by
  cases hr : rtB a b with
  | false =>
    have HF : Hid (Ending.returned (.tuple #[.agg #[.int .i64 0, .int .i64 0], .bool false]) = .returned (.tuple #[.agg #[.int .i64 (meetF a b c d), .int .i64 (meetT a b c d)], .bool (meetB a b c d)])) := by unfold Hid; have hm : meetB a b c d = false := (by simp [meetB, hr]); simp [meetF, meetT, hm]
    go_enter Try.func57, Try.ntmps57
    go_wp2_with (first
      | (go_at_call 71; with_reducible refine (overlap_any _ _ _ _ _).mono ?_; rintro e w1 ⟨rfl, hb1⟩; obtain ⟨hc1, hf1⟩ := bcell hb1; have hz1 := lt3 hb1; have B1 := bel (w := w) (by go_grown) hb1)
      | (go_at_call 56; with_reducible refine (right_any a b _).mono ?_; rintro e w2 ⟨rfl, hb2⟩; obtain ⟨hc2, hf2⟩ := bcell hb2; have hz2 := lt_next hz1 (lt1 hb2); have B2 := bel (w := w) (by go_grown) hb2))
    refine bodyPost_ret (v := .tuple #[.agg #[.int .i64 0, .int .i64 0], .bool false]) (by simp [results, Try.results57, go_sem, hc2, hc1, hz1]) rfl ⟨HF.out, by go_grown⟩
  | true =>
    cases hs : rtB c d with
    | false =>
      have HF : Hid (Ending.returned (.tuple #[.agg #[.int .i64 0, .int .i64 0], .bool false]) = .returned (.tuple #[.agg #[.int .i64 (meetF a b c d), .int .i64 (meetT a b c d)], .bool (meetB a b c d)])) := by unfold Hid; have hm : meetB a b c d = false := (by simp [meetB, hs]); simp [meetF, meetT, hm]
      go_enter Try.func57, Try.ntmps57
      go_wp2_with (first
        | (go_at_call 71; with_reducible refine (overlap_any _ _ _ _ _).mono ?_; rintro e w1 ⟨rfl, hb1⟩; obtain ⟨hc1, hf1⟩ := bcell hb1; have hz1 := lt3 hb1; have B1 := bel (w := w) (by go_grown) hb1)
        | (go_at_call 56; with_reducible refine (right_any a b _).mono ?_; rintro e w2 ⟨rfl, hb2⟩; obtain ⟨hc2, hf2⟩ := bcell hb2; have hz2 := lt_next hz1 (lt1 hb2); have B2 := bel (w := w) (by go_grown) hb2)
        | (go_at_call 56; with_reducible refine (right_any c d _).mono ?_; rintro e w3 ⟨rfl, hb3⟩; obtain ⟨hc3, hf3⟩ := bcell hb3;  have B3 := bel (w := w) B2 hb3))
      refine bodyPost_ret (v := .tuple #[.agg #[.int .i64 0, .int .i64 0], .bool false]) (by simp [results, Try.results57, go_sem, hc3, hc2, hc1, hz1, hz2]) rfl ⟨HF.out, by go_grown⟩
    | true =>
      by_cases h : mxI a c < mnI b d
      · have HF : Hid (Ending.returned (.tuple #[.agg #[.int .i64 (mxI a c), .int .i64 (mnI b d)], .bool true]) = .returned (.tuple #[.agg #[.int .i64 (meetF a b c d), .int .i64 (meetT a b c d)], .bool (meetB a b c d)])) := by unfold Hid; have hm : meetB a b c d = true := (by simp [meetB, hr, hs, h]); simp [meetF, meetT, hm]
        go_enter Try.func57, Try.ntmps57
        go_wp2_with (first
          | (go_at_call 71; with_reducible refine (overlap_any _ _ _ _ _).mono ?_; rintro e w1 ⟨rfl, hb1⟩; obtain ⟨hc1, hf1⟩ := bcell hb1; have hz1 := lt3 hb1; have B1 := bel (w := w) (by go_grown) hb1)
          | (go_at_call 56; with_reducible refine (right_any a b _).mono ?_; rintro e w2 ⟨rfl, hb2⟩; obtain ⟨hc2, hf2⟩ := bcell hb2; have hz2 := lt_next hz1 (lt1 hb2); have B2 := bel (w := w) (by go_grown) hb2)
          | (go_at_call 56; with_reducible refine (right_any c d _).mono ?_; rintro e w3 ⟨rfl, hb3⟩; obtain ⟨hc3, hf3⟩ := bcell hb3;  have B3 := bel (w := w) B2 hb3))
        refine bodyPost_ret (v := .tuple #[.agg #[.int .i64 (mxI a c), .int .i64 (mnI b d)], .bool true]) (by simp [results, Try.results57, go_sem, hc3, hc2, hc1, hz1, hz2]) rfl ⟨HF.out, by go_grown⟩
      · have HF : Hid (Ending.returned (.tuple #[.agg #[.int .i64 0, .int .i64 0], .bool false]) = .returned (.tuple #[.agg #[.int .i64 (meetF a b c d), .int .i64 (meetT a b c d)], .bool (meetB a b c d)])) := by unfold Hid; have hm : meetB a b c d = false := (by simp [meetB]; omega); simp [meetF, meetT, hm]
        go_enter Try.func57, Try.ntmps57
        go_wp2_with (first
          | (go_at_call 71; with_reducible refine (overlap_any _ _ _ _ _).mono ?_; rintro e w1 ⟨rfl, hb1⟩; obtain ⟨hc1, hf1⟩ := bcell hb1; have hz1 := lt3 hb1; have B1 := bel (w := w) (by go_grown) hb1)
          | (go_at_call 56; with_reducible refine (right_any a b _).mono ?_; rintro e w2 ⟨rfl, hb2⟩; obtain ⟨hc2, hf2⟩ := bcell hb2; have hz2 := lt_next hz1 (lt1 hb2); have B2 := bel (w := w) (by go_grown) hb2)
          | (go_at_call 56; with_reducible refine (right_any c d _).mono ?_; rintro e w3 ⟨rfl, hb3⟩; obtain ⟨hc3, hf3⟩ := bcell hb3;  have B3 := bel (w := w) B2 hb3))
        refine bodyPost_ret (v := .tuple #[.agg #[.int .i64 0, .int .i64 0], .bool false]) (by simp [results, Try.results57, go_sem, hc3, hc2, hc1, hz1, hz2]) rfl ⟨HF.out, by go_grown⟩

/-- touch, and the two ends of both as one -/
def touchB (a b c d : Int) : Bool := rtB a b && rtB c d && decide (mxI a c ≤ mnI b d)
def joinF (a b c d : Int) : Int := if touchB a b c d then mnI a c else 0
def joinT (a b c d : Int) : Int := if touchB a b c d then mxI b d else 0
def withinB (a b c d : Int) : Bool := rtB a b && rtB c d && (decide (a = b) || (decide (c ≤ a) && decide (b ≤ d)))
end Go.Proofs.Ytlnfpolhccbnpaa
