/-
  The calls of layer 1 (span): Meet, Touch, Join, Within, each by a contract.
-/
import Derived.Test.YtoimoalkihjcfaaDoorSpanA
namespace Go.Proofs.YtoimoalkihjcfaaDoor
open Go Go.RowKit

theorem lt_next {w w1 w2 : World} (h : w.heap.size < w1.heap.size ∧ w.heap.size + 1 < w1.heap.size ∧ w.heap.size + 1 + 1 < w1.heap.size) (k : w1.heap.size < w2.heap.size) : w1.heap.size < w2.heap.size ∧ w.heap.size < w2.heap.size ∧ w.heap.size + 1 < w2.heap.size ∧ w.heap.size + 1 + 1 < w2.heap.size := by omega
theorem lt_next2 {w w1 w2 : World} (h : w.heap.size < w1.heap.size ∧ w.heap.size + 1 < w1.heap.size) (k : w1.heap.size < w2.heap.size) : w1.heap.size < w2.heap.size ∧ w.heap.size < w2.heap.size ∧ w.heap.size + 1 < w2.heap.size := by omega
/-- have both something, and its two ends -/
def meetB (a b c d : Int) : Bool := rtB a b && rtB c d && decide (mxI a c < mnI b d)
def meetF (a b c d : Int) : Int := if meetB a b c d then mxI a c else 0
def meetT (a b c d : Int) : Int := if meetB a b c d then mnI b d else 0
/-- touch, and the two ends of both as one -/
def touchB (a b c d : Int) : Bool := rtB a b && rtB c d && decide (mxI a c ≤ mnI b d)
def joinF (a b c d : Int) : Int := if touchB a b c d then mnI a c else 0
def joinT (a b c d : Int) : Int := if touchB a b c d then mxI b d else 0
def withinB (a b c d : Int) : Bool := rtB a b && rtB c d && (decide (a = b) || (decide (c ≤ a) && decide (b ≤ d)))
set_option maxHeartbeats 800000 in
theorem within_any (a b c d : Int) (w : World) :
    Calls Tryd.prog 57 #[.agg #[.int .i64 a, .int .i64 b], .agg #[.int .i64 c, .int .i64 d]] w fun e w' => e = .returned (.bool (withinB a b c d)) ∧ Below w.heap.size w w' := by
  cases hr : rtB a b with
  | false =>
    go_enter Tryd.func57, Tryd.ntmps57
    go_wp2_with (first
      | (go_at_call 56; with_reducible refine (right_any a b _).mono ?_; rintro e w1 ⟨rfl, hb1⟩; obtain ⟨hc1, hf1⟩ := bcell hb1; have hz1 := lt2 hb1; have B1 := bel (w := w) (by go_grown) hb1))
    go_ret
    exact ⟨ret_bool (by simp [withinB, hr]), by go_grown⟩
  | true =>
    cases hs : rtB c d with
    | false =>
      go_enter Tryd.func57, Tryd.ntmps57
      go_wp2_with (first
        | (go_at_call 56; with_reducible refine (right_any a b _).mono ?_; rintro e w1 ⟨rfl, hb1⟩; obtain ⟨hc1, hf1⟩ := bcell hb1; have hz1 := lt2 hb1; have B1 := bel (w := w) (by go_grown) hb1)
        | (go_at_call 56; with_reducible refine (right_any c d _).mono ?_; rintro e w2 ⟨rfl, hb2⟩; obtain ⟨hc2, hf2⟩ := bcell hb2; have B2 := bel (w := w) B1 hb2))
      go_ret
      exact ⟨ret_bool (by simp [withinB, hs]), by go_grown⟩
    | true =>
      by_cases h : a = b
      · subst h
        go_enter Tryd.func57, Tryd.ntmps57
        go_wp2_with (first
          | (go_at_call 56; with_reducible refine (right_any a a _).mono ?_; rintro e w1 ⟨rfl, hb1⟩; obtain ⟨hc1, hf1⟩ := bcell hb1; have hz1 := lt2 hb1; have B1 := bel (w := w) (by go_grown) hb1)
          | (go_at_call 56; with_reducible refine (right_any c d _).mono ?_; rintro e w2 ⟨rfl, hb2⟩; obtain ⟨hc2, hf2⟩ := bcell hb2; have B2 := bel (w := w) B1 hb2))
        go_ret
        exact ⟨ret_bool (by simp [withinB, hr, hs]), by go_grown⟩
      · have h' : (a == b) = false := by simpa using h
        by_cases h1 : c ≤ a
        · by_cases h2 : b ≤ d
          · go_enter Tryd.func57, Tryd.ntmps57
            go_wp2_with (first
              | (go_at_call 56; with_reducible refine (right_any a b _).mono ?_; rintro e w1 ⟨rfl, hb1⟩; obtain ⟨hc1, hf1⟩ := bcell hb1; have hz1 := lt2 hb1; have B1 := bel (w := w) (by go_grown) hb1)
              | (go_at_call 56; with_reducible refine (right_any c d _).mono ?_; rintro e w2 ⟨rfl, hb2⟩; obtain ⟨hc2, hf2⟩ := bcell hb2; have B2 := bel (w := w) B1 hb2))
            go_ret
            exact ⟨ret_bool (by simp [withinB, hr, hs, h, h1, h2]), by go_grown⟩
          · go_enter Tryd.func57, Tryd.ntmps57
            go_wp2_with (first
              | (go_at_call 56; with_reducible refine (right_any a b _).mono ?_; rintro e w1 ⟨rfl, hb1⟩; obtain ⟨hc1, hf1⟩ := bcell hb1; have hz1 := lt2 hb1; have B1 := bel (w := w) (by go_grown) hb1)
              | (go_at_call 56; with_reducible refine (right_any c d _).mono ?_; rintro e w2 ⟨rfl, hb2⟩; obtain ⟨hc2, hf2⟩ := bcell hb2; have B2 := bel (w := w) B1 hb2))
            go_ret
            exact ⟨ret_bool (by simp [withinB, hr, hs, h]; omega), by go_grown⟩
        · go_enter Tryd.func57, Tryd.ntmps57
          go_wp2_with (first
            | (go_at_call 56; with_reducible refine (right_any a b _).mono ?_; rintro e w1 ⟨rfl, hb1⟩; obtain ⟨hc1, hf1⟩ := bcell hb1; have hz1 := lt2 hb1; have B1 := bel (w := w) (by go_grown) hb1)
            | (go_at_call 56; with_reducible refine (right_any c d _).mono ?_; rintro e w2 ⟨rfl, hb2⟩; obtain ⟨hc2, hf2⟩ := bcell hb2; have B2 := bel (w := w) B1 hb2))
          go_ret
          exact ⟨ret_bool (by simp [withinB, hr, hs, h]; omega), by go_grown⟩
end Go.Proofs.YtoimoalkihjcfaaDoor
