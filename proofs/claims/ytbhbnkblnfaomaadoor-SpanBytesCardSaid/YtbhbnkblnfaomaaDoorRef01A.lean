/-
  The reference's calls of layer 1 (mandolineref01), each by a contract: the same plain functions as span's.
-/
import Derived.WalkSmall
import Derived.Test.YtbhbnkblnfaomaaDoorSpanB
import Derived.Test.YtbhbnkblnfaomaaDoorSpanC
namespace Go.Proofs.YtbhbnkblnfaomaaDoor
open Go Go.RowKit

set_option maxHeartbeats 400000 in
theorem end_any (w : World) :
    Calls Tryd.prog 35 #[] w fun e w' => e = .returned (.int .i64 4611686018427387904) ∧ w' = w := by
  go_enter Tryd.func35, Tryd.ntmps35
  go_wp2
  go_ret
  exact ⟨rfl, rfl⟩

set_option maxHeartbeats 400000 in
theorem rright_any (a b : Int) (w : World) :
    Calls Tryd.prog 14 #[.agg #[.int .i64 a, .int .i64 b]] w fun e w' => e = .returned (.bool (rtB a b)) ∧ Below w.heap.size w w' := by
  by_cases h0 : 0 ≤ a
  · by_cases h1 : a ≤ b
    · by_cases h2 : b ≤ 4611686018427387904
      · go_enter Tryd.func14, Tryd.ntmps14
        go_wp2
        go_quiet ((go_at_call 35; exact Calls.quiet_of_same (end_any _)))
        go_wp2
        go_ret
        exact ⟨ret_bool (by simp [rtB, h0, h1, h2]), below_drewN (by go_grown) _⟩
      · go_enter Tryd.func14, Tryd.ntmps14
        go_wp2
        go_quiet ((go_at_call 35; exact Calls.quiet_of_same (end_any _)))
        go_wp2
        go_ret
        exact ⟨ret_bool (by simp [rtB, h0, h1]), below_drewN (by go_grown) _⟩
    · have h1' : decide (a ≤ b) = false := by simpa using h1
      go_enter Tryd.func14, Tryd.ntmps14
      go_wp2
      go_quiet ((go_at_call 35; exact Calls.quiet_of_same (end_any _)))
      go_wp2
      go_ret
      exact ⟨ret_bool (rtB_no (by omega)).symm, below_drewN (by go_grown) _⟩
  · have h0' : decide (0 ≤ a) = false := by simpa using h0
    go_enter Tryd.func14, Tryd.ntmps14
    go_wp2
    go_quiet ((go_at_call 35; exact Calls.quiet_of_same (end_any _)))
    go_wp2
    go_ret
    exact ⟨ret_bool (rtB_no (by omega)).symm, below_drewN (by go_grown) _⟩

set_option maxHeartbeats 400000 in
theorem rlen_any (a b : Int) (w : World) :
    Calls Tryd.prog 16 #[.agg #[.int .i64 a, .int .i64 b]] w fun e w' => e = .returned (.int .i64 (lenI a b)) ∧ Below w.heap.size w w' := by
  cases hr : rtB a b with
  | false =>
    go_enter Tryd.func16, Tryd.ntmps16
    go_wp2_with (go_at_call 14; with_reducible refine (rright_any a b _).mono ?_; rintro e w1 ⟨rfl, hb_w1⟩; obtain ⟨hc_w1, hf_w1⟩ := bcell hb_w1; have hz_w1 := lt1 hb_w1; have B_w1 := bel (w := w) (by go_grown) hb_w1)
    go_ret
    exact ⟨ret_int (by simp [lenI, hr]), by go_grown⟩
  | true =>
    have h0 := rtB_t hr
    by_cases hb : b = 4611686018427387904
    · subst hb
      by_cases ha : a = 4611686018427387904
      · subst ha
        go_enter Tryd.func16, Tryd.ntmps16
        go_wp2_with (go_at_call 14; with_reducible refine (rright_any _ _ _).mono ?_; rintro e w1 ⟨rfl, hb_w1⟩; obtain ⟨hc_w1, hf_w1⟩ := bcell hb_w1; have hz_w1 := lt1 hb_w1; have B_w1 := bel (w := w) (by go_grown) hb_w1)
        go_quiet ((go_at_call 35; exact Calls.quiet_of_same (end_any _)))
        go_wp2_with (go_at_call 35; refine (end_any _).mono ?_; rintro e w2 ⟨rfl, rfl⟩)
        go_ret
        exact ⟨ret_int (by simp [lenI, hr, opB]), below_drewN (by go_grown) _⟩
      · have ha' : (a == 4611686018427387904) = false := by simpa using ha
        have ha2 : (a != 4611686018427387904) = true := by simpa using ha
        go_enter Tryd.func16, Tryd.ntmps16
        go_wp2_with (go_at_call 14; with_reducible refine (rright_any _ _ _).mono ?_; rintro e w1 ⟨rfl, hb_w1⟩; obtain ⟨hc_w1, hf_w1⟩ := bcell hb_w1; have hz_w1 := lt1 hb_w1; have B_w1 := bel (w := w) (by go_grown) hb_w1)
        go_quiet ((go_at_call 35; exact Calls.quiet_of_same (end_any _)))
        go_wp2_with (go_at_call 35; refine (end_any _).mono ?_; rintro e w2 ⟨rfl, rfl⟩)
        go_ret
        exact ⟨ret_int (by simp [lenI, hr, opB, ha]), below_drewN (by go_grown) _⟩
    · have hb' : (b == 4611686018427387904) = false := by simpa using hb
      go_enter Tryd.func16, Tryd.ntmps16
      go_wp2_with (go_at_call 14; with_reducible refine (rright_any a b _).mono ?_; rintro e w1 ⟨rfl, hb_w1⟩; obtain ⟨hc_w1, hf_w1⟩ := bcell hb_w1; have hz_w1 := lt1 hb_w1; have B_w1 := bel (w := w) (by go_grown) hb_w1)
      go_quiet ((go_at_call 35; exact Calls.quiet_of_same (end_any _)))
      go_wp2_with (go_at_call 35; refine (end_any _).mono ?_; rintro e w2 ⟨rfl, rfl⟩)
      go_ret
      exact ⟨ret_int (by simp [lenI, hr, opB, hb]), below_drewN (by go_grown) _⟩

set_option maxHeartbeats 400000 in
theorem rhas_any (a b p : Int) (w : World) :
    Calls Tryd.prog 18 #[.agg #[.int .i64 a, .int .i64 b], .int .i64 p] w fun e w' => e = .returned (.bool (hasB a b p)) ∧ Below w.heap.size w w' := by
  cases hr : rtB a b with
  | false =>
    go_enter Tryd.func18, Tryd.ntmps18
    go_wp2_with (go_at_call 14; with_reducible refine (rright_any a b _).mono ?_; rintro e w1 ⟨rfl, hb_w1⟩; obtain ⟨hc_w1, hf_w1⟩ := bcell hb_w1; have hz_w1 := lt1 hb_w1; have B_w1 := bel (w := w) (by go_grown) hb_w1)
    go_ret
    exact ⟨ret_bool (by simp [hasB, hr]), by go_grown⟩
  | true =>
    by_cases h1 : a ≤ p
    · by_cases h2 : p < b
      · go_enter Tryd.func18, Tryd.ntmps18
        go_wp2_with (go_at_call 14; with_reducible refine (rright_any a b _).mono ?_; rintro e w1 ⟨rfl, hb_w1⟩; obtain ⟨hc_w1, hf_w1⟩ := bcell hb_w1; have hz_w1 := lt1 hb_w1; have B_w1 := bel (w := w) (by go_grown) hb_w1)
        go_ret
        exact ⟨ret_bool (by simp [hasB, hr]; omega), by go_grown⟩
      · go_enter Tryd.func18, Tryd.ntmps18
        go_wp2_with (go_at_call 14; with_reducible refine (rright_any a b _).mono ?_; rintro e w1 ⟨rfl, hb_w1⟩; obtain ⟨hc_w1, hf_w1⟩ := bcell hb_w1; have hz_w1 := lt1 hb_w1; have B_w1 := bel (w := w) (by go_grown) hb_w1)
        go_ret
        exact ⟨ret_bool (by simp [hasB, hr]; omega), by go_grown⟩
    · go_enter Tryd.func18, Tryd.ntmps18
      go_wp2_with (go_at_call 14; with_reducible refine (rright_any a b _).mono ?_; rintro e w1 ⟨rfl, hb_w1⟩; obtain ⟨hc_w1, hf_w1⟩ := bcell hb_w1; have hz_w1 := lt1 hb_w1; have B_w1 := bel (w := w) (by go_grown) hb_w1)
      go_ret
      exact ⟨ret_bool (by simp [hasB, hr]; omega), by go_grown⟩
end Go.Proofs.YtbhbnkblnfaomaaDoor
