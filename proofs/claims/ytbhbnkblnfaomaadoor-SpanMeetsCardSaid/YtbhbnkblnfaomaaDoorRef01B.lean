/-
  The reference's calls of layer 1, second part: Meet, Touch, Join, Within.
-/
import Derived.Lib.Hide
import Derived.Test.YtbhbnkblnfaomaaDoorRef01A
namespace Go.Proofs.YtbhbnkblnfaomaaDoor
open Go Go.RowKit

theorem lt4 {w w1 : World} {o p q r : Obj} (h : Below ((((w.alloc o).alloc p).alloc q).alloc r).heap.size ((((w.alloc o).alloc p).alloc q).alloc r) w1) : w.heap.size < w1.heap.size ∧ w.heap.size + 1 < w1.heap.size ∧ w.heap.size + 1 + 1 < w1.heap.size ∧ w.heap.size + 1 + 1 + 1 < w1.heap.size := by
  have := h.size; simp only [World.size_alloc] at this; omega


set_option maxHeartbeats 1600000 in
theorem rmeet_any (a b c d : Int) (w : World) :
    Calls Tryd.prog 20 #[.agg #[.int .i64 a, .int .i64 b], .agg #[.int .i64 c, .int .i64 d]] w fun e w' => e = .returned (.tuple #[.agg #[.int .i64 (meetF a b c d), .int .i64 (meetT a b c d)], .bool (meetB a b c d)]) ∧ Below w.heap.size w w' := by
  by_cases h1 : a < c
  all_goals by_cases h2 : d < b
  · have hM : mxI a c = c := by unfold mxI; omega
    have hN : mnI b d = d := by unfold mnI; omega
    have HM := Lib.hid hM; clear hM; have HN := Lib.hid hN; clear hN
    cases hr : rtB a b with
    | false =>
      have HF : Hid (Ending.returned (.tuple #[.agg #[.int .i64 0, .int .i64 0], .bool false]) = .returned (.tuple #[.agg #[.int .i64 (meetF a b c d), .int .i64 (meetT a b c d)], .bool (meetB a b c d)])) := by unfold Hid; have hm : meetB a b c d = false := (by simp [meetB, hr]); simp [meetF, meetT, hm]
      go_enter Tryd.func20, Tryd.ntmps20
      go_wp2_with (first | (go_at_call 14; with_reducible refine (rright_any a b _).mono ?_; rintro e w1 ⟨rfl, hb_w1⟩; obtain ⟨hc_w1, hf_w1⟩ := bcell hb_w1; have hz_w1 := lt4 hb_w1; have B_w1 := bel (w := w) (by go_grown) hb_w1) | (go_at_call 14; with_reducible refine (rright_any c d _).mono ?_; rintro e w2 ⟨rfl, hb_w2⟩; obtain ⟨hc_w2, hf_w2⟩ := bcell hb_w2; have hz_w2 : w.heap.size < w2.heap.size ∧ w.heap.size + 1 < w2.heap.size ∧ w.heap.size + 1 + 1 < w2.heap.size ∧ w.heap.size + 1 + 1 + 1 < w2.heap.size := (by have := hb_w2.size; omega); have B_w2 := bel (w := w) B_w1 hb_w2))
      exact bodyPost_ret (v := .tuple #[.agg #[.int .i64 0, .int .i64 0], .bool false]) (by simp [results, Tryd.results20, go_sem, hc_w1]) rfl ⟨HF.out, by go_grown⟩
    | true =>
      cases hs : rtB c d with
      | false =>
        have HF : Hid (Ending.returned (.tuple #[.agg #[.int .i64 0, .int .i64 0], .bool false]) = .returned (.tuple #[.agg #[.int .i64 (meetF a b c d), .int .i64 (meetT a b c d)], .bool (meetB a b c d)])) := by unfold Hid; have hm : meetB a b c d = false := (by simp [meetB, hs]); simp [meetF, meetT, hm]
        go_enter Tryd.func20, Tryd.ntmps20
        go_wp2_with (first | (go_at_call 14; with_reducible refine (rright_any a b _).mono ?_; rintro e w1 ⟨rfl, hb_w1⟩; obtain ⟨hc_w1, hf_w1⟩ := bcell hb_w1; have hz_w1 := lt4 hb_w1; have B_w1 := bel (w := w) (by go_grown) hb_w1) | (go_at_call 14; with_reducible refine (rright_any c d _).mono ?_; rintro e w2 ⟨rfl, hb_w2⟩; obtain ⟨hc_w2, hf_w2⟩ := bcell hb_w2; have hz_w2 : w.heap.size < w2.heap.size ∧ w.heap.size + 1 < w2.heap.size ∧ w.heap.size + 1 + 1 < w2.heap.size ∧ w.heap.size + 1 + 1 + 1 < w2.heap.size := (by have := hb_w2.size; omega); have B_w2 := bel (w := w) B_w1 hb_w2))
        exact bodyPost_ret (v := .tuple #[.agg #[.int .i64 0, .int .i64 0], .bool false]) (by simp [results, Tryd.results20, go_sem, hc_w2, hc_w1, hz_w1]) rfl ⟨HF.out, by go_grown⟩
      | true =>
        by_cases h3 : c < d
        · have HF : Hid (Ending.returned (.tuple #[.agg #[.int .i64 c, .int .i64 d], .bool true]) = .returned (.tuple #[.agg #[.int .i64 (meetF a b c d), .int .i64 (meetT a b c d)], .bool (meetB a b c d)])) := by unfold Hid; have hm : meetB a b c d = true := (by simp [meetB, hr, hs, HM.out, HN.out, h3]); simp [meetF, meetT, hm, HM.out, HN.out]
          go_enter Tryd.func20, Tryd.ntmps20
          go_wp2_with (first | (go_at_call 14; with_reducible refine (rright_any a b _).mono ?_; rintro e w1 ⟨rfl, hb_w1⟩; obtain ⟨hc_w1, hf_w1⟩ := bcell hb_w1; have hz_w1 := lt4 hb_w1; have B_w1 := bel (w := w) (by go_grown) hb_w1) | (go_at_call 14; with_reducible refine (rright_any c d _).mono ?_; rintro e w2 ⟨rfl, hb_w2⟩; obtain ⟨hc_w2, hf_w2⟩ := bcell hb_w2; have hz_w2 : w.heap.size < w2.heap.size ∧ w.heap.size + 1 < w2.heap.size ∧ w.heap.size + 1 + 1 < w2.heap.size ∧ w.heap.size + 1 + 1 + 1 < w2.heap.size := (by have := hb_w2.size; omega); have B_w2 := bel (w := w) B_w1 hb_w2))
          exact bodyPost_ret (v := .tuple #[.agg #[.int .i64 c, .int .i64 d], .bool true]) (by simp [results, Tryd.results20, go_sem, hc_w2, hc_w1, hz_w1]) rfl ⟨HF.out, by go_grown⟩
        · have HF : Hid (Ending.returned (.tuple #[.agg #[.int .i64 0, .int .i64 0], .bool false]) = .returned (.tuple #[.agg #[.int .i64 (meetF a b c d), .int .i64 (meetT a b c d)], .bool (meetB a b c d)])) := by unfold Hid; have hm : meetB a b c d = false := (by simp [meetB, HM.out, HN.out]; omega); simp [meetF, meetT, hm]
          go_enter Tryd.func20, Tryd.ntmps20
          go_wp2_with (first | (go_at_call 14; with_reducible refine (rright_any a b _).mono ?_; rintro e w1 ⟨rfl, hb_w1⟩; obtain ⟨hc_w1, hf_w1⟩ := bcell hb_w1; have hz_w1 := lt4 hb_w1; have B_w1 := bel (w := w) (by go_grown) hb_w1) | (go_at_call 14; with_reducible refine (rright_any c d _).mono ?_; rintro e w2 ⟨rfl, hb_w2⟩; obtain ⟨hc_w2, hf_w2⟩ := bcell hb_w2; have hz_w2 : w.heap.size < w2.heap.size ∧ w.heap.size + 1 < w2.heap.size ∧ w.heap.size + 1 + 1 < w2.heap.size ∧ w.heap.size + 1 + 1 + 1 < w2.heap.size := (by have := hb_w2.size; omega); have B_w2 := bel (w := w) B_w1 hb_w2))
          exact bodyPost_ret (v := .tuple #[.agg #[.int .i64 0, .int .i64 0], .bool false]) (by simp [results, Tryd.results20, go_sem, hc_w2, hc_w1, hz_w1]) rfl ⟨HF.out, by go_grown⟩
  · have hM : mxI a c = c := by unfold mxI; omega
    have hN : mnI b d = b := by unfold mnI; omega
    have HM := Lib.hid hM; clear hM; have HN := Lib.hid hN; clear hN
    cases hr : rtB a b with
    | false =>
      have HF : Hid (Ending.returned (.tuple #[.agg #[.int .i64 0, .int .i64 0], .bool false]) = .returned (.tuple #[.agg #[.int .i64 (meetF a b c d), .int .i64 (meetT a b c d)], .bool (meetB a b c d)])) := by unfold Hid; have hm : meetB a b c d = false := (by simp [meetB, hr]); simp [meetF, meetT, hm]
      go_enter Tryd.func20, Tryd.ntmps20
      go_wp2_with (first | (go_at_call 14; with_reducible refine (rright_any a b _).mono ?_; rintro e w1 ⟨rfl, hb_w1⟩; obtain ⟨hc_w1, hf_w1⟩ := bcell hb_w1; have hz_w1 := lt4 hb_w1; have B_w1 := bel (w := w) (by go_grown) hb_w1) | (go_at_call 14; with_reducible refine (rright_any c d _).mono ?_; rintro e w2 ⟨rfl, hb_w2⟩; obtain ⟨hc_w2, hf_w2⟩ := bcell hb_w2; have hz_w2 : w.heap.size < w2.heap.size ∧ w.heap.size + 1 < w2.heap.size ∧ w.heap.size + 1 + 1 < w2.heap.size ∧ w.heap.size + 1 + 1 + 1 < w2.heap.size := (by have := hb_w2.size; omega); have B_w2 := bel (w := w) B_w1 hb_w2))
      exact bodyPost_ret (v := .tuple #[.agg #[.int .i64 0, .int .i64 0], .bool false]) (by simp [results, Tryd.results20, go_sem, hc_w1]) rfl ⟨HF.out, by go_grown⟩
    | true =>
      cases hs : rtB c d with
      | false =>
        have HF : Hid (Ending.returned (.tuple #[.agg #[.int .i64 0, .int .i64 0], .bool false]) = .returned (.tuple #[.agg #[.int .i64 (meetF a b c d), .int .i64 (meetT a b c d)], .bool (meetB a b c d)])) := by unfold Hid; have hm : meetB a b c d = false := (by simp [meetB, hs]); simp [meetF, meetT, hm]
        go_enter Tryd.func20, Tryd.ntmps20
        go_wp2_with (first | (go_at_call 14; with_reducible refine (rright_any a b _).mono ?_; rintro e w1 ⟨rfl, hb_w1⟩; obtain ⟨hc_w1, hf_w1⟩ := bcell hb_w1; have hz_w1 := lt4 hb_w1; have B_w1 := bel (w := w) (by go_grown) hb_w1) | (go_at_call 14; with_reducible refine (rright_any c d _).mono ?_; rintro e w2 ⟨rfl, hb_w2⟩; obtain ⟨hc_w2, hf_w2⟩ := bcell hb_w2; have hz_w2 : w.heap.size < w2.heap.size ∧ w.heap.size + 1 < w2.heap.size ∧ w.heap.size + 1 + 1 < w2.heap.size ∧ w.heap.size + 1 + 1 + 1 < w2.heap.size := (by have := hb_w2.size; omega); have B_w2 := bel (w := w) B_w1 hb_w2))
        exact bodyPost_ret (v := .tuple #[.agg #[.int .i64 0, .int .i64 0], .bool false]) (by simp [results, Tryd.results20, go_sem, hc_w2, hc_w1, hz_w1]) rfl ⟨HF.out, by go_grown⟩
      | true =>
        by_cases h3 : c < b
        · have HF : Hid (Ending.returned (.tuple #[.agg #[.int .i64 c, .int .i64 b], .bool true]) = .returned (.tuple #[.agg #[.int .i64 (meetF a b c d), .int .i64 (meetT a b c d)], .bool (meetB a b c d)])) := by unfold Hid; have hm : meetB a b c d = true := (by simp [meetB, hr, hs, HM.out, HN.out, h3]); simp [meetF, meetT, hm, HM.out, HN.out]
          go_enter Tryd.func20, Tryd.ntmps20
          go_wp2_with (first | (go_at_call 14; with_reducible refine (rright_any a b _).mono ?_; rintro e w1 ⟨rfl, hb_w1⟩; obtain ⟨hc_w1, hf_w1⟩ := bcell hb_w1; have hz_w1 := lt4 hb_w1; have B_w1 := bel (w := w) (by go_grown) hb_w1) | (go_at_call 14; with_reducible refine (rright_any c d _).mono ?_; rintro e w2 ⟨rfl, hb_w2⟩; obtain ⟨hc_w2, hf_w2⟩ := bcell hb_w2; have hz_w2 : w.heap.size < w2.heap.size ∧ w.heap.size + 1 < w2.heap.size ∧ w.heap.size + 1 + 1 < w2.heap.size ∧ w.heap.size + 1 + 1 + 1 < w2.heap.size := (by have := hb_w2.size; omega); have B_w2 := bel (w := w) B_w1 hb_w2))
          exact bodyPost_ret (v := .tuple #[.agg #[.int .i64 c, .int .i64 b], .bool true]) (by simp [results, Tryd.results20, go_sem, hc_w2, hc_w1, hz_w1]) rfl ⟨HF.out, by go_grown⟩
        · have HF : Hid (Ending.returned (.tuple #[.agg #[.int .i64 0, .int .i64 0], .bool false]) = .returned (.tuple #[.agg #[.int .i64 (meetF a b c d), .int .i64 (meetT a b c d)], .bool (meetB a b c d)])) := by unfold Hid; have hm : meetB a b c d = false := (by simp [meetB, HM.out, HN.out]; omega); simp [meetF, meetT, hm]
          go_enter Tryd.func20, Tryd.ntmps20
          go_wp2_with (first | (go_at_call 14; with_reducible refine (rright_any a b _).mono ?_; rintro e w1 ⟨rfl, hb_w1⟩; obtain ⟨hc_w1, hf_w1⟩ := bcell hb_w1; have hz_w1 := lt4 hb_w1; have B_w1 := bel (w := w) (by go_grown) hb_w1) | (go_at_call 14; with_reducible refine (rright_any c d _).mono ?_; rintro e w2 ⟨rfl, hb_w2⟩; obtain ⟨hc_w2, hf_w2⟩ := bcell hb_w2; have hz_w2 : w.heap.size < w2.heap.size ∧ w.heap.size + 1 < w2.heap.size ∧ w.heap.size + 1 + 1 < w2.heap.size ∧ w.heap.size + 1 + 1 + 1 < w2.heap.size := (by have := hb_w2.size; omega); have B_w2 := bel (w := w) B_w1 hb_w2))
          exact bodyPost_ret (v := .tuple #[.agg #[.int .i64 0, .int .i64 0], .bool false]) (by simp [results, Tryd.results20, go_sem, hc_w2, hc_w1, hz_w1]) rfl ⟨HF.out, by go_grown⟩
  · have hM : mxI a c = a := by unfold mxI; omega
    have hN : mnI b d = d := by unfold mnI; omega
    have HM := Lib.hid hM; clear hM; have HN := Lib.hid hN; clear hN
    cases hr : rtB a b with
    | false =>
      have HF : Hid (Ending.returned (.tuple #[.agg #[.int .i64 0, .int .i64 0], .bool false]) = .returned (.tuple #[.agg #[.int .i64 (meetF a b c d), .int .i64 (meetT a b c d)], .bool (meetB a b c d)])) := by unfold Hid; have hm : meetB a b c d = false := (by simp [meetB, hr]); simp [meetF, meetT, hm]
      go_enter Tryd.func20, Tryd.ntmps20
      go_wp2_with (first | (go_at_call 14; with_reducible refine (rright_any a b _).mono ?_; rintro e w1 ⟨rfl, hb_w1⟩; obtain ⟨hc_w1, hf_w1⟩ := bcell hb_w1; have hz_w1 := lt4 hb_w1; have B_w1 := bel (w := w) (by go_grown) hb_w1) | (go_at_call 14; with_reducible refine (rright_any c d _).mono ?_; rintro e w2 ⟨rfl, hb_w2⟩; obtain ⟨hc_w2, hf_w2⟩ := bcell hb_w2; have hz_w2 : w.heap.size < w2.heap.size ∧ w.heap.size + 1 < w2.heap.size ∧ w.heap.size + 1 + 1 < w2.heap.size ∧ w.heap.size + 1 + 1 + 1 < w2.heap.size := (by have := hb_w2.size; omega); have B_w2 := bel (w := w) B_w1 hb_w2))
      exact bodyPost_ret (v := .tuple #[.agg #[.int .i64 0, .int .i64 0], .bool false]) (by simp [results, Tryd.results20, go_sem, hc_w1]) rfl ⟨HF.out, by go_grown⟩
    | true =>
      cases hs : rtB c d with
      | false =>
        have HF : Hid (Ending.returned (.tuple #[.agg #[.int .i64 0, .int .i64 0], .bool false]) = .returned (.tuple #[.agg #[.int .i64 (meetF a b c d), .int .i64 (meetT a b c d)], .bool (meetB a b c d)])) := by unfold Hid; have hm : meetB a b c d = false := (by simp [meetB, hs]); simp [meetF, meetT, hm]
        go_enter Tryd.func20, Tryd.ntmps20
        go_wp2_with (first | (go_at_call 14; with_reducible refine (rright_any a b _).mono ?_; rintro e w1 ⟨rfl, hb_w1⟩; obtain ⟨hc_w1, hf_w1⟩ := bcell hb_w1; have hz_w1 := lt4 hb_w1; have B_w1 := bel (w := w) (by go_grown) hb_w1) | (go_at_call 14; with_reducible refine (rright_any c d _).mono ?_; rintro e w2 ⟨rfl, hb_w2⟩; obtain ⟨hc_w2, hf_w2⟩ := bcell hb_w2; have hz_w2 : w.heap.size < w2.heap.size ∧ w.heap.size + 1 < w2.heap.size ∧ w.heap.size + 1 + 1 < w2.heap.size ∧ w.heap.size + 1 + 1 + 1 < w2.heap.size := (by have := hb_w2.size; omega); have B_w2 := bel (w := w) B_w1 hb_w2))
        exact bodyPost_ret (v := .tuple #[.agg #[.int .i64 0, .int .i64 0], .bool false]) (by simp [results, Tryd.results20, go_sem, hc_w2, hc_w1, hz_w1]) rfl ⟨HF.out, by go_grown⟩
      | true =>
        by_cases h3 : a < d
        · have HF : Hid (Ending.returned (.tuple #[.agg #[.int .i64 a, .int .i64 d], .bool true]) = .returned (.tuple #[.agg #[.int .i64 (meetF a b c d), .int .i64 (meetT a b c d)], .bool (meetB a b c d)])) := by unfold Hid; have hm : meetB a b c d = true := (by simp [meetB, hr, hs, HM.out, HN.out, h3]); simp [meetF, meetT, hm, HM.out, HN.out]
          go_enter Tryd.func20, Tryd.ntmps20
          go_wp2_with (first | (go_at_call 14; with_reducible refine (rright_any a b _).mono ?_; rintro e w1 ⟨rfl, hb_w1⟩; obtain ⟨hc_w1, hf_w1⟩ := bcell hb_w1; have hz_w1 := lt4 hb_w1; have B_w1 := bel (w := w) (by go_grown) hb_w1) | (go_at_call 14; with_reducible refine (rright_any c d _).mono ?_; rintro e w2 ⟨rfl, hb_w2⟩; obtain ⟨hc_w2, hf_w2⟩ := bcell hb_w2; have hz_w2 : w.heap.size < w2.heap.size ∧ w.heap.size + 1 < w2.heap.size ∧ w.heap.size + 1 + 1 < w2.heap.size ∧ w.heap.size + 1 + 1 + 1 < w2.heap.size := (by have := hb_w2.size; omega); have B_w2 := bel (w := w) B_w1 hb_w2))
          exact bodyPost_ret (v := .tuple #[.agg #[.int .i64 a, .int .i64 d], .bool true]) (by simp [results, Tryd.results20, go_sem, hc_w2, hc_w1, hz_w1]) rfl ⟨HF.out, by go_grown⟩
        · have HF : Hid (Ending.returned (.tuple #[.agg #[.int .i64 0, .int .i64 0], .bool false]) = .returned (.tuple #[.agg #[.int .i64 (meetF a b c d), .int .i64 (meetT a b c d)], .bool (meetB a b c d)])) := by unfold Hid; have hm : meetB a b c d = false := (by simp [meetB, HM.out, HN.out]; omega); simp [meetF, meetT, hm]
          go_enter Tryd.func20, Tryd.ntmps20
          go_wp2_with (first | (go_at_call 14; with_reducible refine (rright_any a b _).mono ?_; rintro e w1 ⟨rfl, hb_w1⟩; obtain ⟨hc_w1, hf_w1⟩ := bcell hb_w1; have hz_w1 := lt4 hb_w1; have B_w1 := bel (w := w) (by go_grown) hb_w1) | (go_at_call 14; with_reducible refine (rright_any c d _).mono ?_; rintro e w2 ⟨rfl, hb_w2⟩; obtain ⟨hc_w2, hf_w2⟩ := bcell hb_w2; have hz_w2 : w.heap.size < w2.heap.size ∧ w.heap.size + 1 < w2.heap.size ∧ w.heap.size + 1 + 1 < w2.heap.size ∧ w.heap.size + 1 + 1 + 1 < w2.heap.size := (by have := hb_w2.size; omega); have B_w2 := bel (w := w) B_w1 hb_w2))
          exact bodyPost_ret (v := .tuple #[.agg #[.int .i64 0, .int .i64 0], .bool false]) (by simp [results, Tryd.results20, go_sem, hc_w2, hc_w1, hz_w1]) rfl ⟨HF.out, by go_grown⟩
  · have hM : mxI a c = a := by unfold mxI; omega
    have hN : mnI b d = b := by unfold mnI; omega
    have HM := Lib.hid hM; clear hM; have HN := Lib.hid hN; clear hN
    cases hr : rtB a b with
    | false =>
      have HF : Hid (Ending.returned (.tuple #[.agg #[.int .i64 0, .int .i64 0], .bool false]) = .returned (.tuple #[.agg #[.int .i64 (meetF a b c d), .int .i64 (meetT a b c d)], .bool (meetB a b c d)])) := by unfold Hid; have hm : meetB a b c d = false := (by simp [meetB, hr]); simp [meetF, meetT, hm]
      go_enter Tryd.func20, Tryd.ntmps20
      go_wp2_with (first | (go_at_call 14; with_reducible refine (rright_any a b _).mono ?_; rintro e w1 ⟨rfl, hb_w1⟩; obtain ⟨hc_w1, hf_w1⟩ := bcell hb_w1; have hz_w1 := lt4 hb_w1; have B_w1 := bel (w := w) (by go_grown) hb_w1) | (go_at_call 14; with_reducible refine (rright_any c d _).mono ?_; rintro e w2 ⟨rfl, hb_w2⟩; obtain ⟨hc_w2, hf_w2⟩ := bcell hb_w2; have hz_w2 : w.heap.size < w2.heap.size ∧ w.heap.size + 1 < w2.heap.size ∧ w.heap.size + 1 + 1 < w2.heap.size ∧ w.heap.size + 1 + 1 + 1 < w2.heap.size := (by have := hb_w2.size; omega); have B_w2 := bel (w := w) B_w1 hb_w2))
      exact bodyPost_ret (v := .tuple #[.agg #[.int .i64 0, .int .i64 0], .bool false]) (by simp [results, Tryd.results20, go_sem, hc_w1]) rfl ⟨HF.out, by go_grown⟩
    | true =>
      cases hs : rtB c d with
      | false =>
        have HF : Hid (Ending.returned (.tuple #[.agg #[.int .i64 0, .int .i64 0], .bool false]) = .returned (.tuple #[.agg #[.int .i64 (meetF a b c d), .int .i64 (meetT a b c d)], .bool (meetB a b c d)])) := by unfold Hid; have hm : meetB a b c d = false := (by simp [meetB, hs]); simp [meetF, meetT, hm]
        go_enter Tryd.func20, Tryd.ntmps20
        go_wp2_with (first | (go_at_call 14; with_reducible refine (rright_any a b _).mono ?_; rintro e w1 ⟨rfl, hb_w1⟩; obtain ⟨hc_w1, hf_w1⟩ := bcell hb_w1; have hz_w1 := lt4 hb_w1; have B_w1 := bel (w := w) (by go_grown) hb_w1) | (go_at_call 14; with_reducible refine (rright_any c d _).mono ?_; rintro e w2 ⟨rfl, hb_w2⟩; obtain ⟨hc_w2, hf_w2⟩ := bcell hb_w2; have hz_w2 : w.heap.size < w2.heap.size ∧ w.heap.size + 1 < w2.heap.size ∧ w.heap.size + 1 + 1 < w2.heap.size ∧ w.heap.size + 1 + 1 + 1 < w2.heap.size := (by have := hb_w2.size; omega); have B_w2 := bel (w := w) B_w1 hb_w2))
        exact bodyPost_ret (v := .tuple #[.agg #[.int .i64 0, .int .i64 0], .bool false]) (by simp [results, Tryd.results20, go_sem, hc_w2, hc_w1, hz_w1]) rfl ⟨HF.out, by go_grown⟩
      | true =>
        by_cases h3 : a < b
        · have HF : Hid (Ending.returned (.tuple #[.agg #[.int .i64 a, .int .i64 b], .bool true]) = .returned (.tuple #[.agg #[.int .i64 (meetF a b c d), .int .i64 (meetT a b c d)], .bool (meetB a b c d)])) := by unfold Hid; have hm : meetB a b c d = true := (by simp [meetB, hr, hs, HM.out, HN.out, h3]); simp [meetF, meetT, hm, HM.out, HN.out]
          go_enter Tryd.func20, Tryd.ntmps20
          go_wp2_with (first | (go_at_call 14; with_reducible refine (rright_any a b _).mono ?_; rintro e w1 ⟨rfl, hb_w1⟩; obtain ⟨hc_w1, hf_w1⟩ := bcell hb_w1; have hz_w1 := lt4 hb_w1; have B_w1 := bel (w := w) (by go_grown) hb_w1) | (go_at_call 14; with_reducible refine (rright_any c d _).mono ?_; rintro e w2 ⟨rfl, hb_w2⟩; obtain ⟨hc_w2, hf_w2⟩ := bcell hb_w2; have hz_w2 : w.heap.size < w2.heap.size ∧ w.heap.size + 1 < w2.heap.size ∧ w.heap.size + 1 + 1 < w2.heap.size ∧ w.heap.size + 1 + 1 + 1 < w2.heap.size := (by have := hb_w2.size; omega); have B_w2 := bel (w := w) B_w1 hb_w2))
          exact bodyPost_ret (v := .tuple #[.agg #[.int .i64 a, .int .i64 b], .bool true]) (by simp [results, Tryd.results20, go_sem, hc_w2, hc_w1, hz_w1]) rfl ⟨HF.out, by go_grown⟩
        · have HF : Hid (Ending.returned (.tuple #[.agg #[.int .i64 0, .int .i64 0], .bool false]) = .returned (.tuple #[.agg #[.int .i64 (meetF a b c d), .int .i64 (meetT a b c d)], .bool (meetB a b c d)])) := by unfold Hid; have hm : meetB a b c d = false := (by simp [meetB, HM.out, HN.out]; omega); simp [meetF, meetT, hm]
          go_enter Tryd.func20, Tryd.ntmps20
          go_wp2_with (first | (go_at_call 14; with_reducible refine (rright_any a b _).mono ?_; rintro e w1 ⟨rfl, hb_w1⟩; obtain ⟨hc_w1, hf_w1⟩ := bcell hb_w1; have hz_w1 := lt4 hb_w1; have B_w1 := bel (w := w) (by go_grown) hb_w1) | (go_at_call 14; with_reducible refine (rright_any c d _).mono ?_; rintro e w2 ⟨rfl, hb_w2⟩; obtain ⟨hc_w2, hf_w2⟩ := bcell hb_w2; have hz_w2 : w.heap.size < w2.heap.size ∧ w.heap.size + 1 < w2.heap.size ∧ w.heap.size + 1 + 1 < w2.heap.size ∧ w.heap.size + 1 + 1 + 1 < w2.heap.size := (by have := hb_w2.size; omega); have B_w2 := bel (w := w) B_w1 hb_w2))
          exact bodyPost_ret (v := .tuple #[.agg #[.int .i64 0, .int .i64 0], .bool false]) (by simp [results, Tryd.results20, go_sem, hc_w2, hc_w1, hz_w1]) rfl ⟨HF.out, by go_grown⟩
end Go.Proofs.YtbhbnkblnfaomaaDoor
