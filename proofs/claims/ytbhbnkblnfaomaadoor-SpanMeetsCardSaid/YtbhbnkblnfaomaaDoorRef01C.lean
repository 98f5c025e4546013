/-
  The reference's calls of layer 1, third part: Touch, Join, Within, Cut.
-/
import Derived.Lib.Hide
import Derived.Test.YtbhbnkblnfaomaaDoorRef01A
namespace Go.Proofs.YtbhbnkblnfaomaaDoor
open Go Go.RowKit

set_option maxHeartbeats 800000 in
theorem rtouch_any (a b c d : Int) (w : World) :
    Calls Tryd.prog 38 #[.agg #[.int .i64 a, .int .i64 b], .agg #[.int .i64 c, .int .i64 d]] w fun e w' => e = .returned (.bool (touchB a b c d)) ∧ Below w.heap.size w w' := by
  cases hr : rtB a b with
  | false =>
    go_enter Tryd.func38, Tryd.ntmps38
    go_wp2_with (first | (go_at_call 14; with_reducible refine (rright_any a b _).mono ?_; rintro e w1 ⟨rfl, hb1⟩; obtain ⟨hc1, hf1⟩ := bcell hb1; have hz1 := lt2 hb1; have B1 := bel (w := w) (by go_grown) hb1))
    go_ret
    exact ⟨ret_bool (by simp [touchB, hr]), by go_grown⟩
  | true =>
    cases hs : rtB c d with
    | false =>
      go_enter Tryd.func38, Tryd.ntmps38
      go_wp2_with (first | (go_at_call 14; with_reducible refine (rright_any a b _).mono ?_; rintro e w1 ⟨rfl, hb1⟩; obtain ⟨hc1, hf1⟩ := bcell hb1; have hz1 := lt2 hb1; have B1 := bel (w := w) (by go_grown) hb1) | (go_at_call 14; with_reducible refine (rright_any c d _).mono ?_; rintro e w2 ⟨rfl, hb2⟩; obtain ⟨hc2, hf2⟩ := bcell hb2; have B2 := bel (w := w) B1 hb2))
      go_ret
      exact ⟨ret_bool (by simp [touchB, hs]), by go_grown⟩
    | true =>
      have p0 := rtB_t hr
      have q0 := rtB_t hs
      have HT := Lib.hid (show touchB a b c d = (decide (a ≤ d) && decide (c ≤ b)) from by rw [← Bool.decide_and, touchB, hr, hs, Bool.true_and, Bool.true_and]; exact decide_eq_decide.2 (by unfold mxI mnI; omega))
      by_cases h1 : a ≤ d
      · by_cases h2 : c ≤ b
        · go_enter Tryd.func38, Tryd.ntmps38
          go_wp2_with (first | (go_at_call 14; with_reducible refine (rright_any a b _).mono ?_; rintro e w1 ⟨rfl, hb1⟩; obtain ⟨hc1, hf1⟩ := bcell hb1; have hz1 := lt2 hb1; have B1 := bel (w := w) (by go_grown) hb1) | (go_at_call 14; with_reducible refine (rright_any c d _).mono ?_; rintro e w2 ⟨rfl, hb2⟩; obtain ⟨hc2, hf2⟩ := bcell hb2; have B2 := bel (w := w) B1 hb2))
          go_ret
          exact ⟨ret_bool (by rw [HT.out]; simp; omega), by go_grown⟩
        · go_enter Tryd.func38, Tryd.ntmps38
          go_wp2_with (first | (go_at_call 14; with_reducible refine (rright_any a b _).mono ?_; rintro e w1 ⟨rfl, hb1⟩; obtain ⟨hc1, hf1⟩ := bcell hb1; have hz1 := lt2 hb1; have B1 := bel (w := w) (by go_grown) hb1) | (go_at_call 14; with_reducible refine (rright_any c d _).mono ?_; rintro e w2 ⟨rfl, hb2⟩; obtain ⟨hc2, hf2⟩ := bcell hb2; have B2 := bel (w := w) B1 hb2))
          go_ret
          exact ⟨ret_bool (by rw [HT.out]; simp; omega), by go_grown⟩
      · go_enter Tryd.func38, Tryd.ntmps38
        go_wp2_with (first | (go_at_call 14; with_reducible refine (rright_any a b _).mono ?_; rintro e w1 ⟨rfl, hb1⟩; obtain ⟨hc1, hf1⟩ := bcell hb1; have hz1 := lt2 hb1; have B1 := bel (w := w) (by go_grown) hb1) | (go_at_call 14; with_reducible refine (rright_any c d _).mono ?_; rintro e w2 ⟨rfl, hb2⟩; obtain ⟨hc2, hf2⟩ := bcell hb2; have B2 := bel (w := w) B1 hb2))
        go_ret
        exact ⟨ret_bool (by rw [HT.out, decide_eq_false (show ¬ a ≤ d by omega)]; rfl), by go_grown⟩

set_option maxHeartbeats 1600000 in
theorem rjoin_any (a b c d : Int) (w : World) :
    Calls Tryd.prog 24 #[.agg #[.int .i64 a, .int .i64 b], .agg #[.int .i64 c, .int .i64 d]] w fun e w' => e = .returned (.tuple #[.agg #[.int .i64 (joinF a b c d), .int .i64 (joinT a b c d)], .bool (touchB a b c d)]) ∧ Below w.heap.size w w' := by
  cases ht : touchB a b c d with
  | false =>
    have HF := Lib.hid (show Ending.returned (.tuple #[.agg #[.int .i64 0, .int .i64 0], .bool false]) = .returned (.tuple #[.agg #[.int .i64 (joinF a b c d), .int .i64 (joinT a b c d)], .bool false]) from by simp [joinF, joinT, ht])
    go_enter Tryd.func24, Tryd.ntmps24
    go_wp2_with (first | (go_at_call 38; with_reducible refine (rtouch_any a b c d _).mono ?_; rintro e w1 ⟨rfl, hb1⟩; obtain ⟨hc1, hf1⟩ := bcell hb1; have hz1 := lt3 hb1; have B1 := bel (w := w) (by go_grown) hb1))
    exact bodyPost_ret (v := .tuple #[.agg #[.int .i64 0, .int .i64 0], .bool false]) (by simp [results, Tryd.results24, go_sem, hc1]) rfl ⟨HF.out, by go_grown⟩
  | true =>
    by_cases h1 : c < a
    all_goals by_cases h2 : b < d
    · have hM : mnI a c = c := by unfold mnI; omega
      have hN : mxI b d = d := by unfold mxI; omega
      have HF := Lib.hid (show Ending.returned (.tuple #[.agg #[.int .i64 c, .int .i64 d], .bool true]) = .returned (.tuple #[.agg #[.int .i64 (joinF a b c d), .int .i64 (joinT a b c d)], .bool true]) from by simp [joinF, joinT, ht, hM, hN])
      clear hM hN
      go_enter Tryd.func24, Tryd.ntmps24
      go_wp2_with fail
      with_reducible refine (rtouch_any a b c d _).mono ?_
      rintro e w1 ⟨rfl, hb1⟩
      obtain ⟨hc1, hf1⟩ := bcell hb1
      have B1 := bel (w := w) (by go_grown) hb1
      have c0 : w1.cell? ⟨w.heap.size, 0, none⟩ = some (.int .i64 a) := by rw [hc1 (w.heap.size) 0 (by simp only [World.size_alloc]; omega)]; simp [go_sem]
      have c1 : w1.cell? ⟨w.heap.size, 1, none⟩ = some (.int .i64 b) := by rw [hc1 (w.heap.size) 1 (by simp only [World.size_alloc]; omega)]; simp [go_sem]
      have c2 : w1.cell? ⟨w.heap.size + 1, 0, none⟩ = some (.int .i64 c) := by rw [hc1 (w.heap.size + 1) 0 (by simp only [World.size_alloc]; omega)]; simp [go_sem]
      have c3 : w1.cell? ⟨w.heap.size + 1, 1, none⟩ = some (.int .i64 d) := by rw [hc1 (w.heap.size + 1) 1 (by simp only [World.size_alloc]; omega)]; simp [go_sem]
      have c4 : w1.cell? ⟨w.heap.size + 1 + 1, 0, none⟩ = some (.int .i64 0) := by rw [hc1 (w.heap.size + 1 + 1) 0 (by simp only [World.size_alloc]; omega)]; simp [go_sem]
      have c5 : w1.cell? ⟨w.heap.size + 1 + 1, 1, none⟩ = some (.int .i64 0) := by rw [hc1 (w.heap.size + 1 + 1) 1 (by simp only [World.size_alloc]; omega)]; simp [go_sem]
      have f0 : w1.frozen? ⟨w.heap.size, 0, none⟩ = false := by rw [hf1 (w.heap.size) 0 (by simp only [World.size_alloc]; omega)]; simp [go_sem]
      have f1 : w1.frozen? ⟨w.heap.size, 1, none⟩ = false := by rw [hf1 (w.heap.size) 1 (by simp only [World.size_alloc]; omega)]; simp [go_sem]
      have f4 : w1.frozen? ⟨w.heap.size + 1 + 1, 0, none⟩ = false := by rw [hf1 (w.heap.size + 1 + 1) 0 (by simp only [World.size_alloc]; omega)]; simp [go_sem]
      have f5 : w1.frozen? ⟨w.heap.size + 1 + 1, 1, none⟩ = false := by rw [hf1 (w.heap.size + 1 + 1) 1 (by simp only [World.size_alloc]; omega)]; simp [go_sem]
      clear hc1 hf1 hb1
      go_wp2
      exact bodyPost_ret (v := .tuple #[.agg #[.int .i64 c, .int .i64 d], .bool true]) (by simp [results, Tryd.results24, go_sem, c4, c5]) rfl ⟨HF.out, by go_grown⟩
    · have hM : mnI a c = c := by unfold mnI; omega
      have hN : mxI b d = b := by unfold mxI; omega
      have HF := Lib.hid (show Ending.returned (.tuple #[.agg #[.int .i64 c, .int .i64 b], .bool true]) = .returned (.tuple #[.agg #[.int .i64 (joinF a b c d), .int .i64 (joinT a b c d)], .bool true]) from by simp [joinF, joinT, ht, hM, hN])
      clear hM hN
      go_enter Tryd.func24, Tryd.ntmps24
      go_wp2_with fail
      with_reducible refine (rtouch_any a b c d _).mono ?_
      rintro e w1 ⟨rfl, hb1⟩
      obtain ⟨hc1, hf1⟩ := bcell hb1
      have B1 := bel (w := w) (by go_grown) hb1
      have c0 : w1.cell? ⟨w.heap.size, 0, none⟩ = some (.int .i64 a) := by rw [hc1 (w.heap.size) 0 (by simp only [World.size_alloc]; omega)]; simp [go_sem]
      have c1 : w1.cell? ⟨w.heap.size, 1, none⟩ = some (.int .i64 b) := by rw [hc1 (w.heap.size) 1 (by simp only [World.size_alloc]; omega)]; simp [go_sem]
      have c2 : w1.cell? ⟨w.heap.size + 1, 0, none⟩ = some (.int .i64 c) := by rw [hc1 (w.heap.size + 1) 0 (by simp only [World.size_alloc]; omega)]; simp [go_sem]
      have c3 : w1.cell? ⟨w.heap.size + 1, 1, none⟩ = some (.int .i64 d) := by rw [hc1 (w.heap.size + 1) 1 (by simp only [World.size_alloc]; omega)]; simp [go_sem]
      have c4 : w1.cell? ⟨w.heap.size + 1 + 1, 0, none⟩ = some (.int .i64 0) := by rw [hc1 (w.heap.size + 1 + 1) 0 (by simp only [World.size_alloc]; omega)]; simp [go_sem]
      have c5 : w1.cell? ⟨w.heap.size + 1 + 1, 1, none⟩ = some (.int .i64 0) := by rw [hc1 (w.heap.size + 1 + 1) 1 (by simp only [World.size_alloc]; omega)]; simp [go_sem]
      have f0 : w1.frozen? ⟨w.heap.size, 0, none⟩ = false := by rw [hf1 (w.heap.size) 0 (by simp only [World.size_alloc]; omega)]; simp [go_sem]
      have f1 : w1.frozen? ⟨w.heap.size, 1, none⟩ = false := by rw [hf1 (w.heap.size) 1 (by simp only [World.size_alloc]; omega)]; simp [go_sem]
      have f4 : w1.frozen? ⟨w.heap.size + 1 + 1, 0, none⟩ = false := by rw [hf1 (w.heap.size + 1 + 1) 0 (by simp only [World.size_alloc]; omega)]; simp [go_sem]
      have f5 : w1.frozen? ⟨w.heap.size + 1 + 1, 1, none⟩ = false := by rw [hf1 (w.heap.size + 1 + 1) 1 (by simp only [World.size_alloc]; omega)]; simp [go_sem]
      clear hc1 hf1 hb1
      go_wp2
      exact bodyPost_ret (v := .tuple #[.agg #[.int .i64 c, .int .i64 b], .bool true]) (by simp [results, Tryd.results24, go_sem, c4, c5]) rfl ⟨HF.out, by go_grown⟩
    · have hM : mnI a c = a := by unfold mnI; omega
      have hN : mxI b d = d := by unfold mxI; omega
      have HF := Lib.hid (show Ending.returned (.tuple #[.agg #[.int .i64 a, .int .i64 d], .bool true]) = .returned (.tuple #[.agg #[.int .i64 (joinF a b c d), .int .i64 (joinT a b c d)], .bool true]) from by simp [joinF, joinT, ht, hM, hN])
      clear hM hN
      go_enter Tryd.func24, Tryd.ntmps24
      go_wp2_with fail
      with_reducible refine (rtouch_any a b c d _).mono ?_
      rintro e w1 ⟨rfl, hb1⟩
      obtain ⟨hc1, hf1⟩ := bcell hb1
      have B1 := bel (w := w) (by go_grown) hb1
      have c0 : w1.cell? ⟨w.heap.size, 0, none⟩ = some (.int .i64 a) := by rw [hc1 (w.heap.size) 0 (by simp only [World.size_alloc]; omega)]; simp [go_sem]
      have c1 : w1.cell? ⟨w.heap.size, 1, none⟩ = some (.int .i64 b) := by rw [hc1 (w.heap.size) 1 (by simp only [World.size_alloc]; omega)]; simp [go_sem]
      have c2 : w1.cell? ⟨w.heap.size + 1, 0, none⟩ = some (.int .i64 c) := by rw [hc1 (w.heap.size + 1) 0 (by simp only [World.size_alloc]; omega)]; simp [go_sem]
      have c3 : w1.cell? ⟨w.heap.size + 1, 1, none⟩ = some (.int .i64 d) := by rw [hc1 (w.heap.size + 1) 1 (by simp only [World.size_alloc]; omega)]; simp [go_sem]
      have c4 : w1.cell? ⟨w.heap.size + 1 + 1, 0, none⟩ = some (.int .i64 0) := by rw [hc1 (w.heap.size + 1 + 1) 0 (by simp only [World.size_alloc]; omega)]; simp [go_sem]
      have c5 : w1.cell? ⟨w.heap.size + 1 + 1, 1, none⟩ = some (.int .i64 0) := by rw [hc1 (w.heap.size + 1 + 1) 1 (by simp only [World.size_alloc]; omega)]; simp [go_sem]
      have f0 : w1.frozen? ⟨w.heap.size, 0, none⟩ = false := by rw [hf1 (w.heap.size) 0 (by simp only [World.size_alloc]; omega)]; simp [go_sem]
      have f1 : w1.frozen? ⟨w.heap.size, 1, none⟩ = false := by rw [hf1 (w.heap.size) 1 (by simp only [World.size_alloc]; omega)]; simp [go_sem]
      have f4 : w1.frozen? ⟨w.heap.size + 1 + 1, 0, none⟩ = false := by rw [hf1 (w.heap.size + 1 + 1) 0 (by simp only [World.size_alloc]; omega)]; simp [go_sem]
      have f5 : w1.frozen? ⟨w.heap.size + 1 + 1, 1, none⟩ = false := by rw [hf1 (w.heap.size + 1 + 1) 1 (by simp only [World.size_alloc]; omega)]; simp [go_sem]
      clear hc1 hf1 hb1
      go_wp2
      exact bodyPost_ret (v := .tuple #[.agg #[.int .i64 a, .int .i64 d], .bool true]) (by simp [results, Tryd.results24, go_sem, c4, c5]) rfl ⟨HF.out, by go_grown⟩
    · have hM : mnI a c = a := by unfold mnI; omega
      have hN : mxI b d = b := by unfold mxI; omega
      have HF := Lib.hid (show Ending.returned (.tuple #[.agg #[.int .i64 a, .int .i64 b], .bool true]) = .returned (.tuple #[.agg #[.int .i64 (joinF a b c d), .int .i64 (joinT a b c d)], .bool true]) from by simp [joinF, joinT, ht, hM, hN])
      clear hM hN
      go_enter Tryd.func24, Tryd.ntmps24
      go_wp2_with fail
      with_reducible refine (rtouch_any a b c d _).mono ?_
      rintro e w1 ⟨rfl, hb1⟩
      obtain ⟨hc1, hf1⟩ := bcell hb1
      have B1 := bel (w := w) (by go_grown) hb1
      have c0 : w1.cell? ⟨w.heap.size, 0, none⟩ = some (.int .i64 a) := by rw [hc1 (w.heap.size) 0 (by simp only [World.size_alloc]; omega)]; simp [go_sem]
      have c1 : w1.cell? ⟨w.heap.size, 1, none⟩ = some (.int .i64 b) := by rw [hc1 (w.heap.size) 1 (by simp only [World.size_alloc]; omega)]; simp [go_sem]
      have c2 : w1.cell? ⟨w.heap.size + 1, 0, none⟩ = some (.int .i64 c) := by rw [hc1 (w.heap.size + 1) 0 (by simp only [World.size_alloc]; omega)]; simp [go_sem]
      have c3 : w1.cell? ⟨w.heap.size + 1, 1, none⟩ = some (.int .i64 d) := by rw [hc1 (w.heap.size + 1) 1 (by simp only [World.size_alloc]; omega)]; simp [go_sem]
      have c4 : w1.cell? ⟨w.heap.size + 1 + 1, 0, none⟩ = some (.int .i64 0) := by rw [hc1 (w.heap.size + 1 + 1) 0 (by simp only [World.size_alloc]; omega)]; simp [go_sem]
      have c5 : w1.cell? ⟨w.heap.size + 1 + 1, 1, none⟩ = some (.int .i64 0) := by rw [hc1 (w.heap.size + 1 + 1) 1 (by simp only [World.size_alloc]; omega)]; simp [go_sem]
      have f0 : w1.frozen? ⟨w.heap.size, 0, none⟩ = false := by rw [hf1 (w.heap.size) 0 (by simp only [World.size_alloc]; omega)]; simp [go_sem]
      have f1 : w1.frozen? ⟨w.heap.size, 1, none⟩ = false := by rw [hf1 (w.heap.size) 1 (by simp only [World.size_alloc]; omega)]; simp [go_sem]
      have f4 : w1.frozen? ⟨w.heap.size + 1 + 1, 0, none⟩ = false := by rw [hf1 (w.heap.size + 1 + 1) 0 (by simp only [World.size_alloc]; omega)]; simp [go_sem]
      have f5 : w1.frozen? ⟨w.heap.size + 1 + 1, 1, none⟩ = false := by rw [hf1 (w.heap.size + 1 + 1) 1 (by simp only [World.size_alloc]; omega)]; simp [go_sem]
      clear hc1 hf1 hb1
      go_wp2
      exact bodyPost_ret (v := .tuple #[.agg #[.int .i64 a, .int .i64 b], .bool true]) (by simp [results, Tryd.results24, go_sem, c4, c5]) rfl ⟨HF.out, by go_grown⟩

set_option maxHeartbeats 800000 in
theorem rwithin_any (a b c d : Int) (w : World) :
    Calls Tryd.prog 22 #[.agg #[.int .i64 a, .int .i64 b], .agg #[.int .i64 c, .int .i64 d]] w fun e w' => e = .returned (.bool (withinB a b c d)) ∧ Below w.heap.size w w' := by
  cases hr : rtB a b with
  | false =>
    go_enter Tryd.func22, Tryd.ntmps22
    go_wp2_with (first | (go_at_call 14; with_reducible refine (rright_any a b _).mono ?_; rintro e w1 ⟨rfl, hb1⟩; obtain ⟨hc1, hf1⟩ := bcell hb1; have hz1 := lt2 hb1; have B1 := bel (w := w) (by go_grown) hb1))
    go_ret
    exact ⟨ret_bool (by simp [withinB, hr]), by go_grown⟩
  | true =>
    cases hs : rtB c d with
    | false =>
      go_enter Tryd.func22, Tryd.ntmps22
      go_wp2_with (first | (go_at_call 14; with_reducible refine (rright_any a b _).mono ?_; rintro e w1 ⟨rfl, hb1⟩; obtain ⟨hc1, hf1⟩ := bcell hb1; have hz1 := lt2 hb1; have B1 := bel (w := w) (by go_grown) hb1) | (go_at_call 14; with_reducible refine (rright_any c d _).mono ?_; rintro e w2 ⟨rfl, hb2⟩; obtain ⟨hc2, hf2⟩ := bcell hb2; have B2 := bel (w := w) B1 hb2))
      go_ret
      exact ⟨ret_bool (by simp [withinB, hs]), by go_grown⟩
    | true =>
      by_cases h : a = b
      · subst h
        go_enter Tryd.func22, Tryd.ntmps22
        go_wp2_with (first | (go_at_call 14; with_reducible refine (rright_any a a _).mono ?_; rintro e w1 ⟨rfl, hb1⟩; obtain ⟨hc1, hf1⟩ := bcell hb1; have hz1 := lt2 hb1; have B1 := bel (w := w) (by go_grown) hb1) | (go_at_call 14; with_reducible refine (rright_any c d _).mono ?_; rintro e w2 ⟨rfl, hb2⟩; obtain ⟨hc2, hf2⟩ := bcell hb2; have B2 := bel (w := w) B1 hb2))
        go_ret
        exact ⟨ret_bool (by simp [withinB, hr, hs]), by go_grown⟩
      · have h' : (a == b) = false := by simpa using h
        by_cases h1 : c ≤ a
        · by_cases h2 : b ≤ d
          · go_enter Tryd.func22, Tryd.ntmps22
            go_wp2_with (first | (go_at_call 14; with_reducible refine (rright_any a b _).mono ?_; rintro e w1 ⟨rfl, hb1⟩; obtain ⟨hc1, hf1⟩ := bcell hb1; have hz1 := lt2 hb1; have B1 := bel (w := w) (by go_grown) hb1) | (go_at_call 14; with_reducible refine (rright_any c d _).mono ?_; rintro e w2 ⟨rfl, hb2⟩; obtain ⟨hc2, hf2⟩ := bcell hb2; have B2 := bel (w := w) B1 hb2))
            go_ret
            exact ⟨ret_bool (by simp [withinB, hr, hs, h]; omega), by go_grown⟩
          · go_enter Tryd.func22, Tryd.ntmps22
            go_wp2_with (first | (go_at_call 14; with_reducible refine (rright_any a b _).mono ?_; rintro e w1 ⟨rfl, hb1⟩; obtain ⟨hc1, hf1⟩ := bcell hb1; have hz1 := lt2 hb1; have B1 := bel (w := w) (by go_grown) hb1) | (go_at_call 14; with_reducible refine (rright_any c d _).mono ?_; rintro e w2 ⟨rfl, hb2⟩; obtain ⟨hc2, hf2⟩ := bcell hb2; have B2 := bel (w := w) B1 hb2))
            go_ret
            exact ⟨ret_bool (by simp [withinB, hr, hs, h]; omega), by go_grown⟩
        · go_enter Tryd.func22, Tryd.ntmps22
          go_wp2_with (first | (go_at_call 14; with_reducible refine (rright_any a b _).mono ?_; rintro e w1 ⟨rfl, hb1⟩; obtain ⟨hc1, hf1⟩ := bcell hb1; have hz1 := lt2 hb1; have B1 := bel (w := w) (by go_grown) hb1) | (go_at_call 14; with_reducible refine (rright_any c d _).mono ?_; rintro e w2 ⟨rfl, hb2⟩; obtain ⟨hc2, hf2⟩ := bcell hb2; have B2 := bel (w := w) B1 hb2))
          go_ret
          exact ⟨ret_bool (by simp [withinB, hr, hs, h]; omega), by go_grown⟩

set_option maxHeartbeats 800000 in
theorem rcut_any (a b p : Int) (w : World) :
    Calls Tryd.prog 27 #[.agg #[.int .i64 a, .int .i64 b], .int .i64 p] w fun e w' => e = .returned (.tuple #[.agg #[.int .i64 (cutA a b), .int .i64 (cutM a b p)], .agg #[.int .i64 (cutM a b p), .int .i64 (cutZ a b)]]) ∧ Below w.heap.size w w' := by
  cases hr : rtB a b with
  | false =>
    have HF := Lib.hid (show Ending.returned (.tuple #[.agg #[.int .i64 0, .int .i64 0], .agg #[.int .i64 0, .int .i64 0]]) = .returned (.tuple #[.agg #[.int .i64 (cutA a b), .int .i64 (cutM a b p)], .agg #[.int .i64 (cutM a b p), .int .i64 (cutZ a b)]]) from by simp [cutA, cutM, cutZ, hr])
    go_enter Tryd.func27, Tryd.ntmps27
    go_wp2_with (first | (go_at_call 14; with_reducible refine (rright_any a b _).mono ?_; rintro e w1 ⟨rfl, hb1⟩; obtain ⟨hc1, hf1⟩ := bcell hb1; have hz1 := lt3 hb1; have B1 := bel (w := w) (by go_grown) hb1))
    exact bodyPost_ret (v := .tuple #[.agg #[.int .i64 0, .int .i64 0], .agg #[.int .i64 0, .int .i64 0]]) (by simp [results, Tryd.results27, go_sem, hc1]) rfl ⟨HF.out, by go_grown⟩
  | true =>
    have h0 := rtB_t hr
    by_cases h1 : p < a
    · have HF := Lib.hid (show Ending.returned (.tuple #[.agg #[.int .i64 a, .int .i64 a], .agg #[.int .i64 a, .int .i64 b]]) = .returned (.tuple #[.agg #[.int .i64 (cutA a b), .int .i64 (cutM a b p)], .agg #[.int .i64 (cutM a b p), .int .i64 (cutZ a b)]]) from by
        have hm : cutM a b p = a := by simp [cutM, hr, h1]
        simp [cutA, hm, cutZ, hr])
      go_enter Tryd.func27, Tryd.ntmps27
      go_wp2_with (first | (go_at_call 14; with_reducible refine (rright_any a b _).mono ?_; rintro e w1 ⟨rfl, hb1⟩; obtain ⟨hc1, hf1⟩ := bcell hb1; have hz1 := lt3 hb1; have B1 := bel (w := w) (by go_grown) hb1))
      go_region
      all_goals
        go_wp2
        exact bodyPost_ret (v := .tuple #[.agg #[.int .i64 a, .int .i64 a], .agg #[.int .i64 a, .int .i64 b]]) (by simp [results, Tryd.results27, go_sem, hc1]) rfl ⟨HF.out, by go_grown⟩
    · by_cases h2 : b < p
      · have HF := Lib.hid (show Ending.returned (.tuple #[.agg #[.int .i64 a, .int .i64 b], .agg #[.int .i64 b, .int .i64 b]]) = .returned (.tuple #[.agg #[.int .i64 (cutA a b), .int .i64 (cutM a b p)], .agg #[.int .i64 (cutM a b p), .int .i64 (cutZ a b)]]) from by
          have hm : cutM a b p = b := by simp [cutM, hr, h1, h2]
          simp [cutA, hm, cutZ, hr])
        go_enter Tryd.func27, Tryd.ntmps27
        go_wp2_with (first | (go_at_call 14; with_reducible refine (rright_any a b _).mono ?_; rintro e w1 ⟨rfl, hb1⟩; obtain ⟨hc1, hf1⟩ := bcell hb1; have hz1 := lt3 hb1; have B1 := bel (w := w) (by go_grown) hb1))
        go_region
        all_goals
          go_wp2
          exact bodyPost_ret (v := .tuple #[.agg #[.int .i64 a, .int .i64 b], .agg #[.int .i64 b, .int .i64 b]]) (by simp [results, Tryd.results27, go_sem, hc1]) rfl ⟨HF.out, by go_grown⟩
      · have HF := Lib.hid (show Ending.returned (.tuple #[.agg #[.int .i64 a, .int .i64 p], .agg #[.int .i64 p, .int .i64 b]]) = .returned (.tuple #[.agg #[.int .i64 (cutA a b), .int .i64 (cutM a b p)], .agg #[.int .i64 (cutM a b p), .int .i64 (cutZ a b)]]) from by
          have hm : cutM a b p = p := by simp [cutM, hr, h1, h2]
          simp [cutA, hm, cutZ, hr])
        go_enter Tryd.func27, Tryd.ntmps27
        go_wp2_with (first | (go_at_call 14; with_reducible refine (rright_any a b _).mono ?_; rintro e w1 ⟨rfl, hb1⟩; obtain ⟨hc1, hf1⟩ := bcell hb1; have hz1 := lt3 hb1; have B1 := bel (w := w) (by go_grown) hb1))
        go_region
        all_goals
          go_wp2
          exact bodyPost_ret (v := .tuple #[.agg #[.int .i64 a, .int .i64 p], .agg #[.int .i64 p, .int .i64 b]]) (by simp [results, Tryd.results27, go_sem, hc1]) rfl ⟨HF.out, by go_grown⟩
end Go.Proofs.YtbhbnkblnfaomaaDoor
