/-
  The walk of SpanWhole.
-/
import Derived.Test.YtbhbnkblnfaomaaDoorWAligns
namespace Go.Proofs.YtbhbnkblnfaomaaDoor
open Go Go.RowKit

set_option maxHeartbeats 4000000 in
set_option maxRecDepth 100000 in
theorem walk_SpanWhole (a b u : Int) (w : World) (hL : LaidAt w) (_ha : (Lit.int .i64 a).wf = true) (_hb : (Lit.int .i64 b).wf = true) (_hu : (Lit.int .i64 u).wf = true) :
    Calls Tryd.prog 11 #[.agg #[.int .i64 a, .int .i64 b], .int .i64 u] w fun e w' => e = .returned (.bool true) ∧ Below w.heap.size w w' := by
  cases hr : alB a b u with
  | false =>
    have HE : alE a b u = 1 := by unfold alE; rw [hr]; rfl
    go_enter Tryd.func11, Tryd.ntmps11
    go_wp2_with fail
    with_reducible refine (align_any a b u _).mono ?_
    rintro e w1 ⟨rfl, hb1⟩
    obtain ⟨hc1, hf1⟩ := bcell hb1
    have hz1 : w.heap.size < w1.heap.size ∧ w.heap.size < w1.heap.size + 1 := (by have := hb1.size; (try simp only [World.size_alloc] at this); omega)
    have B1 := bel (w := w) (by go_grown) hb1
    clear hb1
    go_wp2_with fail
    with_reducible refine (awake_any _ (hL.below (by go_grown))).mono ?_
    rintro e w2 ⟨rfl, hb2⟩
    obtain ⟨hc2, hf2⟩ := bcell hb2
    have hz2 : w.heap.size < w2.heap.size ∧ w1.heap.size < w2.heap.size := (by have := hb2.size; (try simp only [World.size_alloc] at this); omega)
    have B2 := bel (w := w) (by go_grown) hb2
    clear hb2
    go_wp2_with fail
    with_reducible refine (awake_any _ (hL.below (by go_grown))).mono ?_
    rintro e w3 ⟨rfl, hb3⟩
    obtain ⟨hc3, hf3⟩ := bcell hb3
    have hz3 : w.heap.size < w3.heap.size ∧ w1.heap.size < w3.heap.size := (by have := hb3.size; (try simp only [World.size_alloc] at this); omega)
    have B3 := bel (w := w) (by go_grown) hb3
    clear hb3
    go_wp2_with fail
    go_ret
    exact ⟨rfl, by go_grown⟩
  | true =>
    have HE : alE a b u = 0 := by unfold alE; rw [hr]; rfl
    have hm := al_math hr
    have hr' := hr
    unfold alB at hr'
    simp only [Bool.and_eq_true, decide_eq_true_eq] at hr'
    obtain ⟨⟨hrt, h1⟩, h2⟩ := hr'
    have h0 := rtB_t hrt
    have HC : ∀ W, Calls Tryd.prog 28 #[.agg #[.int .i64 a, .int .i64 b], .int .i64 u] W fun e w' => e = .returned (.tuple #[.agg #[.int .i64 (alF a b u), .int .i64 (alT a b u)], .int .i64 0]) ∧ Below W.heap.size W w' := by
      intro W; have k := align_any a b u W; rw [HE] at k; exact k
    generalize alF a b u = F at *
    generalize alT a b u = T at *
    obtain ⟨z, f0, f1, f2, t0, t1, tz, t2, t3⟩ := hm
    have HK := Lib.hid HC
    clear HE HC hr
    by_cases hl : lenI a b = 0
    · go_enter Tryd.func11, Tryd.ntmps11
      go_wp2_with fail
      with_reducible refine (HK.out _).mono ?_
      rintro e w1 ⟨rfl, hb1⟩
      obtain ⟨hc1, hf1⟩ := bcell hb1
      have hz1 : w.heap.size < w1.heap.size ∧ w.heap.size < w1.heap.size + 1 := (by have := hb1.size; (try simp only [World.size_alloc] at this); omega)
      have B1 := bel (w := w) (by go_grown) hb1
      clear hb1
      go_wp2_with fail
      with_reducible refine (awake_any _ (hL.below (by go_grown))).mono ?_
      rintro e w2 ⟨rfl, hb2⟩
      obtain ⟨hc2, hf2⟩ := bcell hb2
      have hz2 : w.heap.size < w2.heap.size ∧ w1.heap.size < w2.heap.size := (by have := hb2.size; (try simp only [World.size_alloc] at this); omega)
      have B2 := bel (w := w) (by go_grown) hb2
      clear hb2
      go_wp2_with fail
      with_reducible refine (len_any a b _).mono ?_
      rintro e w3 ⟨rfl, hb3⟩
      obtain ⟨hc3, hf3⟩ := bcell hb3
      have hz3 : w.heap.size < w3.heap.size ∧ w1.heap.size < w3.heap.size := (by have := hb3.size; (try simp only [World.size_alloc] at this); omega)
      have B3 := bel (w := w) (by go_grown) hb3
      clear hb3
      go_wp2_with fail
      with_reducible refine (awake_any _ (hL.below (by go_grown))).mono ?_
      rintro e w4 ⟨rfl, hb4⟩
      obtain ⟨hc4, hf4⟩ := bcell hb4
      have hz4 : w.heap.size < w4.heap.size ∧ w1.heap.size < w4.heap.size := (by have := hb4.size; (try simp only [World.size_alloc] at this); omega)
      have B4 := bel (w := w) (by go_grown) hb4
      clear hb4
      go_wp2_with fail
      go_ret
      exact ⟨rfl, by go_grown⟩
    · have hl1 : (lenI a b == 0) = false := by simpa using hl
      have hne : a < b := by
        rcases Int.lt_or_le a b with q | q
        · exact q
        · exfalso; apply hl
          have e : a = b := by omega
          subst e
          unfold lenI
          rw [if_pos hrt]
          have : opB a a = false := by unfold opB; by_cases e : a = 4611686018427387904 <;> simp [e]
          rw [this]; simp
      clear hl
      have hrF : rtB F T = true := rtB_mk (by omega)
      have hh : hasB F T a = true := by simp [hasB, hrF]; omega
      have HH : ∀ W, Calls Tryd.prog 17 #[.agg #[.int .i64 F, .int .i64 T], .int .i64 a] W fun e w' => e = .returned (.bool true) ∧ Below W.heap.size W w' := by
        intro W; have k := has_any F T a W; rw [hh] at k; exact k
      have HHK := Lib.hid HH
      clear HH hh hrF
      have fu : ¬ F + u ≤ a := by omega
      have u0 : ¬ u = 0 := by omega
      by_cases hz : T % u = 0
      · by_cases hb : b = 4611686018427387904
        · have z1 : (T % u == 0) = true := by simpa using hz
          have z2 : (T % u != 0) = false := by simpa using hz
          have hT := t3 hb
          have b1 : (b == 4611686018427387904) = true := by simpa using hb
          have b2 : (b != 4611686018427387904) = false := by simpa using hb
          have T1 : (T == 4611686018427387904) = true := by simpa using hT
          have T2 : (T != 4611686018427387904) = false := by simpa using hT
          clear hb hT t3 tz
          go_enter Tryd.func11, Tryd.ntmps11
          go_wp2_with fail
          with_reducible refine (HK.out _).mono ?_
          rintro e w1 ⟨rfl, hb1⟩
          obtain ⟨hc1, hf1⟩ := bcell hb1
          have hz1 : w.heap.size < w1.heap.size ∧ w.heap.size < w1.heap.size + 1 := (by have := hb1.size; (try simp only [World.size_alloc] at this); omega)
          have B1 := bel (w := w) (by go_grown) hb1
          clear hb1
          go_wp2_with fail
          with_reducible refine (awake_any _ (hL.below (by go_grown))).mono ?_
          rintro e w2 ⟨rfl, hb2⟩
          obtain ⟨hc2, hf2⟩ := bcell hb2
          have hz2 : w.heap.size < w2.heap.size ∧ w1.heap.size < w2.heap.size := (by have := hb2.size; (try simp only [World.size_alloc] at this); omega)
          have B2 := bel (w := w) (by go_grown) hb2
          clear hb2
          go_wp2_with fail
          with_reducible refine (len_any a b _).mono ?_
          rintro e w3 ⟨rfl, hb3⟩
          obtain ⟨hc3, hf3⟩ := bcell hb3
          have hz3 : w.heap.size < w3.heap.size ∧ w1.heap.size < w3.heap.size := (by have := hb3.size; (try simp only [World.size_alloc] at this); omega)
          have B3 := bel (w := w) (by go_grown) hb3
          clear hb3
          go_wp2_with fail
          with_reducible refine (HHK.out _).mono ?_
          rintro e w4 ⟨rfl, hb4⟩
          obtain ⟨hc4, hf4⟩ := bcell hb4
          have hz4 : w.heap.size < w4.heap.size ∧ w1.heap.size < w4.heap.size := (by have := hb4.size; (try simp only [World.size_alloc] at this); omega)
          have B4 := bel (w := w) (by go_grown) hb4
          clear hb4
          go_wp2_with fail
          go_ret
          exact ⟨ret_bool (by simp), by go_grown⟩
        · have z1 : (T % u == 0) = true := by simpa using hz
          have z2 : (T % u != 0) = false := by simpa using hz
          have b1 : (b == 4611686018427387904) = false := by simpa using hb
          have b2 : (b != 4611686018427387904) = true := by simpa using hb
          clear hb t3 tz
          go_enter Tryd.func11, Tryd.ntmps11
          go_wp2_with fail
          with_reducible refine (HK.out _).mono ?_
          rintro e w1 ⟨rfl, hb1⟩
          obtain ⟨hc1, hf1⟩ := bcell hb1
          have hz1 : w.heap.size < w1.heap.size ∧ w.heap.size < w1.heap.size + 1 := (by have := hb1.size; (try simp only [World.size_alloc] at this); omega)
          have B1 := bel (w := w) (by go_grown) hb1
          clear hb1
          go_wp2_with fail
          with_reducible refine (awake_any _ (hL.below (by go_grown))).mono ?_
          rintro e w2 ⟨rfl, hb2⟩
          obtain ⟨hc2, hf2⟩ := bcell hb2
          have hz2 : w.heap.size < w2.heap.size ∧ w1.heap.size < w2.heap.size := (by have := hb2.size; (try simp only [World.size_alloc] at this); omega)
          have B2 := bel (w := w) (by go_grown) hb2
          clear hb2
          go_wp2_with fail
          with_reducible refine (len_any a b _).mono ?_
          rintro e w3 ⟨rfl, hb3⟩
          obtain ⟨hc3, hf3⟩ := bcell hb3
          have hz3 : w.heap.size < w3.heap.size ∧ w1.heap.size < w3.heap.size := (by have := hb3.size; (try simp only [World.size_alloc] at this); omega)
          have B3 := bel (w := w) (by go_grown) hb3
          clear hb3
          go_wp2_with fail
          with_reducible refine (HHK.out _).mono ?_
          rintro e w4 ⟨rfl, hb4⟩
          obtain ⟨hc4, hf4⟩ := bcell hb4
          have hz4 : w.heap.size < w4.heap.size ∧ w1.heap.size < w4.heap.size := (by have := hb4.size; (try simp only [World.size_alloc] at this); omega)
          have B4 := bel (w := w) (by go_grown) hb4
          clear hb4
          go_wp2_with fail
          go_ret
          exact ⟨ret_bool (by simp), by go_grown⟩
      · by_cases hb : b = 4611686018427387904
        · clear t3
          have z1 : (T % u == 0) = false := by simpa using hz
          have z2 : (T % u != 0) = true := by simpa using hz
          have hT : T = 4611686018427387904 := tz.resolve_left hz
          have T1 : (T == 4611686018427387904) = true := by simpa using hT
          have T2 : (T != 4611686018427387904) = false := by simpa using hT
          clear hT
          have b1 : (b == 4611686018427387904) = true := by simpa using hb
          have b2 : (b != 4611686018427387904) = false := by simpa using hb
          clear hb tz hz
          go_enter Tryd.func11, Tryd.ntmps11
          go_wp2_with fail
          with_reducible refine (HK.out _).mono ?_
          rintro e w1 ⟨rfl, hb1⟩
          obtain ⟨hc1, hf1⟩ := bcell hb1
          have hz1 : w.heap.size < w1.heap.size ∧ w.heap.size < w1.heap.size + 1 := (by have := hb1.size; (try simp only [World.size_alloc] at this); omega)
          have B1 := bel (w := w) (by go_grown) hb1
          clear hb1
          go_wp2_with fail
          with_reducible refine (awake_any _ (hL.below (by go_grown))).mono ?_
          rintro e w2 ⟨rfl, hb2⟩
          obtain ⟨hc2, hf2⟩ := bcell hb2
          have hz2 : w.heap.size < w2.heap.size ∧ w1.heap.size < w2.heap.size := (by have := hb2.size; (try simp only [World.size_alloc] at this); omega)
          have B2 := bel (w := w) (by go_grown) hb2
          clear hb2
          go_wp2_with fail
          with_reducible refine (len_any a b _).mono ?_
          rintro e w3 ⟨rfl, hb3⟩
          obtain ⟨hc3, hf3⟩ := bcell hb3
          have hz3 : w.heap.size < w3.heap.size ∧ w1.heap.size < w3.heap.size := (by have := hb3.size; (try simp only [World.size_alloc] at this); omega)
          have B3 := bel (w := w) (by go_grown) hb3
          clear hb3
          go_wp2_with fail
          with_reducible refine (HHK.out _).mono ?_
          rintro e w4 ⟨rfl, hb4⟩
          obtain ⟨hc4, hf4⟩ := bcell hb4
          have hz4 : w.heap.size < w4.heap.size ∧ w1.heap.size < w4.heap.size := (by have := hb4.size; (try simp only [World.size_alloc] at this); omega)
          have B4 := bel (w := w) (by go_grown) hb4
          clear hb4
          go_wp2_with fail
          go_ret
          exact ⟨ret_bool (by simp), by go_grown⟩
        · have z1 : (T % u == 0) = false := by simpa using hz
          have z2 : (T % u != 0) = true := by simpa using hz
          have hT : T = 4611686018427387904 := tz.resolve_left hz
          have T1 : (T == 4611686018427387904) = true := by simpa using hT
          have T2 : (T != 4611686018427387904) = false := by simpa using hT
          clear hT
          have b1 : (b == 4611686018427387904) = false := by simpa using hb
          have b2 : (b != 4611686018427387904) = true := by simpa using hb
          clear hb t3 tz hz
          go_enter Tryd.func11, Tryd.ntmps11
          go_wp2_with fail
          with_reducible refine (HK.out _).mono ?_
          rintro e w1 ⟨rfl, hb1⟩
          obtain ⟨hc1, hf1⟩ := bcell hb1
          have hz1 : w.heap.size < w1.heap.size ∧ w.heap.size < w1.heap.size + 1 := (by have := hb1.size; (try simp only [World.size_alloc] at this); omega)
          have B1 := bel (w := w) (by go_grown) hb1
          clear hb1
          go_wp2_with fail
          with_reducible refine (awake_any _ (hL.below (by go_grown))).mono ?_
          rintro e w2 ⟨rfl, hb2⟩
          obtain ⟨hc2, hf2⟩ := bcell hb2
          have hz2 : w.heap.size < w2.heap.size ∧ w1.heap.size < w2.heap.size := (by have := hb2.size; (try simp only [World.size_alloc] at this); omega)
          have B2 := bel (w := w) (by go_grown) hb2
          clear hb2
          go_wp2_with fail
          with_reducible refine (len_any a b _).mono ?_
          rintro e w3 ⟨rfl, hb3⟩
          obtain ⟨hc3, hf3⟩ := bcell hb3
          have hz3 : w.heap.size < w3.heap.size ∧ w1.heap.size < w3.heap.size := (by have := hb3.size; (try simp only [World.size_alloc] at this); omega)
          have B3 := bel (w := w) (by go_grown) hb3
          clear hb3
          go_wp2_with fail
          with_reducible refine (HHK.out _).mono ?_
          rintro e w4 ⟨rfl, hb4⟩
          obtain ⟨hc4, hf4⟩ := bcell hb4
          have hz4 : w.heap.size < w4.heap.size ∧ w1.heap.size < w4.heap.size := (by have := hb4.size; (try simp only [World.size_alloc] at this); omega)
          have B4 := bel (w := w) (by go_grown) hb4
          clear hb4
          go_wp2_with fail
          go_ret
          exact ⟨ret_bool (by simp), by go_grown⟩
end Go.Proofs.YtbhbnkblnfaomaaDoor
