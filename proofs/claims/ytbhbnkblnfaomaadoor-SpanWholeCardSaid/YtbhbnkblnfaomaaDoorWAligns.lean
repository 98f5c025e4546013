/-
  The walk of SpanAligns.
-/
import Derived.Test.YtbhbnkblnfaomaaDoorAwake
import Derived.Test.YtbhbnkblnfaomaaDoorRef01D
namespace Go.Proofs.YtbhbnkblnfaomaaDoor
open Go Go.RowKit

theorem al_math {a b u : Int} (h : alB a b u = true) :
    alF a b u % u = 0 ∧ 0 ≤ alF a b u ∧ alF a b u ≤ a ∧ a < alF a b u + u ∧ b ≤ alT a b u ∧ alT a b u ≤ 4611686018427387904 ∧ (alT a b u % u = 0 ∨ alT a b u = 4611686018427387904) ∧ alT a b u - u < b ∧ (b = 4611686018427387904 → alT a b u = 4611686018427387904) := by
  have h' := h
  unfold alB at h'
  simp only [Bool.and_eq_true, decide_eq_true_eq] at h'
  obtain ⟨⟨hr, h1⟩, h2⟩ := h'
  obtain ⟨r0, r1, r2⟩ := rtB_t hr
  have eF : alF a b u = a - a % u := by unfold alF; rw [if_pos h]
  have eT : alT a b u = mnI ((b + u - 1) / u * u) 4611686018427387904 := by unfold alT; rw [if_pos h]
  have m0 := Int.emod_nonneg a (show u ≠ 0 by omega)
  have m1 := Int.emod_lt_of_pos a (show 0 < u by omega)
  have d0 := Int.emod_add_mul_ediv a u
  have d1 : 0 ≤ u * (a / u) := Int.mul_nonneg (by omega) (Int.ediv_nonneg r0 (by omega))
  have z : (a - a % u) % u = 0 := by
    rw [show a - a % u = u * (a / u) by omega]; exact Int.mul_emod_right _ _
  have hup := up_eq (b := b) h1
  have k0 := Int.emod_nonneg b (show u ≠ 0 by omega)
  have k1 := Int.emod_lt_of_pos b (show 0 < u by omega)
  have zz : ((b + u - 1) / u * u) % u = 0 := Int.mul_emod_left _ _
  rw [eF, eT]
  generalize (b + u - 1) / u * u = t at *
  have ht : b ≤ t ∧ t - u < b := by
    rw [hup]; split
    · omega
    · omega
  clear hup eF eT
  refine ⟨z, by omega, by omega, by omega, by unfold mnI; omega, by unfold mnI; omega, ?_, by unfold mnI; omega, by intro e; unfold mnI; omega⟩
  unfold mnI
  rcases Int.le_total t 4611686018427387904 with hle | hle
  · rw [Int.min_eq_left hle]; exact .inl zz
  · rw [Int.min_eq_right hle]; exact .inr rfl
theorem al_again {a b u : Int} (h : alB a b u = true) : alB (alF a b u) (alT a b u) u = true ∧ alF (alF a b u) (alT a b u) u = alF a b u ∧ alT (alF a b u) (alT a b u) u = alT a b u ∧ alE (alF a b u) (alT a b u) u = 0 ∧ withinB a b (alF a b u) (alT a b u) = true := by
  obtain ⟨z, f0, f1, f2, t0, t1, tz, t2, t3⟩ := al_math h
  have h' := h
  unfold alB at h'
  simp only [Bool.and_eq_true, decide_eq_true_eq] at h'
  obtain ⟨⟨hr, h1⟩, h2⟩ := h'
  obtain ⟨r0, r1, r2⟩ := rtB_t hr
  generalize alF a b u = F at *
  generalize alT a b u = T at *
  have hr2 : rtB F T = true := rtB_mk (by omega)
  have hb2 : alB F T u = true := by simp [alB, hr2, h1, h2]
  refine ⟨hb2, ?_, ?_, ?_, ?_⟩
  · unfold alF; rw [if_pos hb2, z]; omega
  · unfold alT; rw [if_pos hb2, up_eq h1]
    rcases tz with e | e
    · rw [if_pos e]; unfold mnI; omega
    · have k0 := Int.emod_nonneg T (show u ≠ 0 by omega)
      have k1 := Int.emod_lt_of_pos T (show 0 < u by omega)
      unfold mnI; split <;> omega
  · unfold alE; rw [if_pos hb2]
  · simp [withinB, hr, hr2]; omega

set_option maxHeartbeats 4000000 in
set_option maxRecDepth 100000 in
theorem walk_SpanAligns (a b u : Int) (w : World) (hL : LaidAt w) (_ha : (Lit.int .i64 a).wf = true) (_hb : (Lit.int .i64 b).wf = true) (_hu : (Lit.int .i64 u).wf = true) :
    Calls Tryd.prog 7 #[.agg #[.int .i64 a, .int .i64 b], .int .i64 u] w fun e w' => e = .returned (.bool true) ∧ Below w.heap.size w w' := by
  cases hr : alB a b u with
  | false =>
    have HE : alE a b u = 1 := by unfold alE; rw [hr]; rfl
    go_enter Tryd.func7, Tryd.ntmps7
    go_wp2_with fail
    with_reducible refine (align_any a b u _).mono ?_
    rintro e w1 ⟨rfl, hb1⟩
    obtain ⟨hc1, hf1⟩ := bcell hb1
    have hz1 : w.heap.size < w1.heap.size ∧ w.heap.size < w1.heap.size + 1 := (by have := hb1.size; (try simp only [World.size_alloc] at this); omega)
    have B1 := bel (w := w) (by go_grown) hb1
    clear hb1
    go_wp2_with fail
    with_reducible refine (ralign_any a b u _).mono ?_
    rintro e w2 ⟨rfl, hb2⟩
    obtain ⟨hc2, hf2⟩ := bcell hb2
    have hz2 : w.heap.size < w2.heap.size ∧ w1.heap.size < w2.heap.size ∧ w.heap.size < w2.heap.size + 1 ∧ w1.heap.size < w2.heap.size + 1 := (by have := hb2.size; (try simp only [World.size_alloc] at this); omega)
    have B2 := bel (w := w) (by go_grown) hb2
    clear hb2
    go_wp2_with fail
    with_reducible refine (awake_any _ (hL.below (by go_grown))).mono ?_
    rintro e w3 ⟨rfl, hb3⟩
    obtain ⟨hc3, hf3⟩ := bcell hb3
    have hz3 : w.heap.size < w3.heap.size ∧ w1.heap.size < w3.heap.size ∧ w2.heap.size < w3.heap.size := (by have := hb3.size; (try simp only [World.size_alloc] at this); omega)
    have B3 := bel (w := w) (by go_grown) hb3
    clear hb3
    go_wp2_with fail
    go_ret
    exact ⟨ret_bool (by simp), by go_grown⟩
  | true =>
    have HE : alE a b u = 0 := by unfold alE; rw [hr]; rfl
    have HA := Lib.hid (al_again hr)
    go_enter Tryd.func7, Tryd.ntmps7
    go_wp2_with fail
    with_reducible refine (align_any a b u _).mono ?_
    rintro e w1 ⟨rfl, hb1⟩
    obtain ⟨hc1, hf1⟩ := bcell hb1
    have hz1 : w.heap.size < w1.heap.size ∧ w.heap.size < w1.heap.size + 1 := (by have := hb1.size; (try simp only [World.size_alloc] at this); omega)
    have B1 := bel (w := w) (by go_grown) hb1
    clear hb1
    go_wp2_with fail
    with_reducible refine (ralign_any a b u _).mono ?_
    rintro e w2 ⟨rfl, hb2⟩
    obtain ⟨hc2, hf2⟩ := bcell hb2
    have hz2 : w.heap.size < w2.heap.size ∧ w1.heap.size < w2.heap.size ∧ w.heap.size < w2.heap.size + 1 ∧ w1.heap.size < w2.heap.size + 1 := (by have := hb2.size; (try simp only [World.size_alloc] at this); omega)
    have B2 := bel (w := w) (by go_grown) hb2
    clear hb2
    go_wp2_with fail
    with_reducible refine (awake_any _ (hL.below (by go_grown))).mono ?_
    rintro e w3 ⟨rfl, hb3⟩
    obtain ⟨hc3, hf3⟩ := bcell hb3
    have hz3 : w.heap.size < w3.heap.size ∧ w1.heap.size < w3.heap.size ∧ w2.heap.size < w3.heap.size := (by have := hb3.size; (try simp only [World.size_alloc] at this); omega)
    have B3 := bel (w := w) (by go_grown) hb3
    clear hb3
    go_wp2_with fail
    with_reducible refine (align_any (alF a b u) (alT a b u) u _).mono ?_
    rintro e w4 ⟨rfl, hb4⟩
    obtain ⟨hc4, hf4⟩ := bcell hb4
    have hz4 : w.heap.size < w4.heap.size ∧ w1.heap.size < w4.heap.size ∧ w2.heap.size < w4.heap.size ∧ w.heap.size < w4.heap.size + 1 ∧ w1.heap.size < w4.heap.size + 1 ∧ w2.heap.size < w4.heap.size + 1 := (by have := hb4.size; (try simp only [World.size_alloc] at this); omega)
    have B4 := bel (w := w) (by go_grown) hb4
    clear hb4
    rw [HA.out.2.1, HA.out.2.2.1, HA.out.2.2.2.1]
    go_wp2_with fail
    with_reducible refine (within_any a b (alF a b u) (alT a b u) _).mono ?_
    rintro e w5 ⟨rfl, hb5⟩
    obtain ⟨hc5, hf5⟩ := bcell hb5
    have hz5 : w.heap.size < w5.heap.size ∧ w1.heap.size < w5.heap.size ∧ w2.heap.size < w5.heap.size ∧ w4.heap.size < w5.heap.size := (by have := hb5.size; (try simp only [World.size_alloc] at this); omega)
    have B5 := bel (w := w) (by go_grown) hb5
    clear hb5
    rw [HA.out.2.2.2.2]
    go_wp2_with fail
    go_ret
    exact ⟨ret_bool (by simp), by go_grown⟩
end Go.Proofs.YtbhbnkblnfaomaaDoor
