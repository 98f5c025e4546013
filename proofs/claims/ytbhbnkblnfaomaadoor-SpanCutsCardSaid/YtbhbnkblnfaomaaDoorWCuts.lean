/-
  The walk of SpanCuts.
-/
import Derived.Test.YtbhbnkblnfaomaaDoorAwake
import Derived.Test.YtbhbnkblnfaomaaDoorRef01C
namespace Go.Proofs.YtbhbnkblnfaomaaDoor
open Go Go.RowKit

theorem cut_touch {a b p : Int} (h : rtB a b = true) : touchB (cutA a b) (cutM a b p) (cutM a b p) (cutZ a b) = true ∧ joinF (cutA a b) (cutM a b p) (cutM a b p) (cutZ a b) = a ∧ joinT (cutA a b) (cutM a b p) (cutM a b p) (cutZ a b) = b := by
  obtain ⟨h0, h1, h2⟩ := rtB_t h
  have e1 : cutA a b = a := by simp [cutA, h]
  have e2 : cutZ a b = b := by simp [cutZ, h]
  have e3 : a ≤ cutM a b p ∧ cutM a b p ≤ b := by
    clear e1 e2; unfold cutM; rw [if_pos h]; split
    · omega
    · split <;> omega
  rw [e1, e2]
  generalize cutM a b p = m at e3
  clear e1 e2
  have r1 : rtB a m = true := rtB_mk (by omega)
  have r2 : rtB m b = true := rtB_mk (by omega)
  have ht : touchB a m m b = true := by rw [touchB, r1, r2, Bool.true_and, Bool.true_and]; exact decide_eq_true (by unfold mxI mnI; omega)
  refine ⟨ht, ?_, ?_⟩
  · simp only [joinF, ht, if_true, mnI]; omega
  · simp only [joinT, ht, if_true, mxI]; omega

set_option maxHeartbeats 4000000 in
set_option maxRecDepth 100000 in
theorem walk_SpanCuts (a b p : Int) (w : World) (hL : LaidAt w) (_ha : (Lit.int .i64 a).wf = true) (_hb : (Lit.int .i64 b).wf = true) (_hp : (Lit.int .i64 p).wf = true) :
    Calls Tryd.prog 6 #[.agg #[.int .i64 a, .int .i64 b], .int .i64 p] w fun e w' => e = .returned (.bool true) ∧ Below w.heap.size w w' := by
  cases hr : rtB a b with
  | false =>
    go_enter Tryd.func6, Tryd.ntmps6
    go_wp2_with fail
    with_reducible refine (cut_any a b p _).mono ?_
    rintro e w1 ⟨rfl, hb1⟩
    obtain ⟨hc1, hf1⟩ := bcell hb1
    have hz1 : w.heap.size < w1.heap.size ∧ w.heap.size < w1.heap.size + 1 + 1 ∧ w1.heap.size < w1.heap.size + 1 + 1 := (by have := hb1.size; (try simp only [World.size_alloc] at this); omega)
    have B1 := bel (w := w) (by go_grown) hb1
    clear hb1
    go_wp2_with fail
    with_reducible refine (rcut_any a b p _).mono ?_
    rintro e w2 ⟨rfl, hb2⟩
    obtain ⟨hc2, hf2⟩ := bcell hb2
    have hz2 : w.heap.size < w2.heap.size ∧ w1.heap.size < w2.heap.size ∧ w1.heap.size + 1 < w2.heap.size ∧ w.heap.size < w2.heap.size + 1 + 1 ∧ w1.heap.size < w2.heap.size + 1 + 1 ∧ w1.heap.size + 1 < w2.heap.size + 1 + 1 ∧ w2.heap.size < w2.heap.size + 1 + 1 := (by have := hb2.size; (try simp only [World.size_alloc] at this); omega)
    have B2 := bel (w := w) (by go_grown) hb2
    clear hb2
    go_wp2_with fail
    with_reducible refine (join_any (cutA a b) (cutM a b p) (cutM a b p) (cutZ a b) _).mono ?_
    rintro e w3 ⟨rfl, hb3⟩
    obtain ⟨hc3, hf3⟩ := bcell hb3
    have hz3 : w.heap.size < w3.heap.size ∧ w1.heap.size < w3.heap.size ∧ w1.heap.size + 1 < w3.heap.size ∧ w2.heap.size < w3.heap.size ∧ w2.heap.size + 1 < w3.heap.size ∧ w.heap.size < w3.heap.size + 1 ∧ w1.heap.size < w3.heap.size + 1 ∧ w1.heap.size + 1 < w3.heap.size + 1 ∧ w2.heap.size < w3.heap.size + 1 ∧ w2.heap.size + 1 < w3.heap.size + 1 := (by have := hb3.size; (try simp only [World.size_alloc] at this); omega)
    have B3 := bel (w := w) (by go_grown) hb3
    clear hb3
    go_wp2_with fail
    with_reducible refine (awake_any _ (hL.below (by go_grown))).mono ?_
    rintro e w4 ⟨rfl, hb4⟩
    obtain ⟨hc4, hf4⟩ := bcell hb4
    have hz4 : w.heap.size < w4.heap.size ∧ w1.heap.size < w4.heap.size ∧ w1.heap.size + 1 < w4.heap.size ∧ w2.heap.size < w4.heap.size ∧ w2.heap.size + 1 < w4.heap.size ∧ w3.heap.size < w4.heap.size := (by have := hb4.size; (try simp only [World.size_alloc] at this); omega)
    have B4 := bel (w := w) (by go_grown) hb4
    clear hb4
    go_wp2_with fail
    with_reducible refine (rright_any a b _).mono ?_
    rintro e w5 ⟨rfl, hb5⟩
    obtain ⟨hc5, hf5⟩ := bcell hb5
    have hz5 : w.heap.size < w5.heap.size ∧ w1.heap.size < w5.heap.size ∧ w1.heap.size + 1 < w5.heap.size ∧ w2.heap.size < w5.heap.size ∧ w2.heap.size + 1 < w5.heap.size ∧ w3.heap.size < w5.heap.size := (by have := hb5.size; (try simp only [World.size_alloc] at this); omega)
    have B5 := bel (w := w) (by go_grown) hb5
    clear hb5
    go_wp2_with fail
    go_ret
    exact ⟨ret_bool (by simp), by go_grown⟩
  | true =>
    have HC := Lib.hid (cut_touch (p := p) hr)
    go_enter Tryd.func6, Tryd.ntmps6
    go_wp2_with fail
    with_reducible refine (cut_any a b p _).mono ?_
    rintro e w1 ⟨rfl, hb1⟩
    obtain ⟨hc1, hf1⟩ := bcell hb1
    have hz1 : w.heap.size < w1.heap.size ∧ w.heap.size < w1.heap.size + 1 + 1 ∧ w1.heap.size < w1.heap.size + 1 + 1 := (by have := hb1.size; (try simp only [World.size_alloc] at this); omega)
    have B1 := bel (w := w) (by go_grown) hb1
    clear hb1
    go_wp2_with fail
    with_reducible refine (rcut_any a b p _).mono ?_
    rintro e w2 ⟨rfl, hb2⟩
    obtain ⟨hc2, hf2⟩ := bcell hb2
    have hz2 : w.heap.size < w2.heap.size ∧ w1.heap.size < w2.heap.size ∧ w1.heap.size + 1 < w2.heap.size ∧ w.heap.size < w2.heap.size + 1 + 1 ∧ w1.heap.size < w2.heap.size + 1 + 1 ∧ w1.heap.size + 1 < w2.heap.size + 1 + 1 ∧ w2.heap.size < w2.heap.size + 1 + 1 := (by have := hb2.size; (try simp only [World.size_alloc] at this); omega)
    have B2 := bel (w := w) (by go_grown) hb2
    clear hb2
    go_wp2_with fail
    with_reducible refine (join_any (cutA a b) (cutM a b p) (cutM a b p) (cutZ a b) _).mono ?_
    rintro e w3 ⟨rfl, hb3⟩
    obtain ⟨hc3, hf3⟩ := bcell hb3
    have hz3 : w.heap.size < w3.heap.size ∧ w1.heap.size < w3.heap.size ∧ w1.heap.size + 1 < w3.heap.size ∧ w2.heap.size < w3.heap.size ∧ w2.heap.size + 1 < w3.heap.size ∧ w.heap.size < w3.heap.size + 1 ∧ w1.heap.size < w3.heap.size + 1 ∧ w1.heap.size + 1 < w3.heap.size + 1 ∧ w2.heap.size < w3.heap.size + 1 ∧ w2.heap.size + 1 < w3.heap.size + 1 := (by have := hb3.size; (try simp only [World.size_alloc] at this); omega)
    have B3 := bel (w := w) (by go_grown) hb3
    clear hb3
    rw [HC.out.1, HC.out.2.1, HC.out.2.2]
    go_wp2_with fail
    with_reducible refine (awake_any _ (hL.below (by go_grown))).mono ?_
    rintro e w4 ⟨rfl, hb4⟩
    obtain ⟨hc4, hf4⟩ := bcell hb4
    have hz4 : w.heap.size < w4.heap.size ∧ w1.heap.size < w4.heap.size ∧ w1.heap.size + 1 < w4.heap.size ∧ w2.heap.size < w4.heap.size ∧ w2.heap.size + 1 < w4.heap.size ∧ w3.heap.size < w4.heap.size := (by have := hb4.size; (try simp only [World.size_alloc] at this); omega)
    have B4 := bel (w := w) (by go_grown) hb4
    clear hb4
    go_wp2_with fail
    with_reducible refine (rright_any a b _).mono ?_
    rintro e w5 ⟨rfl, hb5⟩
    obtain ⟨hc5, hf5⟩ := bcell hb5
    have hz5 : w.heap.size < w5.heap.size ∧ w1.heap.size < w5.heap.size ∧ w1.heap.size + 1 < w5.heap.size ∧ w2.heap.size < w5.heap.size ∧ w2.heap.size + 1 < w5.heap.size ∧ w3.heap.size < w5.heap.size := (by have := hb5.size; (try simp only [World.size_alloc] at this); omega)
    have B5 := bel (w := w) (by go_grown) hb5
    clear hb5
    go_wp2_with fail
    go_ret
    exact ⟨ret_bool (by simp), by go_grown⟩
end Go.Proofs.YtbhbnkblnfaomaaDoor
