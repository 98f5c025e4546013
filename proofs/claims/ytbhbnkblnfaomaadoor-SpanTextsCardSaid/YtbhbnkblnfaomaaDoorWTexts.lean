/-
  The walk of SpanTexts.
-/
import Derived.Lib.QuietBelow
import Derived.Test.YtbhbnkblnfaomaaDoorAwake
import Derived.Test.YtbhbnkblnfaomaaDoorRef01E
import Derived.Test.YtbhbnkblnfaomaaDoorParseNo
namespace Go.Proofs.YtbhbnkblnfaomaaDoor
open Go Go.RowKit Go.Sort

theorem textL_none {a b : Int} (h : rtB a b = false) : textL a b = [] := by unfold textL; rw [h]; rfl
theorem text_none (a b : Int) (w : World) (hL : LaidAt w) (h : rtB a b = false) :
    Calls Tryd.prog 30 #[.agg #[.int .i64 a, .int .i64 b]] w fun e w' => e = .returned (.string ⟨#[]⟩) ∧ Below w.heap.size w w' := by
  have k := text_any a b w hL
  rw [textL_none h] at k; exact k
theorem rtext_none (a b : Int) (w : World) (h : rtB a b = false) :
    Calls Tryd.prog 31 #[.agg #[.int .i64 a, .int .i64 b]] w fun e w' => e = .returned (.string ⟨#[]⟩) ∧ Below w.heap.size w w' := by
  have k := rtext_any a b w
  rw [textL_none h] at k; exact k
theorem parse_none (w : World) (hL : LaidAt w) :
    Calls Tryd.prog 32 #[.string ⟨#[]⟩] w fun e w' => e = .returned (.tuple #[.agg #[.int .i64 0, .int .i64 0], .int .i64 2]) ∧ Below w.heap.size w w' :=
  parse_no ⟨#[]⟩ w hL (by decide) (fun a b h e => textL_ne h e.symm)
theorem textL_apart {a b c d : Int} (h : rtB a b = true) (n : ¬ (c = a ∧ d = b)) : (textL c d == textL a b) = false := by
  rw [beq_eq_false_iff_ne]
  intro e
  cases k : rtB c d with
  | false => rw [textL_none k] at e; exact textL_ne h e.symm
  | true => exact n (textL_inj k h e)

set_option maxHeartbeats 4000000 in
set_option maxRecDepth 100000 in
theorem walk_SpanTexts (a b c d : Int) (w : World) (hL : LaidAt w) (_ha : (Lit.int .i64 a).wf = true) (_hb : (Lit.int .i64 b).wf = true) (_hc : (Lit.int .i64 c).wf = true) (_hd : (Lit.int .i64 d).wf = true) :
    Calls Tryd.prog 8 #[.agg #[.int .i64 a, .int .i64 b], .agg #[.int .i64 c, .int .i64 d]] w fun e w' => e = .returned (.bool true) ∧ Below w.heap.size w w' := by
  cases hr : rtB a b with
  | false =>
    go_enter Tryd.func8, Tryd.ntmps8
    go_wp2_with fail
    with_reducible refine (text_none a b _ (hL.below (by go_grown)) hr).mono ?_
    rintro e w1 ⟨rfl, hb1⟩
    obtain ⟨hc1, hf1⟩ := bcell hb1
    have hz1 : w.heap.size < w1.heap.size ∧ w.heap.size + 1 < w1.heap.size := (by have := hb1.size; (try simp only [World.size_alloc] at this); omega)
    have B1 := bel (w := w) (by go_grown) hb1
    clear hb1
    go_wp2_with fail
    with_reducible refine (awake_any _ (hL.below (by go_grown))).mono ?_
    rintro e w2 ⟨rfl, hb2⟩
    obtain ⟨hc2, hf2⟩ := bcell hb2
    have hz2 : w.heap.size < w2.heap.size ∧ w.heap.size + 1 < w2.heap.size := (by have := hb2.size; (try simp only [World.size_alloc] at this); omega)
    have B2 := bel (w := w) (by go_grown) hb2
    clear hb2
    go_wp2_with fail
    with_reducible refine (rtext_none a b _ hr).mono ?_
    rintro e w3 ⟨rfl, hb3⟩
    obtain ⟨hc3, hf3⟩ := bcell hb3
    have hz3 : w.heap.size < w3.heap.size ∧ w.heap.size + 1 < w3.heap.size := (by have := hb3.size; (try simp only [World.size_alloc] at this); omega)
    have B3 := bel (w := w) (by go_grown) hb3
    clear hb3
    go_wp2_with fail
    with_reducible refine (parse_none _ (hL.below (by go_grown))).mono ?_
    rintro e w4 ⟨rfl, hb4⟩
    obtain ⟨hc4, hf4⟩ := bcell hb4
    have hz4 : w.heap.size < w4.heap.size ∧ w.heap.size + 1 < w4.heap.size ∧ w.heap.size < w4.heap.size + 1 ∧ w.heap.size + 1 < w4.heap.size + 1 := (by have := hb4.size; (try simp only [World.size_alloc] at this); omega)
    have B4 := bel (w := w) (by go_grown) hb4
    clear hb4
    go_wp2_with fail
    with_reducible refine (rright_any a b _).mono ?_
    rintro e w5 ⟨rfl, hb5⟩
    obtain ⟨hc5, hf5⟩ := bcell hb5
    have hz5 : w.heap.size < w5.heap.size ∧ w.heap.size + 1 < w5.heap.size ∧ w4.heap.size < w5.heap.size := (by have := hb5.size; (try simp only [World.size_alloc] at this); omega)
    have B5 := bel (w := w) (by go_grown) hb5
    clear hb5
    go_wp2_with fail
    go_ret
    exact ⟨ret_bool (by simp), by go_grown⟩
  | true =>
    by_cases hsame : c = a ∧ d = b
    · obtain ⟨rfl, rfl⟩ := hsame
      go_enter Tryd.func8, Tryd.ntmps8
      go_wp2_with fail
      with_reducible refine (text_any c d _ (hL.below (by go_grown))).mono ?_
      rintro e w1 ⟨rfl, hb1⟩
      obtain ⟨hc1, hf1⟩ := bcell hb1
      have hz1 : w.heap.size < w1.heap.size ∧ w.heap.size + 1 < w1.heap.size := (by have := hb1.size; (try simp only [World.size_alloc] at this); omega)
      have B1 := bel (w := w) (by go_grown) hb1
      clear hb1
      go_wp2_with fail
      with_reducible refine (awake_any _ (hL.below (by go_grown))).mono ?_
      rintro e w2 ⟨rfl, hb2⟩
      obtain ⟨hc2, hf2⟩ := bcell hb2
      have hz2 : w.heap.size < w2.heap.size ∧ w.heap.size + 1 < w2.heap.size := (by have := hb2.size; (try simp only [World.size_alloc] at this); omega)
      have B2 := bel (w := w) (by go_grown) hb2
      clear hb2
      go_wp2_with fail
      with_reducible refine (rtext_any c d _).mono ?_
      rintro e w3 ⟨rfl, hb3⟩
      obtain ⟨hc3, hf3⟩ := bcell hb3
      have hz3 : w.heap.size < w3.heap.size ∧ w.heap.size + 1 < w3.heap.size := (by have := hb3.size; (try simp only [World.size_alloc] at this); omega)
      have B3 := bel (w := w) (by go_grown) hb3
      clear hb3
      go_wp2_with fail
      with_reducible refine (parse_ok c d _ (hL.below (by go_grown)) hr).mono ?_
      rintro e w4 ⟨rfl, hb4⟩
      obtain ⟨hc4, hf4⟩ := bcell hb4
      have hz4 : w.heap.size < w4.heap.size ∧ w.heap.size + 1 < w4.heap.size ∧ w.heap.size < w4.heap.size + 1 ∧ w.heap.size + 1 < w4.heap.size + 1 := (by have := hb4.size; (try simp only [World.size_alloc] at this); omega)
      have B4 := bel (w := w) (by go_grown) hb4
      clear hb4
      go_wp2_with fail
      with_reducible refine (rright_any c d _).mono ?_
      rintro e w5 ⟨rfl, hb5⟩
      obtain ⟨hc5, hf5⟩ := bcell hb5
      have hz5 : w.heap.size < w5.heap.size ∧ w.heap.size + 1 < w5.heap.size ∧ w4.heap.size < w5.heap.size := (by have := hb5.size; (try simp only [World.size_alloc] at this); omega)
      have B5 := bel (w := w) (by go_grown) hb5
      clear hb5
      have k0 := cell_regrown (show w5.cell? ⟨w.heap.size, 0, none⟩ = some (.int .i64 c) from by simp [go_sem, *])
      have k1 := cell_regrown (show w5.cell? ⟨w.heap.size, 1, none⟩ = some (.int .i64 d) from by simp [go_sem, *])
      have k2 := cell_regrown (show w5.cell? ⟨w.heap.size + 1, 0, none⟩ = some (.int .i64 c) from by simp [go_sem, *])
      have k3 := cell_regrown (show w5.cell? ⟨w.heap.size + 1, 1, none⟩ = some (.int .i64 d) from by simp [go_sem, *])
      have k4 := cell_regrown (show w5.cell? ⟨w4.heap.size, 0, none⟩ = some (.int .i64 c) from by simp [go_sem, *])
      have k5 := cell_regrown (show w5.cell? ⟨w4.heap.size, 1, none⟩ = some (.int .i64 d) from by simp [go_sem, *])
      have q1 := rg (w := w5) (fun W hW => text_any c d W ((hL.below B5).below hW))
      clear hc1 hc2 hc3 hc4 hc5 hf1 hf2 hf3 hf4 hf5
      go_wp2_with fail
      refine wp_region_quiet_below (by kernel_rfl) (by kernel_rfl) ?_
      repeat (quiet_step (with_reducible exact q1 _ _))
      refine wpQuiet_nil ?_
      intro _ hw'
      obtain ⟨⟨dq, osq⟩, hw''⟩ := hw'
      subst hw''
      go_wp2_with fail
      go_ret
      exact ⟨ret_bool (by simp), bel B5 (below_regrown _ dq osq)⟩
    · have hap := textL_apart hr hsame
      by_cases hac : a = c
      · subst hac
        have hbd : ¬ b = d := by intro e; exact hsame ⟨rfl, e.symm⟩
        clear hsame
        go_enter Tryd.func8, Tryd.ntmps8
        go_wp2_with fail
        with_reducible refine (text_any a b _ (hL.below (by go_grown))).mono ?_
        rintro e w1 ⟨rfl, hb1⟩
        obtain ⟨hc1, hf1⟩ := bcell hb1
        have hz1 : w.heap.size < w1.heap.size ∧ w.heap.size + 1 < w1.heap.size := (by have := hb1.size; (try simp only [World.size_alloc] at this); omega)
        have B1 := bel (w := w) (by go_grown) hb1
        clear hb1
        go_wp2_with fail
        with_reducible refine (awake_any _ (hL.below (by go_grown))).mono ?_
        rintro e w2 ⟨rfl, hb2⟩
        obtain ⟨hc2, hf2⟩ := bcell hb2
        have hz2 : w.heap.size < w2.heap.size ∧ w.heap.size + 1 < w2.heap.size := (by have := hb2.size; (try simp only [World.size_alloc] at this); omega)
        have B2 := bel (w := w) (by go_grown) hb2
        clear hb2
        go_wp2_with fail
        with_reducible refine (rtext_any a b _).mono ?_
        rintro e w3 ⟨rfl, hb3⟩
        obtain ⟨hc3, hf3⟩ := bcell hb3
        have hz3 : w.heap.size < w3.heap.size ∧ w.heap.size + 1 < w3.heap.size := (by have := hb3.size; (try simp only [World.size_alloc] at this); omega)
        have B3 := bel (w := w) (by go_grown) hb3
        clear hb3
        go_wp2_with fail
        with_reducible refine (parse_ok a b _ (hL.below (by go_grown)) hr).mono ?_
        rintro e w4 ⟨rfl, hb4⟩
        obtain ⟨hc4, hf4⟩ := bcell hb4
        have hz4 : w.heap.size < w4.heap.size ∧ w.heap.size + 1 < w4.heap.size ∧ w.heap.size < w4.heap.size + 1 ∧ w.heap.size + 1 < w4.heap.size + 1 := (by have := hb4.size; (try simp only [World.size_alloc] at this); omega)
        have B4 := bel (w := w) (by go_grown) hb4
        clear hb4
        go_wp2_with fail
        with_reducible refine (rright_any a b _).mono ?_
        rintro e w5 ⟨rfl, hb5⟩
        obtain ⟨hc5, hf5⟩ := bcell hb5
        have hz5 : w.heap.size < w5.heap.size ∧ w.heap.size + 1 < w5.heap.size ∧ w4.heap.size < w5.heap.size := (by have := hb5.size; (try simp only [World.size_alloc] at this); omega)
        have B5 := bel (w := w) (by go_grown) hb5
        clear hb5
        have k0 := cell_regrown (show w5.cell? ⟨w.heap.size, 0, none⟩ = some (.int .i64 a) from by simp [go_sem, *])
        have k1 := cell_regrown (show w5.cell? ⟨w.heap.size, 1, none⟩ = some (.int .i64 b) from by simp [go_sem, *])
        have k2 := cell_regrown (show w5.cell? ⟨w.heap.size + 1, 0, none⟩ = some (.int .i64 a) from by simp [go_sem, *])
        have k3 := cell_regrown (show w5.cell? ⟨w.heap.size + 1, 1, none⟩ = some (.int .i64 d) from by simp [go_sem, *])
        have k4 := cell_regrown (show w5.cell? ⟨w4.heap.size, 0, none⟩ = some (.int .i64 a) from by simp [go_sem, *])
        have k5 := cell_regrown (show w5.cell? ⟨w4.heap.size, 1, none⟩ = some (.int .i64 b) from by simp [go_sem, *])
        have q1 := rg (w := w5) (fun W hW => text_any a d W ((hL.below B5).below hW))
        clear hc1 hc2 hc3 hc4 hc5 hf1 hf2 hf3 hf4 hf5
        go_wp2_with fail
        refine wp_region_quiet_below (by kernel_rfl) (by kernel_rfl) ?_
        repeat (quiet_step (with_reducible exact q1 _ _))
        refine wpQuiet_nil ?_
        intro _ hw'
        obtain ⟨⟨dq, osq⟩, hw''⟩ := hw'
        subst hw''
        go_wp2_with fail
        go_ret
        exact ⟨ret_bool (by simp), bel B5 (below_regrown _ dq osq)⟩
      · clear hsame
        go_enter Tryd.func8, Tryd.ntmps8
        go_wp2_with fail
        with_reducible refine (text_any a b _ (hL.below (by go_grown))).mono ?_
        rintro e w1 ⟨rfl, hb1⟩
        obtain ⟨hc1, hf1⟩ := bcell hb1
        have hz1 : w.heap.size < w1.heap.size ∧ w.heap.size + 1 < w1.heap.size := (by have := hb1.size; (try simp only [World.size_alloc] at this); omega)
        have B1 := bel (w := w) (by go_grown) hb1
        clear hb1
        go_wp2_with fail
        with_reducible refine (awake_any _ (hL.below (by go_grown))).mono ?_
        rintro e w2 ⟨rfl, hb2⟩
        obtain ⟨hc2, hf2⟩ := bcell hb2
        have hz2 : w.heap.size < w2.heap.size ∧ w.heap.size + 1 < w2.heap.size := (by have := hb2.size; (try simp only [World.size_alloc] at this); omega)
        have B2 := bel (w := w) (by go_grown) hb2
        clear hb2
        go_wp2_with fail
        with_reducible refine (rtext_any a b _).mono ?_
        rintro e w3 ⟨rfl, hb3⟩
        obtain ⟨hc3, hf3⟩ := bcell hb3
        have hz3 : w.heap.size < w3.heap.size ∧ w.heap.size + 1 < w3.heap.size := (by have := hb3.size; (try simp only [World.size_alloc] at this); omega)
        have B3 := bel (w := w) (by go_grown) hb3
        clear hb3
        go_wp2_with fail
        with_reducible refine (parse_ok a b _ (hL.below (by go_grown)) hr).mono ?_
        rintro e w4 ⟨rfl, hb4⟩
        obtain ⟨hc4, hf4⟩ := bcell hb4
        have hz4 : w.heap.size < w4.heap.size ∧ w.heap.size + 1 < w4.heap.size ∧ w.heap.size < w4.heap.size + 1 ∧ w.heap.size + 1 < w4.heap.size + 1 := (by have := hb4.size; (try simp only [World.size_alloc] at this); omega)
        have B4 := bel (w := w) (by go_grown) hb4
        clear hb4
        go_wp2_with fail
        with_reducible refine (rright_any a b _).mono ?_
        rintro e w5 ⟨rfl, hb5⟩
        obtain ⟨hc5, hf5⟩ := bcell hb5
        have hz5 : w.heap.size < w5.heap.size ∧ w.heap.size + 1 < w5.heap.size ∧ w4.heap.size < w5.heap.size := (by have := hb5.size; (try simp only [World.size_alloc] at this); omega)
        have B5 := bel (w := w) (by go_grown) hb5
        clear hb5
        have k0 := cell_regrown (show w5.cell? ⟨w.heap.size, 0, none⟩ = some (.int .i64 a) from by simp [go_sem, *])
        have k1 := cell_regrown (show w5.cell? ⟨w.heap.size, 1, none⟩ = some (.int .i64 b) from by simp [go_sem, *])
        have k2 := cell_regrown (show w5.cell? ⟨w.heap.size + 1, 0, none⟩ = some (.int .i64 c) from by simp [go_sem, *])
        have k3 := cell_regrown (show w5.cell? ⟨w.heap.size + 1, 1, none⟩ = some (.int .i64 d) from by simp [go_sem, *])
        have k4 := cell_regrown (show w5.cell? ⟨w4.heap.size, 0, none⟩ = some (.int .i64 a) from by simp [go_sem, *])
        have k5 := cell_regrown (show w5.cell? ⟨w4.heap.size, 1, none⟩ = some (.int .i64 b) from by simp [go_sem, *])
        have q1 := rg (w := w5) (fun W hW => text_any c d W ((hL.below B5).below hW))
        clear hc1 hc2 hc3 hc4 hc5 hf1 hf2 hf3 hf4 hf5
        go_wp2_with fail
        refine wp_region_quiet_below (by kernel_rfl) (by kernel_rfl) ?_
        repeat (quiet_step (with_reducible exact q1 _ _))
        refine wpQuiet_nil ?_
        intro _ hw'
        obtain ⟨⟨dq, osq⟩, hw''⟩ := hw'
        subst hw''
        go_wp2_with fail
        go_ret
        exact ⟨ret_bool (by simp), bel B5 (below_regrown _ dq osq)⟩
end Go.Proofs.YtbhbnkblnfaomaaDoor
