/-
  The example that every statement of layer 2 asks beside its own: its text.
-/
import Derived.Lib.ItoaLen
import Derived.Test.YthbjhpfgfpkppaaGreatDoorRI
import Derived.Test.YthbjhpfgfpkppaaGreatDoorRB
namespace Go.Proofs.YthbjhpfgfpkppaaGreatDoor
open Go Go.RowKit

theorem fmt0 (w : World) : Calls Tryz.prog 40 #[.int .i64 0, .int .i64 10] w fun e w' => e = .returned (.string ⟨#[48]⟩) ∧ w = w' := by
  have h := Tryz.strconv_FormatInt_10_small 0 (by omega) w
  rw [Lib.decDigits_one (by decide)] at h
  exact h.mono fun _ _ ⟨he, hw⟩ => ⟨he, hw.symm⟩
theorem fmt6 (w : World) : Calls Tryz.prog 40 #[.int .i64 6, .int .i64 10] w fun e w' => e = .returned (.string ⟨#[54]⟩) ∧ w = w' := by
  have h := Tryz.strconv_FormatInt_10_small 6 (by omega) w
  rw [Lib.decDigits_one (by decide)] at h
  exact h.mono fun _ _ ⟨he, hw⟩ => ⟨he, hw.symm⟩
theorem fmt9 (w : World) : Calls Tryz.prog 40 #[.int .i64 9, .int .i64 10] w fun e w' => e = .returned (.string ⟨#[57]⟩) ∧ w = w' := by
  have h := Tryz.strconv_FormatInt_10_small 9 (by omega) w
  rw [Lib.decDigits_one (by decide)] at h
  exact h.mono fun _ _ ⟨he, hw⟩ => ⟨he, hw.symm⟩
theorem right06 (w : World) : Calls Tryz.prog 32 #[.agg #[.int .i64 0, .int .i64 6]] w fun e w' => e = .returned (.bool true) ∧ Below w.heap.size w w' := by
  have h := right_any 0 6 w
  rwa [show rtB 0 6 = true from by decide] at h
theorem right9 (w : World) : Calls Tryz.prog 32 #[.agg #[.int .i64 9, .int .i64 4611686018427387904]] w fun e w' => e = .returned (.bool true) ∧ Below w.heap.size w w' := by
  have h := right_any 9 4611686018427387904 w
  rwa [show rtB 9 4611686018427387904 = true from by decide] at h
theorem open06 (w : World) : Calls Tryz.prog 33 #[.agg #[.int .i64 0, .int .i64 6]] w fun e w' => e = .returned (.bool false) ∧ Below w.heap.size w w' := by
  have h := isOpen_any 0 6 w
  rwa [show opB 0 6 = false from by decide] at h
theorem open9 (w : World) : Calls Tryz.prog 33 #[.agg #[.int .i64 9, .int .i64 4611686018427387904]] w fun e w' => e = .returned (.bool true) ∧ Below w.heap.size w w' := by
  have h := isOpen_any 9 4611686018427387904 w
  rwa [show opB 9 4611686018427387904 = true from by decide] at h

set_option maxHeartbeats 2000000 in
theorem text06 (w : World) : Calls Tryz.prog 23 #[.agg #[.int .i64 0, .int .i64 6]] w fun e w' => e = .returned (.string ⟨#[48, 45, 54]⟩) ∧ Below w.heap.size w w' := by
  go_enter Tryz.func23, Tryz.ntmps23
  go_wp2_with (first
    | (go_at_call 32; with_reducible refine (right06 _).mono ?_; rintro e w1 ⟨rfl, hb1⟩; obtain ⟨hc1, hf1⟩ := bcell hb1; have hz1 := lt1 hb1; have B1 := bel (w := w) (by go_grown) hb1)
    | (go_at_call 40; with_reducible refine (fmt0 _).mono ?_; rintro e w2 ⟨rfl, rfl⟩)
    | (go_at_call 33; with_reducible refine (open06 _).mono ?_; rintro e w3 ⟨rfl, hb3⟩; obtain ⟨hc3, hf3⟩ := bcell hb3; have hz3 := Nat.lt_of_lt_of_le hz1 hb3.size; have B3 := bel (w := w) B1 hb3)
    | (go_at_call 40; with_reducible refine (fmt6 _).mono ?_; rintro e w4 ⟨rfl, rfl⟩))
  go_ret
  exact ⟨rfl, by go_grown⟩
set_option maxHeartbeats 2000000 in
theorem text9 (w : World) : Calls Tryz.prog 23 #[.agg #[.int .i64 9, .int .i64 4611686018427387904]] w fun e w' => e = .returned (.string ⟨#[57, 45]⟩) ∧ Below w.heap.size w w' := by
  go_enter Tryz.func23, Tryz.ntmps23
  go_wp2_with (first
    | (go_at_call 32; with_reducible refine (right9 _).mono ?_; rintro e w1 ⟨rfl, hb1⟩; obtain ⟨hc1, hf1⟩ := bcell hb1; have hz1 := lt1 hb1; have B1 := bel (w := w) (by go_grown) hb1)
    | (go_at_call 40; with_reducible refine (fmt9 _).mono ?_; rintro e w2 ⟨rfl, rfl⟩)
    | (go_at_call 33; with_reducible refine (open9 _).mono ?_; rintro e w3 ⟨rfl, hb3⟩; obtain ⟨hc3, hf3⟩ := bcell hb3; have hz3 := Nat.lt_of_lt_of_le hz1 hb3.size; have B3 := bel (w := w) B1 hb3))
  go_ret
  exact ⟨rfl, by go_grown⟩

set_option maxHeartbeats 4000000 in
set_option maxRecDepth 100000 in
theorem Text_w (A : Option Addr) (c : Nat) (w : World) (hs : SpAt w w.heap.size A [(0, 6), (9, 4611686018427387904)]) :
    Calls Tryz.prog 8 #[.agg #[.slice A 2 c]] w fun e w' => e = .returned (.string ⟨#[48, 45, 54, 44, 57, 45]⟩) ∧ Below w.heap.size w w' := by
  obtain ⟨b, o, rfl, hb, hc⟩ := hs (by simp)
  obtain ⟨c0, c1⟩ := hc 0 (by simp)
  obtain ⟨d0, d1⟩ := hc 1 (by simp)
  simp only [List.getElem_cons_zero, List.getElem_cons_succ, Nat.zero_mul, Nat.one_mul, Nat.add_zero] at c0 c1 d0 d1
  clear hc hs
  have hmk : ∀ w, (Instr.makeSlice 50 (.int .i64 2) (.int .i64 2)).run Tryz.prog w = .ok (.slice (some ⟨w.heap.size, 0, none⟩) 2 2) (w.alloc (.cells #[.string ⟨#[]⟩, .string ⟨#[]⟩] 9)) := fun _ => by kernel_rfl
  go_enter Tryz.func8, Tryz.ntmps8
  go_wp2
  refine wp_loop_rounds 3 ?_
  rw [rounds_succ]
  go_wp2_with fail
  with_reducible refine (text06 _).mono ?_
  rintro e w1 ⟨rfl, hb1⟩
  obtain ⟨hc1, hf1⟩ := bcell hb1
  have hz1 : w.heap.size < w1.heap.size ∧ w.heap.size + 1 < w1.heap.size ∧ b < w1.heap.size := (by have := hb1.size; simp only [World.size_alloc] at this; omega)
  have B1 := bel (w := w) (by go_grown) hb1
  have x1 : w1.cell? ⟨w.heap.size + 1, 0, none⟩ = some (.string ⟨#[]⟩) := by rw [hc1 _ _ (by simp)]; simp [go_sem]
  have y1 : w1.cell? ⟨w.heap.size + 1, 1, none⟩ = some (.string ⟨#[]⟩) := by rw [hc1 _ _ (by simp)]; simp [go_sem]
  have f1 : w1.frozen? ⟨w.heap.size + 1, 0, none⟩ = false := by rw [hf1 _ _ (by simp)]; simp [go_sem]
  have g1 : w1.frozen? ⟨w.heap.size + 1, 1, none⟩ = false := by rw [hf1 _ _ (by simp)]; simp [go_sem]
  have s1 : w1.cell? ⟨b, o + 2, none⟩ = some (.int .i64 9) := by rw [B1.cell (p := ⟨b, o + 2, none⟩) hb]; exact d0
  have s2 : w1.cell? ⟨b, o + 2 + 1, none⟩ = some (.int .i64 4611686018427387904) := by rw [B1.cell (p := ⟨b, o + 2 + 1, none⟩) hb]; exact d1
  have hzs : w.heap.size + 1 < w1.heap.size := hz1.2.1
  clear hb1 hc1 hf1
  go_wp2_with fail
  rw [rounds_succ]
  go_wp2_with fail
  with_reducible refine (text9 _).mono ?_
  rintro e w2 ⟨rfl, hb2⟩
  obtain ⟨hc2, hf2⟩ := bcell hb2
  have B2 : Below w.heap.size w w2 := Below.trans ((B1.setCell (p := ⟨w.heap.size + 1, 0, none⟩) (Nat.le_succ _) _).alloc (by simp; omega) _) (hb2.mono (by simp; omega))
  have x2 : w2.cell? ⟨w.heap.size + 1, 0, none⟩ = some (.string ⟨#[48, 45, 54]⟩) := by rw [hc2 _ _ (by simp; omega)]; simp [go_sem, x1, hzs]
  have y2 : w2.cell? ⟨w.heap.size + 1, 1, none⟩ = some (.string ⟨#[]⟩) := by rw [hc2 _ _ (by simp; omega)]; simp [go_sem, y1, hzs]
  have g2 : w2.frozen? ⟨w.heap.size + 1, 1, none⟩ = false := by rw [hf2 _ _ (by simp; omega)]; simp [go_sem, g1, hzs]
  have hz2 : w.heap.size + 1 < w2.heap.size := by have := hb2.size; simp at this; omega
  have HJ := Lib.hid (Tryz.strings_Join (w.heap.size + 1) 0 2 [⟨#[48, 45, 54]⟩, ⟨#[57, 45]⟩] ⟨#[44]⟩ (w2.setCell ⟨w.heap.size + 1, 1, none⟩ (.string ⟨#[57, 45]⟩)) (fun j x hj => by
    match j, hj with
    | 0, hj => simp at hj; subst hj; simp [go_sem, x2]
    | 1, hj => simp at hj; subst hj; exact World.cell?_setCell_same _ _ _ (by rw [y2])
    | j + 2, hj => simp at hj) (by simpa using hz2) (by simp) (by simp) (by decide))
  clear hb2 hc2 hf2 x1 y1 f1 g1 s1 s2
  go_wp2_with fail
  rw [rounds_succ]
  go_wp2_with (go_at_call 24; refine (Hid.out HJ).mono ?_; rintro e w3 ⟨rfl, hb3⟩; have B3 : Below w.heap.size w w3 := Below.trans (B2.setCell (p := ⟨w.heap.size + 1, 1, none⟩) (Nat.le_succ _) _) (hb3.mono (by simp; omega)))
  go_ret
  exact ⟨rfl, B3⟩
end Go.Proofs.YthbjhpfgfpkppaaGreatDoor
