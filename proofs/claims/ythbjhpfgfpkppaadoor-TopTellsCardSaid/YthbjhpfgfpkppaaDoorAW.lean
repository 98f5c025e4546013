/-
  The example that TopTells asks beside its own: its text.
-/
import Derived.Lib.ItoaLen
import Derived.Test.YthbjhpfgfpkppaaDoorRX
import Derived.Test.YthbjhpfgfpkppaaDoorRB
namespace Go.Proofs.YthbjhpfgfpkppaaDoor.Rg
open Go Go.RowKit

theorem fmt2 (w : World) : Calls Tryd.prog 51 #[.int .i64 2, .int .i64 10] w fun e w' => e = .returned (.string ⟨#[50]⟩) ∧ w = w' := by
  have h := Tryd.strconv_FormatInt_10_small 2 (by omega) w
  rw [Lib.decDigits_one (by decide)] at h
  exact h.mono fun _ _ ⟨he, hw⟩ => ⟨he, hw.symm⟩
theorem fmt5 (w : World) : Calls Tryd.prog 51 #[.int .i64 5, .int .i64 10] w fun e w' => e = .returned (.string ⟨#[53]⟩) ∧ w = w' := by
  have h := Tryd.strconv_FormatInt_10_small 5 (by omega) w
  rw [Lib.decDigits_one (by decide)] at h
  exact h.mono fun _ _ ⟨he, hw⟩ => ⟨he, hw.symm⟩
theorem right25 (w : World) : Calls Tryd.prog 36 #[.agg #[.int .i64 2, .int .i64 5]] w fun e w' => e = .returned (.bool true) ∧ Below w.heap.size w w' := by
  have h := right_any 2 5 w
  rwa [show rtB 2 5 = true from by decide] at h
theorem open25 (w : World) : Calls Tryd.prog 37 #[.agg #[.int .i64 2, .int .i64 5]] w fun e w' => e = .returned (.bool false) ∧ Below w.heap.size w w' := by
  have h := isOpen_any 2 5 w
  rwa [show opB 2 5 = false from by decide] at h

set_option maxHeartbeats 2000000 in
theorem text25 (w : World) : Calls Tryd.prog 34 #[.agg #[.int .i64 2, .int .i64 5]] w fun e w' => e = .returned (.string ⟨#[50, 45, 53]⟩) ∧ Below w.heap.size w w' := by
  go_enter Tryd.func34, Tryd.ntmps34
  go_wp2_with (first
    | (go_at_call 36; with_reducible refine (right25 _).mono ?_; rintro e w1 ⟨rfl, hb1⟩; obtain ⟨hc1, hf1⟩ := bcell hb1; have hz1 := lt1 hb1; have B1 := bel (w := w) (by go_grown) hb1)
    | (go_at_call 51; with_reducible refine (fmt2 _).mono ?_; rintro e w2 ⟨rfl, rfl⟩)
    | (go_at_call 37; with_reducible refine (open25 _).mono ?_; rintro e w3 ⟨rfl, hb3⟩; obtain ⟨hc3, hf3⟩ := bcell hb3; have hz3 := Nat.lt_of_lt_of_le hz1 hb3.size; have B3 := bel (w := w) B1 hb3)
    | (go_at_call 51; with_reducible refine (fmt5 _).mono ?_; rintro e w4 ⟨rfl, rfl⟩))
  go_ret
  exact ⟨rfl, by go_grown⟩

set_option maxHeartbeats 4000000 in
set_option maxRecDepth 100000 in
theorem Text_w (A : Option Addr) (c : Nat) (w : World) (hs : SpAt w w.heap.size A [(2, 5)]) :
    Calls Tryd.prog 16 #[.agg #[.slice A 1 c]] w fun e w' => e = .returned (.string ⟨#[50, 45, 53]⟩) ∧ Below w.heap.size w w' := by
  obtain ⟨b, o, rfl, hb, hc⟩ := hs (by simp)
  obtain ⟨c0, c1⟩ := hc 0 (by simp)
  simp only [List.getElem_cons_zero, Nat.zero_mul, Nat.add_zero] at c0 c1
  clear hc hs
  have hmk : ∀ w, (Instr.makeSlice 71 (.int .i64 1) (.int .i64 1)).run Tryd.prog w = .ok (.slice (some ⟨w.heap.size, 0, none⟩) 1 1) (w.alloc (.cells #[.string ⟨#[]⟩] 9)) := fun _ => by kernel_rfl
  go_enter Tryd.func16, Tryd.ntmps16
  go_wp2
  refine wp_loop_rounds 2 ?_
  rw [rounds_succ]
  go_wp2_with fail
  with_reducible refine (text25 _).mono ?_
  rintro e w1 ⟨rfl, hb1⟩
  obtain ⟨hc1, hf1⟩ := bcell hb1
  have hz1 : w.heap.size < w1.heap.size ∧ w.heap.size + 1 < w1.heap.size ∧ b < w1.heap.size := (by have := hb1.size; simp only [World.size_alloc] at this; omega)
  have B1 := bel (w := w) (by go_grown) hb1
  have x1 : w1.cell? ⟨w.heap.size + 1, 0, none⟩ = some (.string ⟨#[]⟩) := by rw [hc1 _ _ (by simp)]; simp [go_sem]
  have f1 : w1.frozen? ⟨w.heap.size + 1, 0, none⟩ = false := by rw [hf1 _ _ (by simp)]; simp [go_sem]
  have hzs : w.heap.size + 1 < w1.heap.size := hz1.2.1
  clear hb1 hc1 hf1
  have HJ := Lib.hid (Tryd.strings_Join (w.heap.size + 1) 0 1 [⟨#[50, 45, 53]⟩] ⟨#[44]⟩ (w1.setCell ⟨w.heap.size + 1, 0, none⟩ (.string ⟨#[50, 45, 53]⟩)) (fun j x hj => by
    match j, hj with
    | 0, hj => simp at hj; subst hj; exact World.cell?_setCell_same _ _ _ (by rw [x1])
    | j + 1, hj => simp at hj) (by simpa using hzs) (by simp) (by simp) (by decide))
  go_wp2_with fail
  rw [rounds_succ]
  go_wp2_with (go_at_call 35; refine (Hid.out HJ).mono ?_; rintro e w3 ⟨rfl, hb3⟩; have B3 : Below w.heap.size w w3 := Below.trans (B1.setCell (p := ⟨w.heap.size + 1, 0, none⟩) (Nat.le_succ _) _) (hb3.mono (by simp; omega)))
  go_ret
  exact ⟨rfl, B3⟩

theorem alive_norm : normL [(2, 4), (4, 5)] = [(2, 5)] := by
  refine (Norm.is ⟨⟨?_, ?_⟩, fun p => ?_⟩).symm
  · intro x hx; simp at hx; subst hx; unfold Solid; simp
  · simp [Gapped]
  · simp only [InL_cons, InL_nil, or_false]; unfold InS; simp only; omega

set_option maxHeartbeats 8000000 in
set_option maxRecDepth 100000 in
theorem alive_any (w : World) : Calls Tryd.prog 4 #[] w fun e w' => e = .returned (.bool true) ∧ Below w.heap.size w w' := by
  have e1 : Ext w (w.alloc (.cells #[.int .i64 2, .int .i64 4, .int .i64 4, .int .i64 5] 31)) := (Below.refl _ _).alloc (Nat.le_refl _) _
  have hA : SpAt (w.alloc (.cells #[.int .i64 2, .int .i64 4, .int .i64 4, .int .i64 5] 31)) (w.alloc (.cells #[.int .i64 2, .int .i64 4, .int .i64 4, .int .i64 5] 31)).heap.size (some ⟨w.heap.size, 0, none⟩) [(2, 4), (4, 5)] := fun _ => ⟨w.heap.size, 0, rfl, by simp, fun j hj => by
    match j, hj with
    | 0, _ => simp
    | 1, _ => simp
    | j + 2, hj => exact absurd hj (by simp)⟩
  have HO := Lib.hid (Of_set (some ⟨w.heap.size, 0, none⟩) 2 2 _ _ rfl (by decide) hA)
  clear hA
  rw [alive_norm] at HO
  go_enter Tryd.func4, Tryd.ntmps4
  go_wp2_with (first
    | (go_at_call 6; refine (Hid.out HO).mono ?_; rintro e w1 ⟨v, rfl, hset, hb1⟩; obtain ⟨A1, n1, c1, rfl, HN, hcc, HS, HC⟩ := hset.split; have hn1 : n1 = 1 := (by have := HN.out; simpa using this.symm); subst hn1; have B1 := bel (w := w) e1 hb1; have HT := Lib.hid (Text_w A1 c1 w1 HS.out); clear hset hb1)
    | (go_at_call 16; refine (Hid.out HT).mono ?_; rintro e w2 ⟨rfl, hb2⟩))
  go_ret
  exact ⟨rfl, Ext.tr B1 hb2⟩
end Go.Proofs.YthbjhpfgfpkppaaDoor.Rg
