/-
  The example that every statement of layer 1 asks beside its own: true in every start that the seat's variables fit.
-/
import Derived.Test.YtbhbnkblnfaomaaDoorParse
import Derived.Test.YtbhbnkblnfaomaaDoorSpanB
namespace Go.Proofs.YtbhbnkblnfaomaaDoor
open Go Go.RowKit

theorem text39 : textL 3 9 = [51, 45, 57] := by
  unfold textL
  rw [if_pos (by decide), itoa_dec (by decide), itoa_dec (by decide), if_neg (by decide)]
  rw [show (3 : Int).toNat = 3 from rfl, show (9 : Int).toNat = 9 from rfl, Lib.decDigits_one (by decide), Lib.decDigits_one (by decide)]
  rfl
theorem text3 : textL 3 4611686018427387904 = [51, 45] := by
  unfold textL
  rw [if_pos (by decide), itoa_dec (by decide), if_pos (by decide)]
  rw [show (3 : Int).toNat = 3 from rfl, Lib.decDigits_one (by decide)]
  rfl
theorem aw_align (w : World) : Calls Tryd.prog 28 #[.agg #[.int .i64 3, .int .i64 9], .int .i64 4] w fun e w' => e = .returned (.tuple #[.agg #[.int .i64 0, .int .i64 12], .int .i64 0]) ∧ Below w.heap.size w w' := by
  have h := align_any 3 9 4 w
  rw [show alF 3 9 4 = 0 from by decide, show alT 3 9 4 = 12 from by decide, show alE 3 9 4 = 0 from by decide] at h
  exact h
theorem aw_cut (w : World) : Calls Tryd.prog 26 #[.agg #[.int .i64 3, .int .i64 9], .int .i64 5] w fun e w' => e = .returned (.tuple #[.agg #[.int .i64 3, .int .i64 5], .agg #[.int .i64 5, .int .i64 9]]) ∧ Below w.heap.size w w' := by
  have h := cut_any 3 9 5 w
  rw [show cutA 3 9 = 3 from by decide, show cutM 3 9 5 = 5 from by decide, show cutZ 3 9 = 9 from by decide] at h
  exact h
theorem aw_parse (w : World) (hL : LaidAt w) : Calls Tryd.prog 32 #[.string ⟨#[51, 45]⟩] w fun e w' => e = .returned (.tuple #[.agg #[.int .i64 3, .int .i64 4611686018427387904], .int .i64 0]) ∧ Below w.heap.size w w' := by
  have h := parse_ok 3 4611686018427387904 w hL (by decide)
  rw [text3] at h
  exact h
theorem aw_meet (w : World) : Calls Tryd.prog 19 #[.agg #[.int .i64 3, .int .i64 9], .agg #[.int .i64 8, .int .i64 20]] w fun e w' => e = .returned (.tuple #[.agg #[.int .i64 8, .int .i64 9], .bool true]) ∧ Below w.heap.size w w' := by
  have h := meet_any 3 9 8 20 w
  rw [show meetF 3 9 8 20 = 8 from by decide, show meetT 3 9 8 20 = 9 from by decide, show meetB 3 9 8 20 = true from by decide] at h
  exact h
theorem aw_join (w : World) : Calls Tryd.prog 23 #[.agg #[.int .i64 3, .int .i64 9], .agg #[.int .i64 9, .int .i64 10]] w fun e w' => e = .returned (.tuple #[.agg #[.int .i64 3, .int .i64 10], .bool true]) ∧ Below w.heap.size w w' := by
  have h := join_any 3 9 9 10 w
  rw [show joinF 3 9 9 10 = 3 from by decide, show joinT 3 9 9 10 = 10 from by decide, show touchB 3 9 9 10 = true from by decide] at h
  exact h
theorem aw_right (w : World) : Calls Tryd.prog 13 #[.agg #[.int .i64 3, .int .i64 9]] w fun e w' => e = .returned (.bool true) ∧ Below w.heap.size w w' := by
  have h := right_any 3 9 w
  rw [show rtB 3 9 = true from by decide] at h
  exact h
theorem aw_len (w : World) : Calls Tryd.prog 15 #[.agg #[.int .i64 3, .int .i64 9]] w fun e w' => e = .returned (.int .i64 6) ∧ Below w.heap.size w w' := by
  have h := len_any 3 9 w
  rw [show lenI 3 9 = 6 from by decide] at h
  exact h
theorem aw_leno (w : World) : Calls Tryd.prog 15 #[.agg #[.int .i64 3, .int .i64 4611686018427387904]] w fun e w' => e = .returned (.int .i64 4611686018427387904) ∧ Below w.heap.size w w' := by
  have h := len_any 3 4611686018427387904 w
  rw [show lenI 3 4611686018427387904 = 4611686018427387904 from by decide] at h
  exact h
theorem aw_has3 (w : World) : Calls Tryd.prog 17 #[.agg #[.int .i64 3, .int .i64 9], .int .i64 3] w fun e w' => e = .returned (.bool true) ∧ Below w.heap.size w w' := by
  have h := has_any 3 9 3 w
  rw [show hasB 3 9 3 = true from by decide] at h
  exact h
theorem aw_has9 (w : World) : Calls Tryd.prog 17 #[.agg #[.int .i64 3, .int .i64 9], .int .i64 9] w fun e w' => e = .returned (.bool false) ∧ Below w.heap.size w w' := by
  have h := has_any 3 9 9 w
  rw [show hasB 3 9 9 = false from by decide] at h
  exact h
theorem aw_text (w : World) (hL : LaidAt w) : Calls Tryd.prog 30 #[.agg #[.int .i64 3, .int .i64 9]] w fun e w' => e = .returned (.string ⟨#[51, 45, 57]⟩) ∧ Below w.heap.size w w' := by
  have h := text_any 3 9 w hL
  rw [text39] at h
  exact h
theorem aw_within (w : World) : Calls Tryd.prog 21 #[.agg #[.int .i64 3, .int .i64 9], .agg #[.int .i64 3, .int .i64 4611686018427387904]] w fun e w' => e = .returned (.bool true) ∧ Below w.heap.size w w' := by
  have h := within_any 3 9 3 4611686018427387904 w
  rw [show withinB 3 9 3 4611686018427387904 = true from by decide] at h
  exact h
theorem aw_touch (w : World) : Calls Tryd.prog 25 #[.agg #[.int .i64 3, .int .i64 9], .agg #[.int .i64 3, .int .i64 4611686018427387904]] w fun e w' => e = .returned (.bool true) ∧ Below w.heap.size w w' := by
  have h := touch_any 3 9 3 4611686018427387904 w
  rw [show touchB 3 9 3 4611686018427387904 = true from by decide] at h
  exact h

set_option maxHeartbeats 8000000 in
set_option maxRecDepth 100000 in
theorem awake_any (w : World) (hL : LaidAt w) :
    Calls Tryd.prog 12 #[] w fun e w' => e = .returned (.bool true) ∧ Below w.heap.size w w' := by
  go_enter Tryd.func12, Tryd.ntmps12
  go_wp2_with (first
    | (go_at_call 28; with_reducible refine (aw_align _).mono ?_; rintro e w1 ⟨rfl, hb1⟩; obtain ⟨hc1, hf1⟩ := bcell hb1; have hz1 : w.heap.size < w1.heap.size ∧ w.heap.size + 1 < w1.heap.size ∧ w.heap.size < w1.heap.size + 1 ∧ w.heap.size + 1 < w1.heap.size + 1 := (by have := hb1.size; (try simp only [World.size_alloc] at this); omega); have B1 := bel (w := w) (by go_grown) hb1; clear hb1)
    | (go_at_call 26; with_reducible refine (aw_cut _).mono ?_; rintro e w2 ⟨rfl, hb2⟩; obtain ⟨hc2, hf2⟩ := bcell hb2; have hz2 : w.heap.size < w2.heap.size ∧ w.heap.size + 1 < w2.heap.size ∧ w1.heap.size < w2.heap.size ∧ w.heap.size < w2.heap.size + 1 + 1 ∧ w.heap.size + 1 < w2.heap.size + 1 + 1 ∧ w1.heap.size < w2.heap.size + 1 + 1 ∧ w2.heap.size < w2.heap.size + 1 + 1 := (by have := hb2.size; (try simp only [World.size_alloc] at this); omega); have B2 := bel (w := w) (by go_grown) hb2; clear hb2)
    | (go_at_call 32; with_reducible refine (aw_parse _ (hL.below (by go_grown))).mono ?_; rintro e w3 ⟨rfl, hb3⟩; obtain ⟨hc3, hf3⟩ := bcell hb3; have hz3 : w.heap.size < w3.heap.size ∧ w.heap.size + 1 < w3.heap.size ∧ w1.heap.size < w3.heap.size ∧ w2.heap.size < w3.heap.size ∧ w2.heap.size + 1 < w3.heap.size ∧ w.heap.size < w3.heap.size + 1 ∧ w.heap.size + 1 < w3.heap.size + 1 ∧ w1.heap.size < w3.heap.size + 1 ∧ w2.heap.size < w3.heap.size + 1 ∧ w2.heap.size + 1 < w3.heap.size + 1 := (by have := hb3.size; (try simp only [World.size_alloc] at this); omega); have B3 := bel (w := w) (by go_grown) hb3; clear hb3)
    | (go_at_call 19; with_reducible refine (aw_meet _).mono ?_; rintro e w4 ⟨rfl, hb4⟩; obtain ⟨hc4, hf4⟩ := bcell hb4; have hz4 : w.heap.size < w4.heap.size ∧ w.heap.size + 1 < w4.heap.size ∧ w1.heap.size < w4.heap.size ∧ w2.heap.size < w4.heap.size ∧ w2.heap.size + 1 < w4.heap.size ∧ w3.heap.size < w4.heap.size ∧ w.heap.size < w4.heap.size + 1 ∧ w.heap.size + 1 < w4.heap.size + 1 ∧ w1.heap.size < w4.heap.size + 1 ∧ w2.heap.size < w4.heap.size + 1 ∧ w2.heap.size + 1 < w4.heap.size + 1 ∧ w3.heap.size < w4.heap.size + 1 := (by have := hb4.size; (try simp only [World.size_alloc] at this); omega); have B4 := bel (w := w) (by go_grown) hb4; clear hb4)
    | (go_at_call 23; with_reducible refine (aw_join _).mono ?_; rintro e w5 ⟨rfl, hb5⟩; obtain ⟨hc5, hf5⟩ := bcell hb5; have hz5 : w.heap.size < w5.heap.size ∧ w.heap.size + 1 < w5.heap.size ∧ w1.heap.size < w5.heap.size ∧ w2.heap.size < w5.heap.size ∧ w2.heap.size + 1 < w5.heap.size ∧ w3.heap.size < w5.heap.size ∧ w4.heap.size < w5.heap.size ∧ w.heap.size < w5.heap.size + 1 ∧ w.heap.size + 1 < w5.heap.size + 1 ∧ w1.heap.size < w5.heap.size + 1 ∧ w2.heap.size < w5.heap.size + 1 ∧ w2.heap.size + 1 < w5.heap.size + 1 ∧ w3.heap.size < w5.heap.size + 1 ∧ w4.heap.size < w5.heap.size + 1 := (by have := hb5.size; (try simp only [World.size_alloc] at this); omega); have B5 := bel (w := w) (by go_grown) hb5; clear hb5)
    | (go_at_call 13; with_reducible refine (aw_right _).mono ?_; rintro e w6 ⟨rfl, hb6⟩; obtain ⟨hc6, hf6⟩ := bcell hb6; have hz6 : w.heap.size < w6.heap.size ∧ w.heap.size + 1 < w6.heap.size ∧ w1.heap.size < w6.heap.size ∧ w2.heap.size < w6.heap.size ∧ w2.heap.size + 1 < w6.heap.size ∧ w3.heap.size < w6.heap.size ∧ w4.heap.size < w6.heap.size ∧ w5.heap.size < w6.heap.size := (by have := hb6.size; (try simp only [World.size_alloc] at this); omega); have B6 := bel (w := w) (by go_grown) hb6; clear hb6)
    | (go_at_call 15; with_reducible refine (aw_len _).mono ?_; rintro e w7 ⟨rfl, hb7⟩; obtain ⟨hc7, hf7⟩ := bcell hb7; have hz7 : w.heap.size < w7.heap.size ∧ w.heap.size + 1 < w7.heap.size ∧ w1.heap.size < w7.heap.size ∧ w2.heap.size < w7.heap.size ∧ w2.heap.size + 1 < w7.heap.size ∧ w3.heap.size < w7.heap.size ∧ w4.heap.size < w7.heap.size ∧ w5.heap.size < w7.heap.size := (by have := hb7.size; (try simp only [World.size_alloc] at this); omega); have B7 := bel (w := w) (by go_grown) hb7; clear hb7)
    | (go_at_call 15; with_reducible refine (aw_leno _).mono ?_; rintro e w8 ⟨rfl, hb8⟩; obtain ⟨hc8, hf8⟩ := bcell hb8; have hz8 : w.heap.size < w8.heap.size ∧ w.heap.size + 1 < w8.heap.size ∧ w1.heap.size < w8.heap.size ∧ w2.heap.size < w8.heap.size ∧ w2.heap.size + 1 < w8.heap.size ∧ w3.heap.size < w8.heap.size ∧ w4.heap.size < w8.heap.size ∧ w5.heap.size < w8.heap.size := (by have := hb8.size; (try simp only [World.size_alloc] at this); omega); have B8 := bel (w := w) (by go_grown) hb8; clear hb8)
    | (go_at_call 17; with_reducible refine (aw_has3 _).mono ?_; rintro e w9 ⟨rfl, hb9⟩; obtain ⟨hc9, hf9⟩ := bcell hb9; have hz9 : w.heap.size < w9.heap.size ∧ w.heap.size + 1 < w9.heap.size ∧ w1.heap.size < w9.heap.size ∧ w2.heap.size < w9.heap.size ∧ w2.heap.size + 1 < w9.heap.size ∧ w3.heap.size < w9.heap.size ∧ w4.heap.size < w9.heap.size ∧ w5.heap.size < w9.heap.size := (by have := hb9.size; (try simp only [World.size_alloc] at this); omega); have B9 := bel (w := w) (by go_grown) hb9; clear hb9)
    | (go_at_call 17; with_reducible refine (aw_has9 _).mono ?_; rintro e w10 ⟨rfl, hb10⟩; obtain ⟨hc10, hf10⟩ := bcell hb10; have hz10 : w.heap.size < w10.heap.size ∧ w.heap.size + 1 < w10.heap.size ∧ w1.heap.size < w10.heap.size ∧ w2.heap.size < w10.heap.size ∧ w2.heap.size + 1 < w10.heap.size ∧ w3.heap.size < w10.heap.size ∧ w4.heap.size < w10.heap.size ∧ w5.heap.size < w10.heap.size := (by have := hb10.size; (try simp only [World.size_alloc] at this); omega); have B10 := bel (w := w) (by go_grown) hb10; clear hb10)
    | (go_at_call 30; with_reducible refine (aw_text _ (hL.below (by go_grown))).mono ?_; rintro e w11 ⟨rfl, hb11⟩; obtain ⟨hc11, hf11⟩ := bcell hb11; have hz11 : w.heap.size < w11.heap.size ∧ w.heap.size + 1 < w11.heap.size ∧ w1.heap.size < w11.heap.size ∧ w2.heap.size < w11.heap.size ∧ w2.heap.size + 1 < w11.heap.size ∧ w3.heap.size < w11.heap.size ∧ w4.heap.size < w11.heap.size ∧ w5.heap.size < w11.heap.size := (by have := hb11.size; (try simp only [World.size_alloc] at this); omega); have B11 := bel (w := w) (by go_grown) hb11; clear hb11)
    | (go_at_call 21; with_reducible refine (aw_within _).mono ?_; rintro e w12 ⟨rfl, hb12⟩; obtain ⟨hc12, hf12⟩ := bcell hb12; have hz12 : w.heap.size < w12.heap.size ∧ w.heap.size + 1 < w12.heap.size ∧ w1.heap.size < w12.heap.size ∧ w2.heap.size < w12.heap.size ∧ w2.heap.size + 1 < w12.heap.size ∧ w3.heap.size < w12.heap.size ∧ w4.heap.size < w12.heap.size ∧ w5.heap.size < w12.heap.size := (by have := hb12.size; (try simp only [World.size_alloc] at this); omega); have B12 := bel (w := w) (by go_grown) hb12; clear hb12)
    | (go_at_call 25; with_reducible refine (aw_touch _).mono ?_; rintro e w13 ⟨rfl, hb13⟩; obtain ⟨hc13, hf13⟩ := bcell hb13; have hz13 : w.heap.size < w13.heap.size ∧ w.heap.size + 1 < w13.heap.size ∧ w1.heap.size < w13.heap.size ∧ w2.heap.size < w13.heap.size ∧ w2.heap.size + 1 < w13.heap.size ∧ w3.heap.size < w13.heap.size ∧ w4.heap.size < w13.heap.size ∧ w5.heap.size < w13.heap.size := (by have := hb13.size; (try simp only [World.size_alloc] at this); omega); have B13 := bel (w := w) (by go_grown) hb13; clear hb13))

  go_ret
  exact ⟨rfl, by go_grown⟩
end Go.Proofs.YtbhbnkblnfaomaaDoor
