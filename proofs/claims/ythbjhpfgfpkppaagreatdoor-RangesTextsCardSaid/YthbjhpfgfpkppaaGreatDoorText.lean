/-
  span.Text by a contract, over the library's decimal numerals.
-/
import Derived.Test.YthbjhpfgfpkppaaGreatDoorLaid
import Derived.Test.YthbjhpfgfpkppaaGreatDoorSpanC
import Derived.Lib.ItoaLen
import Derived.Lib.AppendIntMem
import Derived.Lib.Hide
namespace Go.Proofs.YthbjhpfgfpkppaaGreatDoor
open Go Go.RowKit

/-- a span's text -/
def textL (a b : Int) : List UInt8 := if rtB a b then Lib.itoa a ++ 45 :: (if opB a b then [] else Lib.itoa b) else []
theorem itoa_len {a : Int} (h0 : 0 ≤ a) (h1 : a ≤ 4611686018427387904) : (Lib.itoa a).length ≤ 21 := Lib.itoa_length_le a (by omega) (by omega)

theorem ba_append (l m : List UInt8) : (⟨l.toArray⟩ ++ ⟨m.toArray⟩ : ByteArray) = ⟨(l ++ m).toArray⟩ := by
  apply ByteArray.ext; simp [ByteArray.data_append]

/-- FormatInt at base 10, its world told by 'Below' -/
theorem fmt_any (n : Int) (w : World) (hL : LaidAt w) (h0 : -9223372036854775808 ≤ n) (h1 : n ≤ 9223372036854775807) :
    Calls Tryz.prog 40 #[.int .i64 n, .int .i64 10] w fun e w' => e = .returned (.string ⟨(Lib.itoa n).toArray⟩) ∧ Below w.heap.size w w' := by
  refine (Tryz.strconv_FormatInt_10 n h0 h1 w hL.tab).mono fun e w' ⟨he, k, os, hw⟩ => ⟨he, ?_⟩
  subst hw
  exact Lib.below_grow _ _ (Nat.le_refl _) _ _

set_option maxHeartbeats 800000 in
theorem text_any (a b : Int) (w : World) (hL : LaidAt w) :
    Calls Tryz.prog 23 #[.agg #[.int .i64 a, .int .i64 b]] w fun e w' => e = .returned (.string ⟨(textL a b).toArray⟩) ∧ Below w.heap.size w w' := by
  cases hr : rtB a b with
  | false =>
    have HF : Hid (Ending.returned (.string ⟨#[]⟩) = .returned (.string ⟨(textL a b).toArray⟩)) := by unfold Hid; simp [textL, hr]
    go_enter Tryz.func23, Tryz.ntmps23
    go_wp2_with (go_at_call 32; with_reducible refine (right_any a b _).mono ?_; rintro e w1 ⟨rfl, hb1⟩; obtain ⟨hc1, hf1⟩ := bcell hb1; have hz1 := lt1 hb1; have B1 := bel (w := w) (by go_grown) hb1)
    go_ret
    exact ⟨HF.out, by go_grown⟩
  | true =>
    have h0 := rtB_t hr
    have la := itoa_len (a := a) (by omega) (by omega)
    have lb := itoa_len (a := b) (by omega) (by omega)
    cases ho : opB a b with
    | true =>
      have HF : Hid (Ending.returned (.string (⟨(Lib.itoa a).toArray⟩ ++ ⟨#[45]⟩ : ByteArray)) = .returned (.string ⟨(textL a b).toArray⟩)) := by
        unfold Hid; rw [show (⟨#[45]⟩ : ByteArray) = ⟨[45].toArray⟩ from rfl, ba_append]; simp [textL, hr, ho]
      go_enter Tryz.func23, Tryz.ntmps23
      go_wp2_with (first
        | (go_at_call 32; with_reducible refine (right_any a b _).mono ?_; rintro e w1 ⟨rfl, hb1⟩; obtain ⟨hc1, hf1⟩ := bcell hb1; have hz1 := lt1 hb1; have B1 := bel (w := w) (by go_grown) hb1)
        | (go_at_call 40; with_reducible refine (fmt_any a _ (hL.below B1) (by omega) (by omega)).mono ?_; rintro e w2 ⟨rfl, hb2⟩; obtain ⟨hc2, hf2⟩ := bcell hb2; have hz2 := Nat.lt_of_lt_of_le hz1 hb2.size; have B2 := bel (w := w) B1 hb2)
        | (go_at_call 33; with_reducible refine (isOpen_any a b _).mono ?_; rintro e w3 ⟨rfl, hb3⟩; obtain ⟨hc3, hf3⟩ := bcell hb3; have hz3 := Nat.lt_of_lt_of_le hz2 hb3.size; have B3 := bel (w := w) B2 hb3))
      go_ret
      exact ⟨HF.out, by go_grown⟩
    | false =>
      have HF : Hid (Ending.returned (.string (⟨(Lib.itoa a).toArray⟩ ++ ⟨#[45]⟩ ++ ⟨(Lib.itoa b).toArray⟩ : ByteArray)) = .returned (.string ⟨(textL a b).toArray⟩)) := by
        unfold Hid; rw [show (⟨#[45]⟩ : ByteArray) = ⟨[45].toArray⟩ from rfl, ba_append, ba_append]; simp [textL, hr, ho]
      go_enter Tryz.func23, Tryz.ntmps23
      go_wp2_with (first
        | (go_at_call 32; with_reducible refine (right_any a b _).mono ?_; rintro e w1 ⟨rfl, hb1⟩; obtain ⟨hc1, hf1⟩ := bcell hb1; have hz1 := lt1 hb1; have B1 := bel (w := w) (by go_grown) hb1)
        | (go_at_call 40; with_reducible refine (fmt_any a _ (hL.below B1) (by omega) (by omega)).mono ?_; rintro e w2 ⟨rfl, hb2⟩; obtain ⟨hc2, hf2⟩ := bcell hb2; have hz2 := Nat.lt_of_lt_of_le hz1 hb2.size; have B2 := bel (w := w) B1 hb2)
        | (go_at_call 33; with_reducible refine (isOpen_any a b _).mono ?_; rintro e w3 ⟨rfl, hb3⟩; obtain ⟨hc3, hf3⟩ := bcell hb3; have hz3 := Nat.lt_of_lt_of_le hz2 hb3.size; have B3 := bel (w := w) B2 hb3)
        | (go_at_call 40; with_reducible refine (fmt_any b _ (hL.below B3) (by omega) (by omega)).mono ?_; rintro e w4 ⟨rfl, hb4⟩; have B4 := bel (w := w) B3 hb4))
      go_ret
      exact ⟨HF.out, by go_grown⟩
end Go.Proofs.YthbjhpfgfpkppaaGreatDoor
