/-
  span.Parse by a contract: the span whose text it is, or none.
-/
import Derived.Test.YthbjhpfgfpkppaaGreatDoorSpanMath
import Derived.Lib.AtoiErrMem
namespace Go.Proofs.YthbjhpfgfpkppaaGreatDoor
open Go Go.RowKit

theorem lt_go {w w1 w2 : World} {o : Obj} (h : w.heap.size < w1.heap.size) (hb : Below (w1.alloc o).heap.size (w1.alloc o) w2) : w.heap.size < w2.heap.size ∧ w1.heap.size < w2.heap.size ∧ w.heap.size < w1.heap.size + 1 := by
  have := hb.size; simp only [World.size_alloc] at this; omega
theorem list_toArray (s : ByteArray) : (⟨s.data.toList.toArray⟩ : ByteArray) = s := by cases s; simp

theorem scut_any (s sep : ByteArray) (w : World) (hL : LaidAt w) (hs : s.size < 4294967281) :
    Calls Tryz.prog 38 #[.string s, .string sep] w fun e w' => e = .returned (.tuple #[.string ⟨(Lib.cut s.data.toList sep.data.toList).1.toArray⟩, .string ⟨(Lib.cut s.data.toList sep.data.toList).2.1.toArray⟩, .bool (Lib.cut s.data.toList sep.data.toList).2.2]) ∧ Below w.heap.size w w' := by
  obtain ⟨m, hm⟩ := hL.mx
  refine (Tryz.strings_Cut s sep m w hs hm).mono fun e w' ⟨he, n, hw⟩ => ⟨he, ?_⟩
  subst hw
  exact below_drewN (Below.refl _ _) _

theorem pint_ok (s : ByteArray) (v : Int) (w : World) (hs : s.size < 4294967281) (h : Lib.parseIntB 64 s.data.toList = .ok v) :
    Calls Tryz.prog 39 #[.string s, .int .i64 10, .int .i64 64] w fun e w' => e = .returned (.tuple #[.int .i64 v, .nilIface]) ∧ Below w.heap.size w w' := by
  refine (Tryz.strconv_ParseInt_10_at64_ok s (by omega) v h w).mono fun e w' ⟨he, hw⟩ => ⟨he, ?_⟩
  rcases hw with hw | ⟨t, hw⟩
  · subst hw; exact Below.refl _ _
  · subst hw; exact Lib.bytesWorld_below _ _ _

theorem pint_itoa (a : Int) (w : World) (h0 : 0 ≤ a) (h1 : a ≤ 4611686018427387904) :
    Calls Tryz.prog 39 #[.string ⟨(Lib.itoa a).toArray⟩, .int .i64 10, .int .i64 64] w fun e w' => e = .returned (.tuple #[.int .i64 a, .nilIface]) ∧ Below w.heap.size w w' := by
  have la := itoa_len h0 h1
  exact pint_ok ⟨(Lib.itoa a).toArray⟩ a w (by show (Lib.itoa a).toArray.size < _; simp; omega) (parse_itoa h0 h1)

/-- an error that is not nil, and some number -/
def BadNum (w w' : World) (e : Ending) : Prop := ∃ (n : Int) (t : TypeId) (p : Value), e = .returned (.tuple #[.int .i64 n, .iface t p]) ∧ Below w.heap.size w w'
theorem pint_bad (s : ByteArray) (w : World) (hL : LaidAt w) (hs : s.size < 4294967281) (h : ∀ v, Lib.parseIntB 64 s.data.toList ≠ .ok v) :
    Calls Tryz.prog 39 #[.string s, .int .i64 10, .int .i64 64] w fun e w' => BadNum w w' e := by
  obtain ⟨tp, p, h1⟩ := hL.es
  obtain ⟨tq, q, h2⟩ := hL.er
  rcases hp : Lib.parseIntB 64 s.data.toList with v | _ | _
  · exact absurd hp (h v)
  · exact (Any.strconv_ParseInt_10_at64_syntax_var Tryz.laysC174 s (by omega) hp tp p w h1).mono fun e w' ⟨N, he, _, _, hb⟩ => ⟨_, _, _, he, hb⟩
  · exact (Tryz.strconv_ParseInt_10_at64_range_var s (by omega) hp tq q w h2).mono fun e w' ⟨N, he, _, _, hb⟩ => ⟨_, _, _, he, hb⟩

theorem cut_textc (a b : Int) (w : World) (hL : LaidAt w) (hr : rtB a b = true) :
    Calls Tryz.prog 38 #[.string ⟨(textL a b).toArray⟩, .string ⟨#[45]⟩] w fun e w' => e = .returned (.tuple #[.string ⟨(Lib.itoa a).toArray⟩, .string ⟨(tailL a b).toArray⟩, .bool true]) ∧ Below w.heap.size w w' := by
  have hl := textL_len (a := a) (b := b)
  refine (scut_any _ _ w hL (by show (textL a b).toArray.size < _; simp; omega)).mono fun e w' ⟨he, hb⟩ => ⟨?_, hb⟩
  rw [he]
  show _ = Ending.returned _
  rw [show (⟨(textL a b).toArray⟩ : ByteArray).data.toList = textL a b from rfl, show (⟨#[45]⟩ : ByteArray).data.toList = [45] from rfl, cut_text hr]

set_option maxHeartbeats 1600000 in
theorem parse_ok (a b : Int) (w : World) (hL : LaidAt w) (hr : rtB a b = true) :
    Calls Tryz.prog 22 #[.string ⟨(textL a b).toArray⟩] w fun e w' => e = .returned (.tuple #[.agg #[.int .i64 a, .int .i64 b], .int .i64 0]) ∧ Below w.heap.size w w' := by
  have h0 := rtB_t hr
  have la := itoa_len (a := a) (by omega) (by omega)
  have lb := itoa_len (a := b) (by omega) (by omega)
  cases ho : opB a b with
  | true =>
    have hbe := opB_f ho
    have HT : tailL a b = [] := (tailL_nil hr).2 ho
    obtain rfl := hbe
    go_enter Tryz.func22, Tryz.ntmps22
    go_wp2_with (first
      | (go_at_call 38; with_reducible refine (cut_textc a 4611686018427387904 _ (hL.below (by go_grown)) hr).mono ?_; rintro e w1 ⟨rfl, hb1⟩; obtain ⟨hc1, hf1⟩ := bcell hb1; have hz1 := lt1 hb1; have B1 := bel (w := w) (by go_grown) hb1)
      | (go_at_call 39; with_reducible refine (pint_itoa a _ (by omega) (by omega)).mono ?_; rintro e w2 ⟨rfl, hb2⟩; obtain ⟨hc2, hf2⟩ := bcell hb2; have hz2 := Nat.lt_of_lt_of_le hz1 hb2.size; have B2 := bel (w := w) B1 hb2)
      | (go_at_call 23; with_reducible refine (text_any a 4611686018427387904 _ (hL.below (by go_grown))).mono ?_; rintro e w4 ⟨rfl, hb4⟩; obtain ⟨hc4, hf4⟩ := bcell hb4; have hz4 := lt_go hz2 hb4; have B4 := bel (w := w) (by go_grown) hb4))
    exact bodyPost_ret (v := .tuple #[.agg #[.int .i64 a, .int .i64 4611686018427387904], .int .i64 0]) (by simp [results, Tryz.results22, go_sem, hc4, hc2, hc1, hz4, hz2, hz1]) rfl ⟨rfl, by go_grown⟩
  | false =>
    have HT : tailL a b = Lib.itoa b := by unfold tailL; rw [if_neg (by rw [ho]; decide)]
    have HN : (Lib.itoa b).isEmpty = false := by rw [List.isEmpty_eq_false_iff]; exact itoa_ne (by omega)
    go_enter Tryz.func22, Tryz.ntmps22
    go_wp2_with (first
      | (go_at_call 38; with_reducible refine (cut_textc a b _ (hL.below (by go_grown)) hr).mono ?_; rintro e w1 ⟨rfl, hb1⟩; obtain ⟨hc1, hf1⟩ := bcell hb1; have hz1 := lt1 hb1; have B1 := bel (w := w) (by go_grown) hb1)
      | (go_at_call 39; with_reducible refine (pint_itoa a _ (by omega) (by omega)).mono ?_; rintro e w2 ⟨rfl, hb2⟩; obtain ⟨hc2, hf2⟩ := bcell hb2; have hz2 := Nat.lt_of_lt_of_le hz1 hb2.size; have B2 := bel (w := w) B1 hb2)
      | (go_at_call 39; with_reducible refine (pint_itoa b _ (by omega) (by omega)).mono ?_; rintro e w3 ⟨rfl, hb3⟩; obtain ⟨hc3, hf3⟩ := bcell hb3; have hz3 := Nat.lt_of_lt_of_le hz2 hb3.size; have B3 := bel (w := w) B2 hb3)
      | (go_at_call 23; with_reducible refine (text_any a b _ (hL.below (by go_grown))).mono ?_; rintro e w4 ⟨rfl, hb4⟩; obtain ⟨hc4, hf4⟩ := bcell hb4; have hz4 := lt_go hz3 hb4; have B4 := bel (w := w) (by go_grown) hb4))
    exact bodyPost_ret (v := .tuple #[.agg #[.int .i64 a, .int .i64 b], .int .i64 0]) (by simp [results, Tryz.results22, go_sem, hc4, hc3, hc2, hc1, hz4, hz3, hz2, hz1]) rfl ⟨rfl, by go_grown⟩
end Go.Proofs.YthbjhpfgfpkppaaGreatDoor
