/-
  The walk of SpanParses.
-/
import Derived.Test.YtbhbnkblnfaomaaDoorAwake
import Derived.Test.YtbhbnkblnfaomaaDoorRef01G
namespace Go.Proofs.YtbhbnkblnfaomaaDoor
open Go Go.RowKit

theorem rparse_ok (a b : Int) (w : World) (h : rtB a b = true) :
    Calls Tryd.prog 33 #[.string ⟨(textL a b).toArray⟩] w fun e w' => e = .returned (.tuple #[.agg #[.int .i64 a, .int .i64 b], .int .i64 0]) ∧ Below w.heap.size w w' := by
  have hl := textL_len (a := a) (b := b)
  have k := rparse_any ⟨(textL a b).toArray⟩ w (by show (textL a b).toArray.size ≤ _; simp; omega)
  rw [show (⟨(textL a b).toArray⟩ : ByteArray).data.toList = textL a b from rfl, refP_text h] at k
  exact k
theorem rparse_no (s : ByteArray) (w : World) (hs : s.size ≤ 1000000) (hno : ∀ a b, rtB a b = true → s.data.toList ≠ textL a b) :
    Calls Tryd.prog 33 #[.string s] w fun e w' => e = .returned (.tuple #[.agg #[.int .i64 0, .int .i64 0], .int .i64 2]) ∧ Below w.heap.size w w' := by
  have k := rparse_any s w hs
  rw [refP_none hno] at k
  exact k

set_option maxHeartbeats 4000000 in
set_option maxRecDepth 100000 in
theorem walk_SpanParses (s : ByteArray) (w : World) (hL : LaidAt w) (hm : s.size ≤ maxLen) :
    Calls Tryd.prog 9 #[.string s] w fun e w' => e = .returned (.bool true) ∧ Below w.heap.size w w' := by
  unfold maxLen at hm
  by_cases hbig : 100 < s.size
  · go_enter Tryd.func9, Tryd.ntmps9
    go_wp2_with fail
    with_reducible refine (awake_any _ hL).mono ?_
    rintro e w1 ⟨rfl, hb1⟩
    obtain ⟨hc1, hf1⟩ := bcell hb1
    have B1 := bel (w := w) (by go_grown) hb1
    have s1 := B1.size
    clear hb1
    go_wp2_with fail
    with_reducible refine (awake_any _ (hL.below B1)).mono ?_
    rintro e w2 ⟨rfl, hb2⟩
    obtain ⟨hc2, hf2⟩ := bcell hb2
    have B2 := bel (w := w) (by go_grown) hb2
    have s2 := B2.size
    clear hb2
    go_wp2_with fail
    go_ret
    exact ⟨rfl, by go_grown⟩
  · by_cases hex : ∃ a b, rtB a b = true ∧ s.data.toList = textL a b
    · obtain ⟨a, b, hr, he⟩ := hex
      obtain rfl : s = ⟨(textL a b).toArray⟩ := by rw [← he, list_toArray]
      clear he
      have hl := textL_len (a := a) (b := b)
      go_enter Tryd.func9, Tryd.ntmps9
      go_wp2_with fail
      with_reducible refine (awake_any _ hL).mono ?_
      rintro e w1 ⟨rfl, hb1⟩
      obtain ⟨hc1, hf1⟩ := bcell hb1
      have B1 := bel (w := w) (by go_grown) hb1
      have s1 := B1.size
      clear hb1
      go_wp2_with fail
      with_reducible refine (parse_ok a b _ (hL.below B1) hr).mono ?_
      rintro e w2 ⟨rfl, hb2⟩
      obtain ⟨hc2, hf2⟩ := bcell hb2
      have B2 := bel (w := w) (by go_grown) hb2
      have s2 := B2.size
      clear hb2
      go_wp2_with fail
      with_reducible refine (rparse_ok a b _ hr).mono ?_
      rintro e w3 ⟨rfl, hb3⟩
      obtain ⟨hc3, hf3⟩ := bcell hb3
      have hz3 : w2.heap.size < w3.heap.size ∧ w2.heap.size < w3.heap.size + 1 := (by have := hb3.size; (try simp only [World.size_alloc] at this); omega)
      have B3 := bel (w := w) (by go_grown) hb3
      have s3 := B3.size
      clear hb3
      go_wp2_with fail
      with_reducible refine (text_any a b _ (hL.below (by go_grown))).mono ?_
      rintro e w4 ⟨rfl, hb4⟩
      obtain ⟨hc4, hf4⟩ := bcell hb4
      have hz4 : w2.heap.size < w4.heap.size ∧ w3.heap.size < w4.heap.size := (by have := hb4.size; (try simp only [World.size_alloc] at this); omega)
      have B4 := bel (w := w) (by go_grown) hb4
      have s4 := B4.size
      clear hb4
      go_wp2_with fail
      go_ret
      exact ⟨ret_bool (by simp), by go_grown⟩
    · have HNO := Lib.hid (fun a b (h : rtB a b = true) (e : s.data.toList = textL a b) => hex ⟨a, b, h, e⟩)
      clear hex
      go_enter Tryd.func9, Tryd.ntmps9
      go_wp2_with fail
      with_reducible refine (awake_any _ hL).mono ?_
      rintro e w1 ⟨rfl, hb1⟩
      obtain ⟨hc1, hf1⟩ := bcell hb1
      have B1 := bel (w := w) (by go_grown) hb1
      have s1 := B1.size
      clear hb1
      go_wp2_with fail
      with_reducible refine (parse_no s _ (hL.below B1) (by omega) HNO.out).mono ?_
      rintro e w2 ⟨rfl, hb2⟩
      obtain ⟨hc2, hf2⟩ := bcell hb2
      have B2 := bel (w := w) (by go_grown) hb2
      have s2 := B2.size
      clear hb2
      go_wp2_with fail
      with_reducible refine (rparse_no s _ (by omega) HNO.out).mono ?_
      rintro e w3 ⟨rfl, hb3⟩
      obtain ⟨hc3, hf3⟩ := bcell hb3
      have hz3 : w2.heap.size < w3.heap.size ∧ w2.heap.size < w3.heap.size + 1 := (by have := hb3.size; (try simp only [World.size_alloc] at this); omega)
      have B3 := bel (w := w) (by go_grown) hb3
      have s3 := B3.size
      clear hb3
      go_wp2_with fail
      go_ret
      exact ⟨ret_bool (by simp), by go_grown⟩
end Go.Proofs.YtbhbnkblnfaomaaDoor
