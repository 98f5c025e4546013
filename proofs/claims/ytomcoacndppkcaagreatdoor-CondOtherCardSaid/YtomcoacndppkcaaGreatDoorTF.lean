/-
  The text of a tag, and the tag of a text, by the program and by the reference.
-/
import Derived.Shelf.Strings.SlTrimAscii
import Derived.Test.YtomcoacndppkcaaGreatDoorShelf
import Derived.Test.YtomcoacndppkcaaGreatDoorTC
import Derived.Lib.QuietBelow
namespace Go.Proofs.YtomcoacndppkcaaGreatDoor.T
open Go Go.RowKit

/-- a byte array out of its list -/
theorem ba_eta (s : ByteArray) : (⟨s.data.toList.toArray⟩ : ByteArray) = s := (ba_eq rfl).symm
theorem spell_no {s : ByteArray} {q : Bool} (h : okS s = false) : spellL (s, q) = [] := by unfold spellL; simp [h]
theorem spell_weak {s : ByteArray} (h : okS s = true) : (⟨(spellL (s, true)).toArray⟩ : ByteArray) = ⟨#[87, 47]⟩ ++ ((⟨#[34]⟩ ++ s) ++ ⟨#[34]⟩) := by
  unfold spellL; simp only [h, if_true]
  apply ByteArray.ext
  simp [ByteArray.data_append]
theorem spell_strong {s : ByteArray} (h : okS s = true) : (⟨(spellL (s, false)).toArray⟩ : ByteArray) = (⟨#[34]⟩ ++ s) ++ ⟨#[34]⟩ := by
  unfold spellL; simp only [h, if_true]
  apply ByteArray.ext
  simp [ByteArray.data_append]
theorem spell_weakR {s : ByteArray} (h : okS s = true) : (⟨(spellL (s, true)).toArray⟩ : ByteArray) = (⟨#[87, 47, 34]⟩ ++ s) ++ ⟨#[34]⟩ := by
  unfold spellL; simp only [h, if_true]
  apply ByteArray.ext
  simp [ByteArray.data_append]

set_option maxHeartbeats 1600000 in
set_option maxRecDepth 10000 in
theorem text_any (s : ByteArray) (q : Bool) (w : World) (hm : s.size ≤ maxLen) :
    Calls Tryz.prog 33 #[.agg #[.string s, .bool q]] w fun e w' => e = .returned (.string ⟨(spellL (s, q)).toArray⟩) ∧ Below w.heap.size w w' := by
  have hA := fun W => right_any s q W hm
  have hb0 : Ext w (w.alloc (.cells #[.string s, .bool q] 27)) := (Below.refl _ _).alloc (Nat.le_refl _) _
  cases h : okS s with
  | false =>
    rw [h] at hA
    have HF : Hid (spellL (s, q) = []) := spell_no h
    go_enter Tryz.func33, Tryz.ntmps33
    go_wp2_with (go_at_call 36; with_reducible refine (hA _).mono ?_; rintro e w1 ⟨rfl, hb1⟩)
    go_ret
    exact ⟨ret_str (by rw [HF.out]), Ext.tr hb0 hb1⟩
  | true =>
    rw [h] at hA
    have h100 : s.size ≤ 100 := by rw [Lib.size_eq]; exact (okT_iff.1 h).2.1
    cases q with
    | true =>
      have HF := Lib.hid (spell_weak h)
      clear h
      go_enter Tryz.func33, Tryz.ntmps33
      go_wp2_with (go_at_call 36; with_reducible refine (hA _).mono ?_; rintro e w1 ⟨rfl, hb1⟩; obtain ⟨d0, d1, dz⟩ := cell1 (by simpa using hb1))
      go_ret
      exact ⟨ret_str HF.out.symm, Ext.tr hb0 hb1⟩
    | false =>
      have HF := Lib.hid (spell_strong h)
      clear h
      go_enter Tryz.func33, Tryz.ntmps33
      go_wp2_with (go_at_call 36; with_reducible refine (hA _).mono ?_; rintro e w1 ⟨rfl, hb1⟩; obtain ⟨d0, d1, dz⟩ := cell1 (by simpa using hb1))
      go_ret
      exact ⟨ret_str HF.out.symm, Ext.tr hb0 hb1⟩

set_option maxHeartbeats 1600000 in
set_option maxRecDepth 10000 in
theorem rtext_any (s : ByteArray) (q : Bool) (w : World) (hm : s.size ≤ maxLen) :
    Calls Tryz.prog 43 #[.agg #[.string s, .bool q]] w fun e w' => e = .returned (.string ⟨(spellL (s, q)).toArray⟩) ∧ Below w.heap.size w w' := by
  have hA := fun W => rright_any s q W hm
  have hb0 : Ext w (w.alloc (.cells #[.string s, .bool q] 27)) := (Below.refl _ _).alloc (Nat.le_refl _) _
  cases h : okS s with
  | false =>
    rw [h] at hA
    have HF : Hid (spellL (s, q) = []) := spell_no h
    go_enter Tryz.func43, Tryz.ntmps43
    go_wp2_with (go_at_call 40; with_reducible refine (hA _).mono ?_; rintro e w1 ⟨rfl, hb1⟩)
    go_ret
    exact ⟨ret_str (by rw [HF.out]), Ext.tr hb0 hb1⟩
  | true =>
    rw [h] at hA
    have h100 : s.size ≤ 100 := by rw [Lib.size_eq]; exact (okT_iff.1 h).2.1
    cases q with
    | true =>
      have HF := Lib.hid (spell_weakR h)
      clear h
      go_enter Tryz.func43, Tryz.ntmps43
      go_wp2_with (go_at_call 40; with_reducible refine (hA _).mono ?_; rintro e w1 ⟨rfl, hb1⟩; obtain ⟨d0, d1, dz⟩ := cell1 (by simpa using hb1))
      go_ret
      exact ⟨ret_str HF.out.symm, Ext.tr hb0 hb1⟩
    | false =>
      have HF := Lib.hid (spell_strong h)
      clear h
      go_enter Tryz.func43, Tryz.ntmps43
      go_wp2_with (go_at_call 40; with_reducible refine (hA _).mono ?_; rintro e w1 ⟨rfl, hb1⟩; obtain ⟨d0, d1, dz⟩ := cell1 (by simpa using hb1))
      go_ret
      exact ⟨ret_str HF.out.symm, Ext.tr hb0 hb1⟩

/-- strings.Clone -/
theorem clone_any (s : ByteArray) (w : World) (hm : s.size ≤ 281474976710656) :
    Calls Tryz.prog 69 #[.string s] w fun e w' => e = .returned (.string s) ∧ Below w.heap.size w w' := by
  go_enter Tryz.func69, Tryz.ntmps69
  go_wp2_with (go_at_call 92; with_reducible refine (Tryz.stringslite_Clone s _ hm).mono ?_; rintro e w1 ⟨rfl, hb1⟩)
  go_ret
  exact ⟨rfl, hb1⟩
theorem trimx_any (s : ByteArray) (w : World) (hs : s.size ≤ szM) :
    Calls Tryz.prog 70 #[.string s, .string ⟨#[32, 9]⟩] w fun e w' => e = .returned (.string ⟨(Lib.trimS s.data.toList [32, 9]).toArray⟩) ∧ Below w.heap.size w w' :=
  Any.strings_Trim_laid Tryz.lays160 (by kernel_rfl) s ⟨#[32, 9]⟩ w (by unfold szM at hs; omega) (by decide) (ascii_of_all (by decide))
end Go.Proofs.YtomcoacndppkcaaGreatDoor.T
