/-
  span.Parse by a contract, of a text that is no span's: refused.
-/
import Derived.Lib.Hide
import Derived.Test.YthbjhpfgfpkppaaGreatDoorParse
namespace Go.Proofs.YthbjhpfgfpkppaaGreatDoor
open Go Go.RowKit

theorem cut_len (l : List UInt8) : (Lib.cut l [45]).1.length ≤ l.length ∧ (Lib.cut l [45]).2.1.length ≤ l.length ∧ ((Lib.cut l [45]).1 ≠ [] → l ≠ []) := by
  unfold Lib.cut
  split
  · refine ⟨by simp; omega, by simp, ?_⟩
    intro h e; subst e; simp at h
  · exact ⟨Nat.le_refl _, by simp, fun h => h⟩
theorem size_toList (s : ByteArray) : s.data.toList.length = s.size := by show s.data.toList.length = s.data.size; simp
theorem ne_of_toList {l : List UInt8} {s : ByteArray} (h : s.data.toList ≠ l) : (l == s.toList) = false := by
  rw [ByteArray.toList_eq, beq_eq_false_iff_ne]; exact fun e => h e.symm

set_option maxHeartbeats 1600000 in
theorem parse_no (s : ByteArray) (w : World) (hL : LaidAt w) (hs : s.size < 4294967281) (hno : ∀ a b, rtB a b = true → s.data.toList ≠ textL a b) :
    Calls Tryz.prog 22 #[.string s] w fun e w' => e = .returned (.tuple #[.agg #[.int .i64 0, .int .i64 0], .int .i64 2]) ∧ Below w.heap.size w w' := by
  obtain ⟨l1, l2, l3⟩ := cut_len s.data.toList
  rw [size_toList] at l1 l2
  have HNE : Hid (∀ v u, Lib.parseIntB 64 (Lib.cut s.data.toList [45]).1 = .ok v → (textL v u == s.toList) = false) := by
    intro v u hv
    refine ne_of_toList ?_
    cases hr : rtB v u with
    | true => exact hno v u hr
    | false =>
      have : textL v u = [] := by unfold textL; rw [hr]; rfl
      rw [this]; exact l3 (parseInt_bounds hv)
  clear hno l3
  have hcut := scut_any s ⟨#[45]⟩
  rw [show (⟨#[45]⟩ : ByteArray).data.toList = [45] from rfl] at hcut
  generalize (Lib.cut s.data.toList [45]).2.2 = d at hcut
  generalize (Lib.cut s.data.toList [45]).2.1 = l at hcut l2
  generalize (Lib.cut s.data.toList [45]).1 = f at hcut l1 HNE
  have sf : (⟨f.toArray⟩ : ByteArray).size < 4294967281 := by show f.toArray.size < _; simp; omega
  have sl : (⟨l.toArray⟩ : ByteArray).size < 4294967281 := by show l.toArray.size < _; simp; omega
  have HC := Lib.hid hcut
  have SF := Lib.hid sf
  have SL := Lib.hid sl
  clear hcut sf sl
  by_cases hp : ∃ v, Lib.parseIntB 64 f = .ok v
  · obtain ⟨v, hv⟩ := hp
    have HV := Lib.hid hv; clear hv
    by_cases hl : l = []
    · subst hl
      have HN := HNE.out v 4611686018427387904 HV.out
      clear HNE
      go_enter Tryz.func22, Tryz.ntmps22
      go_wp2_with fail
      with_reducible refine (HC.out _ (hL.below (by go_grown)) hs).mono ?_
      rintro e w1 ⟨rfl, hb1⟩
      have B1 := bel (w := w) (by go_grown) hb1
      obtain ⟨hc1, hf1⟩ := bcell hb1
      have hz1 := lt1 hb1
      go_wp2_with fail
      with_reducible refine (pint_ok ⟨f.toArray⟩ v _ SF.out HV.out).mono ?_
      rintro e w2 ⟨rfl, hb2⟩
      obtain ⟨hc2, hf2⟩ := bcell hb2
      have hz2 := Nat.lt_of_lt_of_le hz1 hb2.size
      have B2 := bel (w := w) B1 hb2
      go_wp2_with fail
      with_reducible refine (text_any v 4611686018427387904 _ (hL.below (by go_grown))).mono ?_
      rintro e w4 ⟨rfl, hb4⟩
      obtain ⟨hc4, hf4⟩ := bcell hb4
      have hz4 := lt_go hz2 hb4
      have B4 := bel (w := w) (by go_grown) hb4
      go_wp2_with fail
      exact bodyPost_ret (v := .tuple #[.agg #[.int .i64 0, .int .i64 0], .int .i64 2]) (by simp [results, Tryz.results22, go_sem, *]) rfl ⟨rfl, by go_grown⟩
    · have hl' : l.isEmpty = false := by rw [List.isEmpty_eq_false_iff]; exact hl
      clear hl
      by_cases hp : ∃ u, Lib.parseIntB 64 l = .ok u
      · obtain ⟨u, hu⟩ := hp
        have HU := Lib.hid hu; clear hu
        have HN := HNE.out v u HV.out
        clear HNE
        go_enter Tryz.func22, Tryz.ntmps22
        go_wp2_with fail
        with_reducible refine (HC.out _ (hL.below (by go_grown)) hs).mono ?_
        rintro e w1 ⟨rfl, hb1⟩
        have B1 := bel (w := w) (by go_grown) hb1
        obtain ⟨hc1, hf1⟩ := bcell hb1
        have hz1 := lt1 hb1
        go_wp2_with fail
        with_reducible refine (pint_ok ⟨f.toArray⟩ v _ SF.out HV.out).mono ?_
        rintro e w2 ⟨rfl, hb2⟩
        obtain ⟨hc2, hf2⟩ := bcell hb2
        have hz2 := Nat.lt_of_lt_of_le hz1 hb2.size
        have B2 := bel (w := w) B1 hb2
        go_wp2_with fail
        with_reducible refine (pint_ok ⟨l.toArray⟩ u _ SL.out HU.out).mono ?_
        rintro e w3 ⟨rfl, hb3⟩
        obtain ⟨hc3, hf3⟩ := bcell hb3
        have hz3 := Nat.lt_of_lt_of_le hz2 hb3.size
        have B3 := bel (w := w) B2 hb3
        go_wp2_with fail
        with_reducible refine (text_any v u _ (hL.below (by go_grown))).mono ?_
        rintro e w4 ⟨rfl, hb4⟩
        obtain ⟨hc4, hf4⟩ := bcell hb4
        have hz4 := lt_go hz3 hb4
        have B4 := bel (w := w) (by go_grown) hb4
        go_wp2_with fail
        exact bodyPost_ret (v := .tuple #[.agg #[.int .i64 0, .int .i64 0], .int .i64 2]) (by simp [results, Tryz.results22, go_sem, *]) rfl ⟨rfl, by go_grown⟩
      · have HP := Lib.hid (fun u (h : Lib.parseIntB 64 l = .ok u) => hp ⟨u, h⟩); clear hp
        clear HNE
        go_enter Tryz.func22, Tryz.ntmps22
        go_wp2_with fail
        with_reducible refine (HC.out _ (hL.below (by go_grown)) hs).mono ?_
        rintro e w1 ⟨rfl, hb1⟩
        have B1 := bel (w := w) (by go_grown) hb1
        obtain ⟨hc1, hf1⟩ := bcell hb1
        have hz1 := lt1 hb1
        go_wp2_with fail
        with_reducible refine (pint_ok ⟨f.toArray⟩ v _ SF.out HV.out).mono ?_
        rintro e w2 ⟨rfl, hb2⟩
        obtain ⟨hc2, hf2⟩ := bcell hb2
        have hz2 := Nat.lt_of_lt_of_le hz1 hb2.size
        have B2 := bel (w := w) B1 hb2
        go_wp2_with fail
        with_reducible refine (pint_bad ⟨l.toArray⟩ _ (hL.below B2) SL.out HP.out).mono ?_
        rintro e w3 ⟨n, t, p, rfl, hb3⟩
        obtain ⟨hc3, hf3⟩ := bcell hb3
        have hz3 := Nat.lt_of_lt_of_le hz2 hb3.size
        have B3 := bel (w := w) B2 hb3
        go_wp2_with fail
        exact bodyPost_ret (v := .tuple #[.agg #[.int .i64 0, .int .i64 0], .int .i64 2]) (by simp [results, Tryz.results22, go_sem, *]) rfl ⟨rfl, by go_grown⟩
  · have HP := Lib.hid (fun v (h : Lib.parseIntB 64 f = .ok v) => hp ⟨v, h⟩); clear hp
    go_enter Tryz.func22, Tryz.ntmps22
    go_wp2_with fail
    with_reducible refine (HC.out _ (hL.below (by go_grown)) hs).mono ?_
    rintro e w1 ⟨rfl, hb1⟩
    have B1 := bel (w := w) (by go_grown) hb1
    obtain ⟨hc1, hf1⟩ := bcell hb1
    have hz1 := lt1 hb1
    go_wp2_with fail
    with_reducible refine (pint_bad ⟨f.toArray⟩ _ (hL.below B1) SF.out HP.out).mono ?_
    rintro e w2 ⟨n, t, p, rfl, hb2⟩
    obtain ⟨hc2, hf2⟩ := bcell hb2
    have hz2 := Nat.lt_of_lt_of_le hz1 hb2.size
    have B2 := bel (w := w) B1 hb2
    go_wp2_with fail
    exact bodyPost_ret (v := .tuple #[.agg #[.int .i64 0, .int .i64 0], .int .i64 2]) (by simp [results, Tryz.results22, go_sem, *]) rfl ⟨rfl, by go_grown⟩
end Go.Proofs.YthbjhpfgfpkppaaGreatDoor
