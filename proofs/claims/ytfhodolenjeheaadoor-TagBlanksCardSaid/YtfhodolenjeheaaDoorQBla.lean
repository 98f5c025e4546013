/-
  The walk of TagBlanks.
-/
import Derived.Test.YtfhodolenjeheaaDoorTP
import Derived.Test.YtfhodolenjeheaaDoorTX
namespace Go.Proofs.YtfhodolenjeheaaDoor
open Go Go.RowKit

theorem listD_three (s : ByteArray) : listD (⟨#[32]⟩ ++ s : ByteArray).data.toList = listD s.data.toList ∧ listD (s ++ ⟨#[9, 32]⟩ : ByteArray).data.toList = listD s.data.toList ∧ listD (⟨#[9]⟩ ++ s ++ ⟨#[32]⟩ : ByteArray).data.toList = listD s.data.toList := by
  have e1 : (⟨#[32]⟩ ++ s : ByteArray).data.toList = 32 :: s.data.toList := by simp [ByteArray.data_append]
  have e2 : (s ++ ⟨#[9, 32]⟩ : ByteArray).data.toList = (s.data.toList ++ [9]) ++ [32] := by simp [ByteArray.data_append]
  have e3 : (⟨#[9]⟩ ++ s ++ ⟨#[32]⟩ : ByteArray).data.toList = (9 :: s.data.toList) ++ [32] := by simp [ByteArray.data_append]
  rw [e1, e2, e3, listD_hd (by decide), listD_tl (by decide), listD_tl (by decide), listD_tl (by decide), listD_hd (by decide)]
  exact ⟨rfl, rfl, rfl⟩
theorem listD_commaB (s : ByteArray) (h : (listD s.data.toList).2.1 = false) (h2 : (listD s.data.toList).2.2 ≠ 2) : listD (⟨#[44]⟩ ++ s ++ ⟨#[32, 44, 32]⟩ : ByteArray).data.toList = ((listD s.data.toList).1, false, (listD s.data.toList).2.2) := by
  have e : (⟨#[44]⟩ ++ s ++ ⟨#[32, 44, 32]⟩ : ByteArray).data.toList = 44 :: s.data.toList ++ [32, 44, 32] := by simp [ByteArray.data_append]
  rw [e]; exact listD_comma _ h h2

theorem u8_bounds {k : Int} (h : (Lit.int .u8 k).wf = true) : 0 ≤ k ∧ k < 256 := by
  simp [Lit.wf, IntKind.min, IntKind.max, IntKind.bits, IntKind.signed] at h; omega

set_option maxHeartbeats 16000000 in
set_option maxRecDepth 10000 in
theorem walk_TagBlanks (s : ByteArray) (a : Int) (w : World) (hm : s.size ≤ maxLen) (ha : (Lit.int .u8 a).wf = true) :
    Calls Tryd.prog 9 #[.string s, .int .u8 a] w fun e w' => e = .returned (.bool true) ∧ Below w.heap.size w w' := by
  unfold maxLen at hm
  by_cases h300 : s.size > 300
  · go_enter Tryd.func9, Tryd.ntmps9
    go_wp2_with fail
    with_reducible refine (awake_any _).mono ?_
    rintro e w1 ⟨rfl, hb1⟩
    go_wp2_with fail
    with_reducible refine (awake_any _).mono ?_
    rintro e w2 ⟨rfl, hb2⟩
    go_wp2_with fail
    go_ret
    exact ⟨rfl, Ext.tr hb1 hb2⟩
  have hab := u8_bounds ha
  clear ha
  have z1 : (⟨#[32]⟩ : ByteArray).size = 1 := rfl
  have z2 : (⟨#[9, 32]⟩ : ByteArray).size = 2 := rfl
  have z3 : (⟨#[9]⟩ : ByteArray).size = 1 := rfl
  have z4 : (⟨#[44]⟩ : ByteArray).size = 1 := rfl
  have z5 : (⟨#[32, 44, 32]⟩ : ByteArray).size = 3 := rfl
  have hA := fun W => plist_any s W (by omega)
  have HT := Lib.hid (listD_three s)
  have hlen := listD_len s.data.toList
  have HC0 : Hid ((listD s.data.toList).2.1 = false → (listD s.data.toList).2.2 ≠ 2 → ∀ W, Calls Tryd.prog 20 #[.string (⟨#[44]⟩ ++ s ++ ⟨#[32, 44, 32]⟩)] W fun e w' => ∃ v, e = .returned (.tuple #[v, .bool false, .int .i64 (listD s.data.toList).2.2]) ∧ IsTg w' v (listD s.data.toList).1 ∧ Below W.heap.size W w') := fun h1 h2 W => by
    have h := plist_any (⟨#[44]⟩ ++ s ++ ⟨#[32, 44, 32]⟩) W (by simp only [ByteArray.size_append]; omega)
    unfold ListPost at h
    rw [listD_commaB s h1 h2] at h
    exact h
  unfold ListPost at hA
  obtain ⟨D, hD⟩ : ∃ D, listD s.data.toList = D := ⟨_, rfl⟩
  have HS := Lib.hid hD
  rw [hD] at hA hlen HC0
  clear hD
  obtain ⟨l, b, E⟩ := D
  simp only at hA hlen HC0
  have HC := Lib.hid HC0.out
  clear HC0
  have q1 : (b != b) = false := by simp
  have q2 : (E != E) = false := by simp
  have q3 : (E == E) = true := by simp
  rcases (by omega : a % 3 = 0 ∨ a % 3 = 1 ∨ a % 3 = 2) with h0 | h1 | h2
  · have hB := fun W => plist_any (⟨#[32]⟩ ++ s) W (by simp only [ByteArray.size_append]; omega)
    unfold ListPost at hB
    rw [HT.out.1, HS.out] at hB
    simp only at hB
    clear z1 z2 z3 z4 z5
    have hk : (a % 3 : Int) = 0 := h0
    go_enter Tryd.func9, Tryd.ntmps9
    go_wp2_with fail
    with_reducible refine (awake_any _).mono ?_
    rintro e w1 ⟨rfl, hb1⟩
    go_wp2_with fail
    with_reducible refine (hA _).mono ?_
    rintro e w2 ⟨v2, rfl, hsp2, hb2⟩
    have B2 := Ext.tr hb1 hb2
    go_wp2_with fail
    with_reducible refine (hB _).mono ?_
    rintro e w4 ⟨v4, rfl, hsp4, hb4'⟩
    have hb4 : Ext w2 w4 := Ext.tr ((Below.refl _ _).alloc (Nat.le_refl _) _) hb4'
    have B4 := Ext.tr B2 hb4
    clear hb4'
    have h3 := rsame_is (IsTg.below hsp2 hb4) hsp4 (by omega)
    rw [sameT_t rfl] at h3
    go_wp2_with fail
    with_reducible refine h3.mono ?_
    rintro e w5 ⟨rfl, hb5⟩
    have B5 := Ext.tr B4 hb5
    have hsp5 := IsTg.below (IsTg.below hsp2 hb4) hb5
    clear h3
    cases b with
    | true =>
      go_wp2_with fail
      go_ret
      exact ⟨rfl, B5⟩
    | false =>
      by_cases hE : E = 2
      · subst hE
        go_wp2_with fail
        go_ret
        exact ⟨rfl, B5⟩
      · have hE2 : (E == 2) = false := beqi_f hE
        have hC := HC.out rfl hE
        go_wp2_with fail
        with_reducible refine (hC _).mono ?_
        rintro e w6 ⟨v6, rfl, hsp6, hb6⟩
        have B6 := Ext.tr B5 hb6
        have h7 := rsame_is (IsTg.below hsp5 hb6) hsp6 (by omega)
        rw [sameT_t rfl] at h7
        go_wp2_with fail
        with_reducible refine h7.mono ?_
        rintro e w7 ⟨rfl, hb7⟩
        have B7 := Ext.tr B6 hb7
        go_wp2_with fail
        go_ret
        exact ⟨rfl, B7⟩
  · have hB := fun W => plist_any (s ++ ⟨#[9, 32]⟩) W (by simp only [ByteArray.size_append]; omega)
    unfold ListPost at hB
    rw [HT.out.2.1, HS.out] at hB
    simp only at hB
    clear z1 z2 z3 z4 z5
    have hk : (a % 3 : Int) = 1 := h1
    go_enter Tryd.func9, Tryd.ntmps9
    go_wp2_with fail
    with_reducible refine (awake_any _).mono ?_
    rintro e w1 ⟨rfl, hb1⟩
    go_wp2_with fail
    with_reducible refine (hA _).mono ?_
    rintro e w2 ⟨v2, rfl, hsp2, hb2⟩
    have B2 := Ext.tr hb1 hb2
    go_wp2_with fail
    with_reducible refine (hB _).mono ?_
    rintro e w4 ⟨v4, rfl, hsp4, hb4'⟩
    have hb4 : Ext w2 w4 := Ext.tr ((Below.refl _ _).alloc (Nat.le_refl _) _) hb4'
    have B4 := Ext.tr B2 hb4
    clear hb4'
    have h3 := rsame_is (IsTg.below hsp2 hb4) hsp4 (by omega)
    rw [sameT_t rfl] at h3
    go_wp2_with fail
    with_reducible refine h3.mono ?_
    rintro e w5 ⟨rfl, hb5⟩
    have B5 := Ext.tr B4 hb5
    have hsp5 := IsTg.below (IsTg.below hsp2 hb4) hb5
    clear h3
    cases b with
    | true =>
      go_wp2_with fail
      go_ret
      exact ⟨rfl, B5⟩
    | false =>
      by_cases hE : E = 2
      · subst hE
        go_wp2_with fail
        go_ret
        exact ⟨rfl, B5⟩
      · have hE2 : (E == 2) = false := beqi_f hE
        have hC := HC.out rfl hE
        go_wp2_with fail
        with_reducible refine (hC _).mono ?_
        rintro e w6 ⟨v6, rfl, hsp6, hb6⟩
        have B6 := Ext.tr B5 hb6
        have h7 := rsame_is (IsTg.below hsp5 hb6) hsp6 (by omega)
        rw [sameT_t rfl] at h7
        go_wp2_with fail
        with_reducible refine h7.mono ?_
        rintro e w7 ⟨rfl, hb7⟩
        have B7 := Ext.tr B6 hb7
        go_wp2_with fail
        go_ret
        exact ⟨rfl, B7⟩
  · have hB := fun W => plist_any (⟨#[9]⟩ ++ s ++ ⟨#[32]⟩) W (by simp only [ByteArray.size_append]; omega)
    unfold ListPost at hB
    rw [HT.out.2.2, HS.out] at hB
    simp only at hB
    clear z1 z2 z3 z4 z5
    have hk : (a % 3 : Int) = 2 := h2
    go_enter Tryd.func9, Tryd.ntmps9
    go_wp2_with fail
    with_reducible refine (awake_any _).mono ?_
    rintro e w1 ⟨rfl, hb1⟩
    go_wp2_with fail
    with_reducible refine (hA _).mono ?_
    rintro e w2 ⟨v2, rfl, hsp2, hb2⟩
    have B2 := Ext.tr hb1 hb2
    go_wp2_with fail
    with_reducible refine (hB _).mono ?_
    rintro e w4 ⟨v4, rfl, hsp4, hb4'⟩
    have hb4 : Ext w2 w4 := Ext.tr ((Below.refl _ _).alloc (Nat.le_refl _) _) hb4'
    have B4 := Ext.tr B2 hb4
    clear hb4'
    have h3 := rsame_is (IsTg.below hsp2 hb4) hsp4 (by omega)
    rw [sameT_t rfl] at h3
    go_wp2_with fail
    with_reducible refine h3.mono ?_
    rintro e w5 ⟨rfl, hb5⟩
    have B5 := Ext.tr B4 hb5
    have hsp5 := IsTg.below (IsTg.below hsp2 hb4) hb5
    clear h3
    cases b with
    | true =>
      go_wp2_with fail
      go_ret
      exact ⟨rfl, B5⟩
    | false =>
      by_cases hE : E = 2
      · subst hE
        go_wp2_with fail
        go_ret
        exact ⟨rfl, B5⟩
      · have hE2 : (E == 2) = false := beqi_f hE
        have hC := HC.out rfl hE
        go_wp2_with fail
        with_reducible refine (hC _).mono ?_
        rintro e w6 ⟨v6, rfl, hsp6, hb6⟩
        have B6 := Ext.tr B5 hb6
        have h7 := rsame_is (IsTg.below hsp5 hb6) hsp6 (by omega)
        rw [sameT_t rfl] at h7
        go_wp2_with fail
        with_reducible refine h7.mono ?_
        rintro e w7 ⟨rfl, hb7⟩
        have B7 := Ext.tr B6 hb7
        go_wp2_with fail
        go_ret
        exact ⟨rfl, B7⟩
end Go.Proofs.YtfhodolenjeheaaDoor
