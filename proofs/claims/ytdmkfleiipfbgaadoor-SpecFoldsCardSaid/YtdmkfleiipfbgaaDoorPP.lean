/-
  The reference's Near of two spans.
-/
import Derived.Test.YtdmkfleiipfbgaaDoorPM
import Derived.Test.YtdmkfleiipfbgaaDoorPN
namespace Go.Proofs.YtdmkfleiipfbgaaDoor
open Go Go.RowKit
open Go.Sort (grow)

def nearB (g : Int) (x y : Sp) : Bool := decide (y.1 - x.2 ≤ max g 0) && decide (x.1 - y.2 ≤ max g 0)
theorem nearB_iff {g : Int} {x y : Sp} : nearB g x y = true ↔ NearP g x y := by unfold nearB NearP; simp
theorem nearB_no {g : Int} {x y : Sp} (h : ¬ NearP g x y) : nearB g x y = false := by
  cases e : nearB g x y with
  | false => rfl
  | true => exact absurd (nearB_iff.1 e) h

set_option maxHeartbeats 4000000 in
theorem near_any4 (g a b c d : Int) (w : World) (sx : Solid (a, b)) (sy : Solid (c, d)) :
    Calls Tryd.prog 26 #[.agg #[.int .i64 a, .int .i64 b], .agg #[.int .i64 c, .int .i64 d], .int .i64 g] w fun e w' => e = .returned (.bool (nearB g (a, b) (c, d))) ∧ Below w.heap.size w w' := by
  unfold Solid at sx sy
  simp only at sx sy
  by_cases hg : g < 0
  · by_cases hs : a > c
    · by_cases hl : a ≤ d
      · have HF : Hid (nearB g (a, b) (c, d) = true) := by unfold Hid nearB; simp; omega
        go_enter Tryd.func26, Tryd.ntmps26
        go_wp2
        go_ret
        exact ⟨ret_bool HF.out.symm, by go_grown⟩
      · have HF : Hid (nearB g (a, b) (c, d) = decide (a - d ≤ 0)) := by unfold Hid nearB; rw [show max g 0 = 0 by omega]; simp; omega
        go_enter Tryd.func26, Tryd.ntmps26
        go_wp2
        go_ret
        exact ⟨ret_bool HF.out.symm, by go_grown⟩
    · by_cases hl : c ≤ b
      · have HF : Hid (nearB g (a, b) (c, d) = true) := by unfold Hid nearB; simp; omega
        go_enter Tryd.func26, Tryd.ntmps26
        go_wp2
        go_ret
        exact ⟨ret_bool HF.out.symm, by go_grown⟩
      · have HF : Hid (nearB g (a, b) (c, d) = decide (c - b ≤ 0)) := by unfold Hid nearB; rw [show max g 0 = 0 by omega]; simp; omega
        go_enter Tryd.func26, Tryd.ntmps26
        go_wp2
        go_ret
        exact ⟨ret_bool HF.out.symm, by go_grown⟩
  · by_cases hs : a > c
    · by_cases hl : a ≤ d
      · have HF : Hid (nearB g (a, b) (c, d) = true) := by unfold Hid nearB; simp; omega
        go_enter Tryd.func26, Tryd.ntmps26
        go_wp2
        go_ret
        exact ⟨ret_bool HF.out.symm, by go_grown⟩
      · have HF : Hid (nearB g (a, b) (c, d) = decide (a - d ≤ g)) := by unfold Hid nearB; rw [show max g 0 = g by omega]; simp; omega
        go_enter Tryd.func26, Tryd.ntmps26
        go_wp2
        go_ret
        exact ⟨ret_bool HF.out.symm, by go_grown⟩
    · by_cases hl : c ≤ b
      · have HF : Hid (nearB g (a, b) (c, d) = true) := by unfold Hid nearB; simp; omega
        go_enter Tryd.func26, Tryd.ntmps26
        go_wp2
        go_ret
        exact ⟨ret_bool HF.out.symm, by go_grown⟩
      · have HF : Hid (nearB g (a, b) (c, d) = decide (c - b ≤ g)) := by unfold Hid nearB; rw [show max g 0 = g by omega]; simp; omega
        go_enter Tryd.func26, Tryd.ntmps26
        go_wp2
        go_ret
        exact ⟨ret_bool HF.out.symm, by go_grown⟩

set_option maxHeartbeats 1600000 in
theorem good_any5 (A : Option Addr) (n c : Nat) (l : List Sp) (w : World) (hn : l.length = n) (hm : n ≤ 9223372036854775807) (hs : SpAt w w.heap.size A l) :
    Calls Tryd.prog 23 #[.slice A n c] w fun e w' => e = .returned (.bool (goodL l && decide (n ≤ 30))) ∧ Below w.heap.size w w' := by
  have HS := Lib.hid hs
  clear hs
  have HL := Lib.hid hn
  clear hn
  go_enter Tryd.func23, Tryd.ntmps23
  go_wp2
  go_loopw [7] (fun i wr => ∃ k : Nat, k ≤ n ∧ i = .int .i64 k ∧ Hid (goodL (l.take k) = true) ∧ Below w.heap.size w wr) (fun i _ => n - (intOf i).toNat)
  case atStart => exact ⟨0, Nat.zero_le _, rfl, rfl, Below.refl _ _⟩
  case round =>
    obtain ⟨k, hk, rfl, HG, hbel⟩ := hrel
    by_cases hlt : k < n
    · have hkl : k < l.length := by have := HL.out; omega
      obtain ⟨b, o, rfl, hb, hc⟩ := (HS.out.below hbel (Nat.le_refl _)) (by omega)
      obtain ⟨c0, c1⟩ := hc k hkl
      clear hc
      have HT := Lib.hid (goodL_take hkl)
      have HA := Lib.hid (fun h => goodL_at hkl h)
      generalize l[k] = X at *
      obtain ⟨x, y⟩ := X
      simp only at c0 c1
      have hbz : b < wr.heap.size := by have := hbel.size; omega
      have e1 : Ext w (wr.alloc (.cells #[.int .i64 x, .int .i64 y] 39)) := hbel.trans (((Below.refl _ _).alloc (Nat.le_refl _) _).mono hbel.size)
      by_cases h1 : x < 0
      · have HF : Hid (goodL l = false) := HA.out (by simp [oneG, h1])
        clear HT HA HG
        go_wp2
        go_ret
        exact ⟨ret_bool (by rw [HF.out]; rfl), e1⟩
      · by_cases h2 : x ≥ y
        · have HF : Hid (goodL l = false) := HA.out (by simp [oneG, h2])
          clear HT HA HG
          go_wp2
          go_ret
          exact ⟨ret_bool (by rw [HF.out]; rfl), e1⟩
        · by_cases h3 : y > 4611686018427387904
          · have HF : Hid (goodL l = false) := HA.out (by simp [oneG, h3])
            clear HT HA HG
            go_wp2
            go_ret
            exact ⟨ret_bool (by rw [HF.out]; rfl), e1⟩
          · have HF : Hid (goodL (l.take (k + 1)) = true) := by unfold Hid; rw [HT.out, HG.out]; simp [oneG]; omega
            clear HT HA HG
            go_wp2
            go_roundw
            case rel => exact ⟨k + 1, by omega, by go_num, HF, e1⟩
            case measure => simp [intOf]; omega
    · obtain rfl : k = n := by omega
      have HF : Hid (goodL l = true) := by have := HG.out; rwa [List.take_of_length_le (by have := HL.out; omega)] at this
      clear HG
      go_wp2
      go_ret
      exact ⟨ret_bool (by rw [HF.out]; simp; exact Iff.intro (fun h => by omega) (fun h => by omega)), hbel⟩
end Go.Proofs.YtdmkfleiipfbgaaDoor
