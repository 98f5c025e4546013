/-
  Right of the program and of the reference.
-/
import Derived.Test.YtomcoacndppkcaaGreatDoorTM
namespace Go.Proofs.YtomcoacndppkcaaGreatDoor.T
open Go Go.RowKit

def seenN (n : Nat) : Bool := decide (33 ≤ n) && decide (n ≤ 126) && !decide (n = 34)
theorem seen_N (x : UInt8) : seen x = seenN x.toNat := rfl

set_option maxHeartbeats 800000 in
theorem mayStand_any (n : Nat) (w : World) :
    Calls Tryz.prog 61 #[.int .u8 (n : Int)] w fun e w' => e = .returned (.bool (seenN n)) ∧ w = w' := by
  by_cases h1 : 33 ≤ n
  · by_cases h2 : n ≤ 126
    · by_cases h3 : n = 34
      · have HF : Hid (seenN n = false) := by unfold Hid seenN; simp [h3]
        have c : ((n : Int) != 34) = false := by simp; omega
        go_enter Tryz.func61, Tryz.ntmps61
        go_wp2
        go_ret
        exact ⟨ret_bool HF.out.symm, rfl⟩
      · have HF : Hid (seenN n = true) := by unfold Hid seenN; simp [h1, h2, h3]
        have c : ((n : Int) != 34) = true := by simp; omega
        go_enter Tryz.func61, Tryz.ntmps61
        go_wp2
        go_ret
        exact ⟨ret_bool HF.out.symm, rfl⟩
    · have HF : Hid (seenN n = false) := by unfold Hid seenN; simp [h2]
      go_enter Tryz.func61, Tryz.ntmps61
      go_wp2
      go_ret
      exact ⟨ret_bool HF.out.symm, rfl⟩
  · have HF : Hid (seenN n = false) := by unfold Hid seenN; simp [h1]
    go_enter Tryz.func61, Tryz.ntmps61
    go_wp2
    go_ret
    exact ⟨ret_bool HF.out.symm, rfl⟩

/-- the bytes ahead of k may stand -/
def okTo (s : ByteArray) (k : Nat) : Prop := (s.data.toList.take k).all seen = true
theorem okTo.more {s : ByteArray} {k : Nat} (h : okTo s k) (hk : k < s.size) (hx : seen s[k] = true) : okTo s (k + 1) := by
  unfold okTo at h ⊢
  have e : s.data.toList[k]? = some s[k] := by rw [← List.head?_drop, drop_at4 s k hk]; rfl
  rw [List.take_add_one, e, List.all_append, h]
  simp [hx]
theorem okTo.bad {s : ByteArray} {k : Nat} (hk : k < s.size) (hx : seen s[k] = false) : okS s = false := by
  cases e : okS s with
  | false => rfl
  | true =>
    have h := (okT_iff.1 e).2.2 s[k] (by
      have : s.data.toList[k]? = some s[k] := by rw [← List.head?_drop, drop_at4 s k hk]; rfl
      exact List.mem_of_getElem? this)
    rw [hx] at h; cases h
theorem okTo.all {s : ByteArray} (h : okTo s s.size) (h1 : 1 ≤ s.size) (h2 : s.size ≤ 100) : okS s = true := by
  unfold okTo at h
  rw [List.take_of_length_le (by rw [← Lib.size_eq]; exact Nat.le_refl _)] at h
  rw [Lib.size_eq] at h1 h2
  exact okT_iff.2 ⟨h1, h2, List.all_eq_true.1 h⟩
theorem okS_small {s : ByteArray} (h : s.size < 1) : okS s = false := by
  cases e : okS s with
  | false => rfl
  | true => have := (okT_iff.1 e).1; rw [← Lib.size_eq] at this; omega
theorem okS_great {s : ByteArray} (h : 100 < s.size) : okS s = false := by
  cases e : okS s with
  | false => rfl
  | true => have := (okT_iff.1 e).2.1; rw [← Lib.size_eq] at this; omega

set_option maxHeartbeats 1600000 in
theorem right_any (s : ByteArray) (q : Bool) (w : World) (hm : s.size ≤ maxLen) :
    Calls Tryz.prog 36 #[.agg #[.string s, .bool q]] w fun e w' => e = .returned (.bool (okS s)) ∧ Below w.heap.size w w' := by
  unfold maxLen at hm
  by_cases h1 : s.size < 1
  · have HF := Lib.hid (okS_small h1)
    go_enter Tryz.func36, Tryz.ntmps36
    go_wp2
    go_ret
    exact ⟨ret_bool HF.out.symm, by go_grown⟩
  · by_cases h2 : 100 < s.size
    · have HF := Lib.hid (okS_great h2)
      go_enter Tryz.func36, Tryz.ntmps36
      go_wp2
      go_ret
      exact ⟨ret_bool HF.out.symm, by go_grown⟩
    · have h2' : s.size ≤ 100 := by omega
      go_enter Tryz.func36, Tryz.ntmps36
      go_wp2
      have hb0 : Below w.heap.size w (w.alloc (.cells #[.string s, .bool q] 27)) := by go_grown
      go_loopw [17] (fun i wr => ∃ k : Nat, k ≤ s.size ∧ i = .int .i64 k ∧ Hid (okTo s k) ∧ Below (w.heap.size + 1) (w.alloc (.cells #[.string s, .bool q] 27)) wr) (fun i _ => s.size - (intOf i).toNat)
      case atStart => exact ⟨0, Nat.zero_le _, rfl, by unfold Hid okTo; simp, Below.refl _ _⟩
      case round =>
        obtain ⟨k, hk, rfl, HG, hbel⟩ := hrel
        by_cases hlt : k < s.size
        · have hmy := fun W => mayStand_any s[k].toNat W
          have HX := Lib.hid (seen_N s[k])
          have HM := Lib.hid (HG.out.more hlt)
          have HB := Lib.hid (okTo.bad hlt)
          have hc0 := hbel.cell (p := ⟨w.heap.size, 0, none⟩) (by show w.heap.size < w.heap.size + 1; omega)
          have hcz := hbel.size
          simp only [World.size_alloc] at hcz
          cases hq : seenN s[k].toNat with
          | false =>
            have HF : Hid (okS s = false) := HB.out (by rw [HX.out, hq])
            clear HX HM HB HG
            go_wp2_with (go_at_call 61; with_reducible refine (hmy _).mono ?_; rintro e w2 ⟨rfl, rfl⟩; rw [hq])
            go_ret
            exact ⟨ret_bool HF.out.symm, hb0.trans (hbel.mono (by simp))⟩
          | true =>
            have HK : Hid (okTo s (k + 1)) := HM.out (by rw [HX.out, hq])
            clear HX HM HB HG
            go_wp2_with (go_at_call 61; with_reducible refine (hmy _).mono ?_; rintro e w2 ⟨rfl, rfl⟩; rw [hq])
            go_roundw
            case rel => exact ⟨k + 1, by omega, by go_num, HK, hbel⟩
            case measure => simp [intOf]; omega
        · obtain rfl : k = s.size := by omega
          have HF : Hid (okS s = true) := HG.out.all (by omega) h2'
          go_wp2
          go_ret
          exact ⟨ret_bool HF.out.symm, hb0.trans (hbel.mono (by simp))⟩

set_option maxHeartbeats 1600000 in
theorem rright_any (s : ByteArray) (q : Bool) (w : World) (hm : s.size ≤ maxLen) :
    Calls Tryz.prog 40 #[.agg #[.string s, .bool q]] w fun e w' => e = .returned (.bool (okS s)) ∧ Below w.heap.size w w' := by
  unfold maxLen at hm
  by_cases h1 : s.size < 1
  · have HF := Lib.hid (okS_small h1)
    go_enter Tryz.func40, Tryz.ntmps40
    go_wp2
    go_ret
    exact ⟨ret_bool HF.out.symm, by go_grown⟩
  · by_cases h2 : 100 < s.size
    · have HF := Lib.hid (okS_great h2)
      go_enter Tryz.func40, Tryz.ntmps40
      go_wp2
      go_ret
      exact ⟨ret_bool HF.out.symm, by go_grown⟩
    · have h2' : s.size ≤ 100 := by omega
      go_enter Tryz.func40, Tryz.ntmps40
      go_wp2
      have hb0 : Below w.heap.size w (w.alloc (.cells #[.string s, .bool q] 27)) := by go_grown
      go_loopw [3] (fun i wr => ∃ k : Nat, k ≤ s.size ∧ i = .int .i64 k ∧ Hid (okTo s k) ∧ Below (w.heap.size + 1) (w.alloc (.cells #[.string s, .bool q] 27)) wr) (fun i _ => s.size - (intOf i).toNat)
      case atStart => exact ⟨0, Nat.zero_le _, rfl, by unfold Hid okTo; simp, Below.refl _ _⟩
      case round =>
        obtain ⟨k, hk, rfl, HG, hbel⟩ := hrel
        have hc0 := hbel.cell (p := ⟨w.heap.size, 0, none⟩) (by show w.heap.size < w.heap.size + 1; omega)
        have hcz := hbel.size
        simp only [World.size_alloc] at hcz
        by_cases hlt : k < s.size
        · have HX := Lib.hid (seen_N s[k])
          have HM := Lib.hid (HG.out.more hlt)
          have HB := Lib.hid (okTo.bad hlt)
          by_cases g1 : s[k].toNat < 33
          · have HF : Hid (okS s = false) := HB.out (by rw [HX.out]; unfold seenN; simp; omega)
            clear HX HM HB HG
            go_wp2
            go_ret
            exact ⟨ret_bool HF.out.symm, hb0.trans (hbel.mono (by simp))⟩
          · by_cases g2 : s[k].toNat = 34
            · have HF : Hid (okS s = false) := HB.out (by rw [HX.out]; unfold seenN; simp; omega)
              have c2 : ((s[k].toNat : Int) == 34) = true := beqi_t (by omega)
              clear HX HM HB HG
              go_wp2
              go_ret
              exact ⟨ret_bool HF.out.symm, hb0.trans (hbel.mono (by simp))⟩
            · have c2 : ((s[k].toNat : Int) == 34) = false := beqi_f (by omega)
              by_cases g3 : 126 < s[k].toNat
              · have HF : Hid (okS s = false) := HB.out (by rw [HX.out]; unfold seenN; simp; omega)
                clear HX HM HB HG
                go_wp2
                go_ret
                exact ⟨ret_bool HF.out.symm, hb0.trans (hbel.mono (by simp))⟩
              · have HK : Hid (okTo s (k + 1)) := HM.out (by rw [HX.out]; unfold seenN; simp; omega)
                clear HX HM HB HG
                go_wp2
                go_roundw
                case rel => exact ⟨k + 1, by omega, by go_num, HK, hbel⟩
                case measure => simp [intOf]; omega
        · obtain rfl : k = s.size := by omega
          have HF : Hid (okS s = true) := HG.out.all (by omega) h2'
          go_wp2
          go_ret
          exact ⟨ret_bool HF.out.symm, hb0.trans (hbel.mono (by simp))⟩
end Go.Proofs.YtomcoacndppkcaaGreatDoor.T
