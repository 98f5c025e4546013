/-
  The reference's Trim, Token, Right.
-/
import Derived.Lib.SmallJoins
import Derived.Lib.SlBytesConst
import Derived.Test.YtmlbinbhicdljaaDoorEC
namespace Go.Proofs.YtmlbinbhicdljaaDoor
open Go Go.RowKit

def blN (n : Nat) : Bool := decide (n = 32) || decide (n = 9)
theorem isB_N (x : UInt8) : isB x = blN x.toNat := by
  rw [Bool.eq_iff_iff, isB_iff]; unfold blN; simp; omega
set_option maxHeartbeats 800000 in
theorem blank_any (n : Nat) (w : World) :
    Calls Tryd.prog 68 #[.int .u8 (n : Int)] w fun e w' => e = .returned (.bool (blN n)) ∧ w = w' := by
  by_cases h1 : n = 32
  · have HF : Hid (blN n = true) := by unfold Hid blN; simp [h1]
    have c : ((n : Int) == 32) = true := by simp; omega
    go_enter Tryd.func68, Tryd.ntmps68
    go_wp2
    go_ret
    exact ⟨ret_bool HF.out.symm, rfl⟩
  · have c : ((n : Int) == 32) = false := by simp; omega
    by_cases h2 : n = 9
    · have HF : Hid (blN n = true) := by unfold Hid blN; simp [h2]
      have c : ((n : Int) == 9) = true := by simp; omega
      go_enter Tryd.func68, Tryd.ntmps68
      go_wp2
      go_ret
      exact ⟨ret_bool HF.out.symm, rfl⟩
    · have HF : Hid (blN n = false) := by unfold Hid blN; simp [h1, h2]
      have c : ((n : Int) == 9) = false := by simp; omega
      go_enter Tryd.func68, Tryd.ntmps68
      go_wp2
      go_ret
      exact ⟨ret_bool HF.out.symm, rfl⟩

def msb (v : Value) : Nat := match v with
  | .string b => b.size
  | _ => 0
/-- cut at the end -/
def TailTo (T : List UInt8) (v : Value) : Prop := ∃ b : ByteArray, v = .string b ∧ b.size ≤ 1000000 ∧ Hid (cutR b.data.toList = T)

set_option maxHeartbeats 4000000 in
theorem rtrim_any (s : ByteArray) (w : World) (hs : s.size ≤ 1000000) :
    Calls Tryd.prog 47 #[.string s] w fun e w' => e = .returned (.string ⟨(Lib.trimS s.data.toList [32, 9]).toArray⟩) ∧ w = w' := by
  rw [trim_two]
  obtain ⟨T, HT⟩ : ∃ T, Hid (cutR (cutL s.data.toList) = T) := ⟨_, rfl⟩
  rw [HT.out]
  go_enter Tryd.func47, Tryd.ntmps47
  go_wp2
  go_loop [0] (fun v => ∃ b : ByteArray, v = .string b ∧ b.size ≤ 1000000 ∧ Hid (cutR (cutL b.data.toList) = T)) (fun v => msb v)
  case atStart => exact ⟨s, rfl, hs, HT⟩
  case round =>
    obtain ⟨b, rfl, hb, HB⟩ := hrel
    by_cases hgo : ∃ h : 0 < b.size, isB b[0] = true
    · obtain ⟨hz, hx⟩ := hgo
      have HN : Hid (cutR (cutL (b.extract 1 b.size).data.toList) = T) := by
        unfold Hid; rw [← HB.out, ba_hd b hz, cutL_yes hx]
      have hsz : (b.extract 1 b.size).size = b.size - 1 := by rw [ByteArray.size_extract]; omega
      have hbl := fun W => blank_any b[0].toNat W
      rw [← isB_N, hx] at hbl
      clear HB HT hx
      go_wp2_with (go_at_call 68; with_reducible refine (hbl _).mono ?_; rintro e w1 ⟨rfl, rfl⟩)
      go_round
      case rel => exact ⟨_, rfl, by rw [hsz]; omega, HN⟩
      case measure => show (b.extract 1 b.size).size < b.size; rw [hsz]; omega
    · have HL : Hid (cutR b.data.toList = T) := by
        unfold Hid
        rw [← HB.out]
        by_cases hz : 0 < b.size
        · rw [ba_hd b hz, cutL_no (fun h => hgo ⟨hz, h⟩)]
        · rw [List.eq_nil_of_length_eq_zero (l := b.data.toList) (by rw [← Lib.size_eq]; omega)]; rfl
      have HH : Hid (∀ hz : 0 < b.size, isB b[0] = false) := fun hz => by
        cases e : isB b[0] with
        | false => rfl
        | true => exact absurd ⟨hz, e⟩ hgo
      clear hgo HB HT
      by_cases hz : b.size = 0
      · go_wp2_with fail
        go_loop [0] (TailTo T) (fun v => msb v)
        case atStart => exact ⟨b, rfl, hb, HL⟩
        case round =>
          clear hb HL
          obtain ⟨b, rfl, hb, HB⟩ := hrel
          by_cases hz : b.size = 0
          · have HF : Hid (b = ⟨T.toArray⟩) := by
              unfold Hid
              apply ba_eq
              rw [← HB.out, List.eq_nil_of_length_eq_zero (l := b.data.toList) (by rw [← Lib.size_eq]; exact hz)]; rfl
            go_wp2_with fail
            exact bodyPost_ret (v := .string b) (by simp [results, Tryd.results47, go_sem]) rfl ⟨by rw [← HF.out], rfl⟩
          · obtain ⟨n, hn⟩ : ∃ n : Nat, b.size = n + 1 := ⟨b.size - 1, by omega⟩
            have hnl : n < b.size := by omega
            have hsz : (b.extract 0 n).size = n := by rw [ByteArray.size_extract]; omega
            have d0 : (0 : Int) < (b.size : Int) := by omega
            have d1 : IntKind.i64.wrap ((b.size : Int) - 1) = (n : Int) := by rw [IntWalk.i64_in _ (by omega)]; omega
            have hbl := fun W => blank_any (b[n]'hnl).toNat W
            cases hx : isB (b[n]'hnl) with
            | true =>
              have HN : Hid (cutR (b.extract 0 n).data.toList = T) := by
                unfold Hid; rw [← HB.out, ba_tl b n hn, cutR_yes hx]
              rw [← isB_N, hx] at hbl
              clear HB hx
              go_wp2_with (go_at_call 68; with_reducible refine (hbl _).mono ?_; rintro e w1 ⟨rfl, rfl⟩)
              go_round
              case rel => exact ⟨_, rfl, by rw [hsz]; omega, HN⟩
              case measure => show (b.extract 0 n).size < b.size; rw [hsz]; omega
            | false =>
              have HF : Hid (b = ⟨T.toArray⟩) := by
                unfold Hid
                apply ba_eq
                rw [← HB.out, ba_tl b n hn, cutR_no (by rw [hx]; exact Bool.false_ne_true)]
              rw [← isB_N, hx] at hbl
              clear HB hx
              go_wp2_with (go_at_call 68; with_reducible refine (hbl _).mono ?_; rintro e w1 ⟨rfl, rfl⟩)
              exact bodyPost_ret (v := .string b) (by simp [results, Tryd.results47, go_sem]) rfl ⟨by rw [← HF.out], rfl⟩
      · have d0 : (0 : Int) < (b.size : Int) := by omega
        have hz1 : 0 < b.size := by omega
        have hbl := fun W => blank_any b[0].toNat W
        rw [← isB_N, HH.out hz1] at hbl
        clear HH hz
        go_wp2_with (go_at_call 68; with_reducible refine (hbl _).mono ?_; rintro e w1 ⟨rfl, rfl⟩)
        go_loop [0] (TailTo T) (fun v => msb v)
        case atStart => exact ⟨b, rfl, hb, HL⟩
        case round =>
          clear hb HL
          obtain ⟨b, rfl, hb, HB⟩ := hrel
          by_cases hz : b.size = 0
          · have HF : Hid (b = ⟨T.toArray⟩) := by
              unfold Hid
              apply ba_eq
              rw [← HB.out, List.eq_nil_of_length_eq_zero (l := b.data.toList) (by rw [← Lib.size_eq]; exact hz)]; rfl
            go_wp2_with fail
            exact bodyPost_ret (v := .string b) (by simp [results, Tryd.results47, go_sem]) rfl ⟨by rw [← HF.out], rfl⟩
          · obtain ⟨n, hn⟩ : ∃ n : Nat, b.size = n + 1 := ⟨b.size - 1, by omega⟩
            have hnl : n < b.size := by omega
            have hsz : (b.extract 0 n).size = n := by rw [ByteArray.size_extract]; omega
            have d0 : (0 : Int) < (b.size : Int) := by omega
            have d1 : IntKind.i64.wrap ((b.size : Int) - 1) = (n : Int) := by rw [IntWalk.i64_in _ (by omega)]; omega
            have hbl := fun W => blank_any (b[n]'hnl).toNat W
            cases hx : isB (b[n]'hnl) with
            | true =>
              have HN : Hid (cutR (b.extract 0 n).data.toList = T) := by
                unfold Hid; rw [← HB.out, ba_tl b n hn, cutR_yes hx]
              rw [← isB_N, hx] at hbl
              clear HB hx
              go_wp2_with (go_at_call 68; with_reducible refine (hbl _).mono ?_; rintro e w1 ⟨rfl, rfl⟩)
              go_round
              case rel => exact ⟨_, rfl, by rw [hsz]; omega, HN⟩
              case measure => show (b.extract 0 n).size < b.size; rw [hsz]; omega
            | false =>
              have HF : Hid (b = ⟨T.toArray⟩) := by
                unfold Hid
                apply ba_eq
                rw [← HB.out, ba_tl b n hn, cutR_no (by rw [hx]; exact Bool.false_ne_true)]
              rw [← isB_N, hx] at hbl
              clear HB hx
              go_wp2_with (go_at_call 68; with_reducible refine (hbl _).mono ?_; rintro e w1 ⟨rfl, rfl⟩)
              exact bodyPost_ret (v := .string b) (by simp [results, Tryd.results47, go_sem]) rfl ⟨by rw [← HF.out], rfl⟩

/-- the part of a token's bytes that the reference asks first -/
def baseN (n : Nat) : Bool := decide (48 ≤ n ∧ n ≤ 57) || decide (65 ≤ n ∧ n ≤ 90) || decide (97 ≤ n ∧ n ≤ 122)
theorem tokN_base (n : Nat) : tokN n = (baseN n || markL.any fun x => decide (x.toNat = n)) := rfl
abbrev mkC : Array Value := #[.int .u8 33, .int .u8 35, .int .u8 36, .int .u8 37, .int .u8 38, .int .u8 39, .int .u8 42, .int .u8 43, .int .u8 45, .int .u8 46, .int .u8 94, .int .u8 95, .int .u8 96, .int .u8 124, .int .u8 126]
theorem mkC_at : ∀ j (h : j < markL.length), mkC[j]? = some (.int .u8 (markL[j].toNat : Int)) := by
  intro j h
  have : j < 15 := h
  match j, this with
  | 0, _ => rfl
  | 1, _ => rfl
  | 2, _ => rfl
  | 3, _ => rfl
  | 4, _ => rfl
  | 5, _ => rfl
  | 6, _ => rfl
  | 7, _ => rfl
  | 8, _ => rfl
  | 9, _ => rfl
  | 10, _ => rfl
  | 11, _ => rfl
  | 12, _ => rfl
  | 13, _ => rfl
  | 14, _ => rfl
def markTo (n j : Nat) : Bool := (markL.take j).any fun x => decide (x.toNat = n)
theorem markTo_more {n j : Nat} (h : j < markL.length) : markTo n (j + 1) = (markTo n j || decide (markL[j].toNat = n)) := by
  unfold markTo; rw [List.take_succ_eq_append_getElem h, List.any_append]; simp
theorem markTo_all (n : Nat) : markTo n 15 = markL.any fun x => decide (x.toNat = n) := by
  unfold markTo; rw [List.take_of_length_le (by decide)]
theorem tokS_all {s : ByteArray} (h : AllTo tokN s s.size) : tokS s = decide (0 < s.size) := by
  unfold tokS; rw [h.all, Bool.and_true]; rfl
theorem tokS_bad {s : ByteArray} {k : Nat} (hk : k < s.size) (hx : tokN s[k].toNat = false) : tokS s = false := by
  unfold tokS; rw [AllTo.bad hk hx, Bool.and_false]

set_option maxHeartbeats 8000000 in
set_option maxRecDepth 20000 in
theorem rtoken_any (s : ByteArray) (w : World) (hm : s.size ≤ szM) :
    Calls Tryd.prog 46 #[.string s] w fun e w' => e = .returned (.bool (tokS s)) ∧ Below w.heap.size w w' := by
  unfold szM at hm
  go_enter Tryd.func46, Tryd.ntmps46
  go_wp2
  go_loopw [3] (fun i wr => ∃ k : Nat, k ≤ s.size ∧ i = .int .i64 k ∧ Hid (AllTo tokN s k) ∧ Below w.heap.size w wr) (fun i _ => s.size - (intOf i).toNat)
  case atStart => exact ⟨0, Nat.zero_le _, rfl, AllTo.zero _ _, Below.refl _ _⟩
  case round =>
    obtain ⟨k, hk, rfl, HG, hbel⟩ := hrel
    by_cases hlt : k < s.size
    · have HM := Lib.hid (HG.out.more hlt)
      have HB := Lib.hid (tokS_bad hlt)
      have HX : Hid (tokN s[k].toNat = (baseN s[k].toNat || markTo s[k].toNat 15)) := by unfold Hid; rw [tokN_base, markTo_all]
      have hn := u8_lt s[k]
      clear HG
      have kc := Lib.run_convert_bytes_const (P := Tryd.prog) wr 61 5 mkC 15 15 Tryd.underlying61 Tryd.underlying5
      obtain ⟨w2, hw2⟩ : ∃ w2, Hid (w2 = wr.alloc (.cells mkC 5 (mkC.size, mkC.size + 1))) := ⟨_, rfl⟩
      have hcs : Hid (∀ j (h : j < markL.length), w2.cell? ⟨wr.heap.size, j, none⟩ = some (.int .u8 (markL[j].toNat : Int))) := by
        unfold Hid; intro j h; rw [hw2.out, World.cell?_alloc_mark]; exact mkC_at j h
      have hb2 : Below w.heap.size w w2 := by rw [hw2.out]; exact hbel.alloc hbel.size _
      have hz2 : wr.heap.size < w2.heap.size := by rw [hw2.out]; simp
      rw [← hw2.out] at kc
      clear hw2
      generalize hx : s[k].toNat = n at *
      rcases (show n < 48 ∨ (48 ≤ n ∧ n ≤ 57) ∨ (58 ≤ n ∧ n < 65) ∨ (65 ≤ n ∧ n ≤ 90) ∨ (91 ≤ n ∧ n < 97) ∨ (97 ≤ n ∧ n ≤ 122) ∨ 122 < n from by omega) with h | ⟨h, h0⟩ | ⟨h, h0⟩ | ⟨h, h0⟩ | ⟨h, h0⟩ | ⟨h, h0⟩ | h
      · have HQ : Hid (baseN n = false) := by unfold Hid baseN; simp <;> omega
        have q0 : ¬ 48 ≤ n := by omega
        have q1 : n ≤ 57 := by omega
        have q2 : ¬ 65 ≤ n := by omega
        have q3 : n ≤ 90 := by omega
        have q4 : ¬ 97 ≤ n := by omega
        have q5 : n ≤ 122 := by omega
        have HF : markTo n 15 = false → Hid (tokS s = false) := fun e => HB.out (by rw [HX.out, HQ.out, e]; rfl)
        have HF2 := Lib.hid HF
        have HK : markTo n 15 = true → Hid (AllTo tokN s (k + 1)) := fun e => HM.out (by rw [HX.out, HQ.out, e]; rfl)
        have HK2 := Lib.hid HK
        clear HM HB HX HQ HF HK
        go_wp2
        go_loopw [42, 5] (fun vj vo wr => ∃ (j : Nat), j ≤ 15 ∧ vj = .int .i64 j ∧ vo = .bool (markTo n j) ∧ wr = w2) (fun vj _ _ => 15 - (intOf vj).toNat)
        case atStart => exact ⟨0, Nat.zero_le _, rfl, by first | rfl | (simp [markTo]; omega) | simp [markTo], by first | rfl | trivial⟩
        case round =>
          obtain ⟨j, hj, rfl, rfl, hww⟩ := hrel
          subst hww
          by_cases hjl : j < 15
          · have cj := hcs.out j hjl
            have HJ := Lib.hid (markTo_more (n := n) (j := j) hjl)
            generalize markL[j].toNat = m at *
            cases hq : markTo n j with
            | true =>
              have HV : Hid (markTo n (j + 1) = true) := by unfold Hid; rw [HJ.out, hq]; rfl
              clear HJ hq
              go_wp2
              go_roundw
              case rel => exact ⟨j + 1, by omega, by go_num, by rw [HV.out], by first | rfl | trivial⟩
              case measure => simp [intOf]; omega
            | false =>
              by_cases e : n = m
              · have HV : Hid (markTo n (j + 1) = true) := by unfold Hid; rw [HJ.out, hq, decide_eq_true e.symm]; rfl
                have b1 : ((n : Int) == (m : Int)) = true := beqi_t (by omega)
                clear HJ hq e
                go_wp2
                go_roundw
                case rel => exact ⟨j + 1, by omega, by go_num, by rw [HV.out], by first | rfl | trivial⟩
                case measure => simp [intOf]; omega
              · have HV : Hid (markTo n (j + 1) = false) := by unfold Hid; rw [HJ.out, hq, decide_eq_false (fun q => e q.symm)]; rfl
                have b1 : ((n : Int) == (m : Int)) = false := beqi_f (by omega)
                clear HJ hq e
                go_wp2
                go_roundw
                case rel => exact ⟨j + 1, by omega, by go_num, by rw [HV.out], by first | rfl | trivial⟩
                case measure => simp [intOf]; omega
          · obtain rfl : j = 15 := by omega
            cases hq : markTo n 15 with
            | true =>
              have HK := HK2.out hq
              clear hq HF2 HK2
              go_wp2
              go_roundw
              case rel => exact ⟨k + 1, by omega, by go_num, HK, hb2⟩
              case measure => simp [intOf]; omega
            | false =>
              have HF := HF2.out hq
              clear hq HF2 HK2
              go_wp2
              go_ret
              exact ⟨ret_bool HF.out.symm, hb2⟩
      · have HQ : Hid (baseN n = true) := by unfold Hid baseN; simp <;> omega
        have q0 : 48 ≤ n := by omega
        have q1 : n ≤ 57 := by omega
        have q2 : ¬ 65 ≤ n := by omega
        have q3 : n ≤ 90 := by omega
        have q4 : ¬ 97 ≤ n := by omega
        have q5 : n ≤ 122 := by omega
        have HK : Hid (AllTo tokN s (k + 1)) := HM.out (by rw [HX.out, HQ.out]; rfl)
        clear HM HB HX HQ
        go_wp2
        go_loopw [42, 5] (fun vj vo wr => ∃ (j : Nat), j ≤ 15 ∧ vj = .int .i64 j ∧ vo = .bool true ∧ wr = w2) (fun vj _ _ => 15 - (intOf vj).toNat)
        case atStart => exact ⟨0, Nat.zero_le _, rfl, by first | rfl | (simp; omega) | simp, by first | rfl | trivial⟩
        case round =>
          obtain ⟨j, hj, rfl, rfl, hww⟩ := hrel
          subst hww
          by_cases hjl : j < 15
          · have cj := hcs.out j hjl
            generalize markL[j].toNat = m at *
            go_wp2
            go_roundw
            case rel => exact ⟨j + 1, by omega, by go_num, rfl, by first | rfl | trivial⟩
            case measure => simp [intOf]; omega
          · obtain rfl : j = 15 := by omega
            go_wp2
            go_roundw
            case rel => exact ⟨k + 1, by omega, by go_num, HK, hb2⟩
            case measure => simp [intOf]; omega
      · have HQ : Hid (baseN n = false) := by unfold Hid baseN; simp <;> omega
        have q0 : 48 ≤ n := by omega
        have q1 : ¬ n ≤ 57 := by omega
        have q2 : ¬ 65 ≤ n := by omega
        have q3 : n ≤ 90 := by omega
        have q4 : ¬ 97 ≤ n := by omega
        have q5 : n ≤ 122 := by omega
        have HF : markTo n 15 = false → Hid (tokS s = false) := fun e => HB.out (by rw [HX.out, HQ.out, e]; rfl)
        have HF2 := Lib.hid HF
        have HK : markTo n 15 = true → Hid (AllTo tokN s (k + 1)) := fun e => HM.out (by rw [HX.out, HQ.out, e]; rfl)
        have HK2 := Lib.hid HK
        clear HM HB HX HQ HF HK
        go_wp2
        go_loopw [42, 5] (fun vj vo wr => ∃ (j : Nat), j ≤ 15 ∧ vj = .int .i64 j ∧ vo = .bool (markTo n j) ∧ wr = w2) (fun vj _ _ => 15 - (intOf vj).toNat)
        case atStart => exact ⟨0, Nat.zero_le _, rfl, by first | rfl | (simp [markTo]; omega) | simp [markTo], by first | rfl | trivial⟩
        case round =>
          obtain ⟨j, hj, rfl, rfl, hww⟩ := hrel
          subst hww
          by_cases hjl : j < 15
          · have cj := hcs.out j hjl
            have HJ := Lib.hid (markTo_more (n := n) (j := j) hjl)
            generalize markL[j].toNat = m at *
            cases hq : markTo n j with
            | true =>
              have HV : Hid (markTo n (j + 1) = true) := by unfold Hid; rw [HJ.out, hq]; rfl
              clear HJ hq
              go_wp2
              go_roundw
              case rel => exact ⟨j + 1, by omega, by go_num, by rw [HV.out], by first | rfl | trivial⟩
              case measure => simp [intOf]; omega
            | false =>
              by_cases e : n = m
              · have HV : Hid (markTo n (j + 1) = true) := by unfold Hid; rw [HJ.out, hq, decide_eq_true e.symm]; rfl
                have b1 : ((n : Int) == (m : Int)) = true := beqi_t (by omega)
                clear HJ hq e
                go_wp2
                go_roundw
                case rel => exact ⟨j + 1, by omega, by go_num, by rw [HV.out], by first | rfl | trivial⟩
                case measure => simp [intOf]; omega
              · have HV : Hid (markTo n (j + 1) = false) := by unfold Hid; rw [HJ.out, hq, decide_eq_false (fun q => e q.symm)]; rfl
                have b1 : ((n : Int) == (m : Int)) = false := beqi_f (by omega)
                clear HJ hq e
                go_wp2
                go_roundw
                case rel => exact ⟨j + 1, by omega, by go_num, by rw [HV.out], by first | rfl | trivial⟩
                case measure => simp [intOf]; omega
          · obtain rfl : j = 15 := by omega
            cases hq : markTo n 15 with
            | true =>
              have HK := HK2.out hq
              clear hq HF2 HK2
              go_wp2
              go_roundw
              case rel => exact ⟨k + 1, by omega, by go_num, HK, hb2⟩
              case measure => simp [intOf]; omega
            | false =>
              have HF := HF2.out hq
              clear hq HF2 HK2
              go_wp2
              go_ret
              exact ⟨ret_bool HF.out.symm, hb2⟩
      · have HQ : Hid (baseN n = true) := by unfold Hid baseN; simp <;> omega
        have q0 : 48 ≤ n := by omega
        have q1 : ¬ n ≤ 57 := by omega
        have q2 : 65 ≤ n := by omega
        have q3 : n ≤ 90 := by omega
        have q4 : ¬ 97 ≤ n := by omega
        have q5 : n ≤ 122 := by omega
        have HK : Hid (AllTo tokN s (k + 1)) := HM.out (by rw [HX.out, HQ.out]; rfl)
        clear HM HB HX HQ
        go_wp2
        go_loopw [42, 5] (fun vj vo wr => ∃ (j : Nat), j ≤ 15 ∧ vj = .int .i64 j ∧ vo = .bool true ∧ wr = w2) (fun vj _ _ => 15 - (intOf vj).toNat)
        case atStart => exact ⟨0, Nat.zero_le _, rfl, by first | rfl | (simp; omega) | simp, by first | rfl | trivial⟩
        case round =>
          obtain ⟨j, hj, rfl, rfl, hww⟩ := hrel
          subst hww
          by_cases hjl : j < 15
          · have cj := hcs.out j hjl
            generalize markL[j].toNat = m at *
            go_wp2
            go_roundw
            case rel => exact ⟨j + 1, by omega, by go_num, rfl, by first | rfl | trivial⟩
            case measure => simp [intOf]; omega
          · obtain rfl : j = 15 := by omega
            go_wp2
            go_roundw
            case rel => exact ⟨k + 1, by omega, by go_num, HK, hb2⟩
            case measure => simp [intOf]; omega
      · have HQ : Hid (baseN n = false) := by unfold Hid baseN; simp <;> omega
        have q0 : 48 ≤ n := by omega
        have q1 : ¬ n ≤ 57 := by omega
        have q2 : 65 ≤ n := by omega
        have q3 : ¬ n ≤ 90 := by omega
        have q4 : ¬ 97 ≤ n := by omega
        have q5 : n ≤ 122 := by omega
        have HF : markTo n 15 = false → Hid (tokS s = false) := fun e => HB.out (by rw [HX.out, HQ.out, e]; rfl)
        have HF2 := Lib.hid HF
        have HK : markTo n 15 = true → Hid (AllTo tokN s (k + 1)) := fun e => HM.out (by rw [HX.out, HQ.out, e]; rfl)
        have HK2 := Lib.hid HK
        clear HM HB HX HQ HF HK
        go_wp2
        go_loopw [42, 5] (fun vj vo wr => ∃ (j : Nat), j ≤ 15 ∧ vj = .int .i64 j ∧ vo = .bool (markTo n j) ∧ wr = w2) (fun vj _ _ => 15 - (intOf vj).toNat)
        case atStart => exact ⟨0, Nat.zero_le _, rfl, by first | rfl | (simp [markTo]; omega) | simp [markTo], by first | rfl | trivial⟩
        case round =>
          obtain ⟨j, hj, rfl, rfl, hww⟩ := hrel
          subst hww
          by_cases hjl : j < 15
          · have cj := hcs.out j hjl
            have HJ := Lib.hid (markTo_more (n := n) (j := j) hjl)
            generalize markL[j].toNat = m at *
            cases hq : markTo n j with
            | true =>
              have HV : Hid (markTo n (j + 1) = true) := by unfold Hid; rw [HJ.out, hq]; rfl
              clear HJ hq
              go_wp2
              go_roundw
              case rel => exact ⟨j + 1, by omega, by go_num, by rw [HV.out], by first | rfl | trivial⟩
              case measure => simp [intOf]; omega
            | false =>
              by_cases e : n = m
              · have HV : Hid (markTo n (j + 1) = true) := by unfold Hid; rw [HJ.out, hq, decide_eq_true e.symm]; rfl
                have b1 : ((n : Int) == (m : Int)) = true := beqi_t (by omega)
                clear HJ hq e
                go_wp2
                go_roundw
                case rel => exact ⟨j + 1, by omega, by go_num, by rw [HV.out], by first | rfl | trivial⟩
                case measure => simp [intOf]; omega
              · have HV : Hid (markTo n (j + 1) = false) := by unfold Hid; rw [HJ.out, hq, decide_eq_false (fun q => e q.symm)]; rfl
                have b1 : ((n : Int) == (m : Int)) = false := beqi_f (by omega)
                clear HJ hq e
                go_wp2
                go_roundw
                case rel => exact ⟨j + 1, by omega, by go_num, by rw [HV.out], by first | rfl | trivial⟩
                case measure => simp [intOf]; omega
          · obtain rfl : j = 15 := by omega
            cases hq : markTo n 15 with
            | true =>
              have HK := HK2.out hq
              clear hq HF2 HK2
              go_wp2
              go_roundw
              case rel => exact ⟨k + 1, by omega, by go_num, HK, hb2⟩
              case measure => simp [intOf]; omega
            | false =>
              have HF := HF2.out hq
              clear hq HF2 HK2
              go_wp2
              go_ret
              exact ⟨ret_bool HF.out.symm, hb2⟩
      · have HQ : Hid (baseN n = true) := by unfold Hid baseN; simp <;> omega
        have q0 : 48 ≤ n := by omega
        have q1 : ¬ n ≤ 57 := by omega
        have q2 : 65 ≤ n := by omega
        have q3 : ¬ n ≤ 90 := by omega
        have q4 : 97 ≤ n := by omega
        have q5 : n ≤ 122 := by omega
        have HK : Hid (AllTo tokN s (k + 1)) := HM.out (by rw [HX.out, HQ.out]; rfl)
        clear HM HB HX HQ
        go_wp2
        go_loopw [42, 5] (fun vj vo wr => ∃ (j : Nat), j ≤ 15 ∧ vj = .int .i64 j ∧ vo = .bool true ∧ wr = w2) (fun vj _ _ => 15 - (intOf vj).toNat)
        case atStart => exact ⟨0, Nat.zero_le _, rfl, by first | rfl | (simp; omega) | simp, by first | rfl | trivial⟩
        case round =>
          obtain ⟨j, hj, rfl, rfl, hww⟩ := hrel
          subst hww
          by_cases hjl : j < 15
          · have cj := hcs.out j hjl
            generalize markL[j].toNat = m at *
            go_wp2
            go_roundw
            case rel => exact ⟨j + 1, by omega, by go_num, rfl, by first | rfl | trivial⟩
            case measure => simp [intOf]; omega
          · obtain rfl : j = 15 := by omega
            go_wp2
            go_roundw
            case rel => exact ⟨k + 1, by omega, by go_num, HK, hb2⟩
            case measure => simp [intOf]; omega
      · have HQ : Hid (baseN n = false) := by unfold Hid baseN; simp <;> omega
        have q0 : 48 ≤ n := by omega
        have q1 : ¬ n ≤ 57 := by omega
        have q2 : 65 ≤ n := by omega
        have q3 : ¬ n ≤ 90 := by omega
        have q4 : 97 ≤ n := by omega
        have q5 : ¬ n ≤ 122 := by omega
        have HF : markTo n 15 = false → Hid (tokS s = false) := fun e => HB.out (by rw [HX.out, HQ.out, e]; rfl)
        have HF2 := Lib.hid HF
        have HK : markTo n 15 = true → Hid (AllTo tokN s (k + 1)) := fun e => HM.out (by rw [HX.out, HQ.out, e]; rfl)
        have HK2 := Lib.hid HK
        clear HM HB HX HQ HF HK
        go_wp2
        go_loopw [42, 5] (fun vj vo wr => ∃ (j : Nat), j ≤ 15 ∧ vj = .int .i64 j ∧ vo = .bool (markTo n j) ∧ wr = w2) (fun vj _ _ => 15 - (intOf vj).toNat)
        case atStart => exact ⟨0, Nat.zero_le _, rfl, by first | rfl | (simp [markTo]; omega) | simp [markTo], by first | rfl | trivial⟩
        case round =>
          obtain ⟨j, hj, rfl, rfl, hww⟩ := hrel
          subst hww
          by_cases hjl : j < 15
          · have cj := hcs.out j hjl
            have HJ := Lib.hid (markTo_more (n := n) (j := j) hjl)
            generalize markL[j].toNat = m at *
            cases hq : markTo n j with
            | true =>
              have HV : Hid (markTo n (j + 1) = true) := by unfold Hid; rw [HJ.out, hq]; rfl
              clear HJ hq
              go_wp2
              go_roundw
              case rel => exact ⟨j + 1, by omega, by go_num, by rw [HV.out], by first | rfl | trivial⟩
              case measure => simp [intOf]; omega
            | false =>
              by_cases e : n = m
              · have HV : Hid (markTo n (j + 1) = true) := by unfold Hid; rw [HJ.out, hq, decide_eq_true e.symm]; rfl
                have b1 : ((n : Int) == (m : Int)) = true := beqi_t (by omega)
                clear HJ hq e
                go_wp2
                go_roundw
                case rel => exact ⟨j + 1, by omega, by go_num, by rw [HV.out], by first | rfl | trivial⟩
                case measure => simp [intOf]; omega
              · have HV : Hid (markTo n (j + 1) = false) := by unfold Hid; rw [HJ.out, hq, decide_eq_false (fun q => e q.symm)]; rfl
                have b1 : ((n : Int) == (m : Int)) = false := beqi_f (by omega)
                clear HJ hq e
                go_wp2
                go_roundw
                case rel => exact ⟨j + 1, by omega, by go_num, by rw [HV.out], by first | rfl | trivial⟩
                case measure => simp [intOf]; omega
          · obtain rfl : j = 15 := by omega
            cases hq : markTo n 15 with
            | true =>
              have HK := HK2.out hq
              clear hq HF2 HK2
              go_wp2
              go_roundw
              case rel => exact ⟨k + 1, by omega, by go_num, HK, hb2⟩
              case measure => simp [intOf]; omega
            | false =>
              have HF := HF2.out hq
              clear hq HF2 HK2
              go_wp2
              go_ret
              exact ⟨ret_bool HF.out.symm, hb2⟩
    · obtain rfl : k = s.size := by omega
      have HF := Lib.hid (tokS_all HG.out)
      clear HG
      go_wp2
      go_ret
      exact ⟨ret_bool (by rw [HF.out]), hbel⟩
end Go.Proofs.YtmlbinbhicdljaaDoor
