/-
  The reference's trim.
-/
import Derived.Test.YtomcoacndppkcaaGreatDoorTC
namespace Go.Proofs.YtomcoacndppkcaaGreatDoor.T
open Go Go.RowKit

def blN (n : Nat) : Bool := decide (n = 32) || decide (n = 9)
theorem isB_N (x : UInt8) : isB x = blN x.toNat := by
  rw [Bool.eq_iff_iff, isB_iff]; unfold blN; simp; omega
set_option maxHeartbeats 800000 in
theorem blank_any (n : Nat) (w : World) :
    Calls Tryz.prog 82 #[.int .u8 (n : Int)] w fun e w' => e = .returned (.bool (blN n)) ∧ w = w' := by
  by_cases h1 : n = 32
  · have HF : Hid (blN n = true) := by unfold Hid blN; simp [h1]
    have c : ((n : Int) == 32) = true := by simp; omega
    go_enter Tryz.func82, Tryz.ntmps82
    go_wp2
    go_ret
    exact ⟨ret_bool HF.out.symm, rfl⟩
  · have c : ((n : Int) == 32) = false := by simp; omega
    by_cases h2 : n = 9
    · have HF : Hid (blN n = true) := by unfold Hid blN; simp [h2]
      have c : ((n : Int) == 9) = true := by simp; omega
      go_enter Tryz.func82, Tryz.ntmps82
      go_wp2
      go_ret
      exact ⟨ret_bool HF.out.symm, rfl⟩
    · have HF : Hid (blN n = false) := by unfold Hid blN; simp [h1, h2]
      have c : ((n : Int) == 9) = false := by simp; omega
      go_enter Tryz.func82, Tryz.ntmps82
      go_wp2
      go_ret
      exact ⟨ret_bool HF.out.symm, rfl⟩

def msb (v : Value) : Nat := match v with
  | .string b => b.size
  | _ => 0
/-- cut at the end -/
def TailTo (T : List UInt8) (v : Value) : Prop := ∃ b : ByteArray, v = .string b ∧ b.size ≤ 1000000 ∧ Hid (cutR b.data.toList = T)

set_option maxHeartbeats 4000000 in
theorem rtrim_any (s : ByteArray) (w : World) (hs : s.size ≤ 1000000) :
    Calls Tryz.prog 57 #[.string s] w fun e w' => e = .returned (.string ⟨(Lib.trimS s.data.toList [32, 9]).toArray⟩) ∧ w = w' := by
  rw [trim_two]
  obtain ⟨T, HT⟩ : ∃ T, Hid (cutR (cutL s.data.toList) = T) := ⟨_, rfl⟩
  rw [HT.out]
  go_enter Tryz.func57, Tryz.ntmps57
  go_wp2
  go_loop [0] (fun v => ∃ b : ByteArray, v = .string b ∧ b.size ≤ 1000000 ∧ Hid (cutR (cutL b.data.toList) = T)) (fun v => msb v)
  case atStart => exact ⟨s, rfl, hs, HT⟩
  case round =>
    obtain ⟨b, rfl, hb, HB⟩ := hrel
    by_cases hgo : ∃ h : 0 < b.size, isB b[0] = true
    · obtain ⟨hz, hx⟩ := hgo
      have HN : Hid (cutR (cutL (b.extract 1 b.size).data.toList) = T) := by
        unfold Hid; rw [← HB.out, ba_hd b hz, cutL_yes hx]
      have hsz : (b.extract 1 b.size).size = b.size - 1 := by rw [ByteArray.size_extract]; omega
      have hbl := fun W => blank_any b[0].toNat W
      rw [← isB_N, hx] at hbl
      clear HB HT hx
      go_wp2_with (go_at_call 82; with_reducible refine (hbl _).mono ?_; rintro e w1 ⟨rfl, rfl⟩)
      go_round
      case rel => exact ⟨_, rfl, by rw [hsz]; omega, HN⟩
      case measure => show (b.extract 1 b.size).size < b.size; rw [hsz]; omega
    · have HL : Hid (cutR b.data.toList = T) := by
        unfold Hid
        rw [← HB.out]
        by_cases hz : 0 < b.size
        · rw [ba_hd b hz, cutL_no (fun h => hgo ⟨hz, h⟩)]
        · rw [List.eq_nil_of_length_eq_zero (l := b.data.toList) (by rw [← Lib.size_eq]; omega)]; rfl
      have HH : Hid (∀ hz : 0 < b.size, isB b[0] = false) := fun hz => by
        cases e : isB b[0] with
        | false => rfl
        | true => exact absurd ⟨hz, e⟩ hgo
      clear hgo HB HT
      by_cases hz : b.size = 0
      · go_wp2_with fail
        go_loop [0] (TailTo T) (fun v => msb v)
        case atStart => exact ⟨b, rfl, hb, HL⟩
        case round =>
          clear hb HL
          obtain ⟨b, rfl, hb, HB⟩ := hrel
          by_cases hz : b.size = 0
          · have HF : Hid (b = ⟨T.toArray⟩) := by
              unfold Hid
              apply ba_eq
              rw [← HB.out, List.eq_nil_of_length_eq_zero (l := b.data.toList) (by rw [← Lib.size_eq]; exact hz)]; rfl
            go_wp2_with fail
            exact bodyPost_ret (v := .string b) (by simp [results, Tryz.results57, go_sem]) rfl ⟨by rw [← HF.out], rfl⟩
          · obtain ⟨n, hn⟩ : ∃ n : Nat, b.size = n + 1 := ⟨b.size - 1, by omega⟩
            have hnl : n < b.size := by omega
            have hsz : (b.extract 0 n).size = n := by rw [ByteArray.size_extract]; omega
            have d0 : (0 : Int) < (b.size : Int) := by omega
            have d1 : IntKind.i64.wrap ((b.size : Int) - 1) = (n : Int) := by rw [IntWalk.i64_in _ (by omega)]; omega
            have hbl := fun W => blank_any (b[n]'hnl).toNat W
            cases hx : isB (b[n]'hnl) with
            | true =>
              have HN : Hid (cutR (b.extract 0 n).data.toList = T) := by
                unfold Hid; rw [← HB.out, ba_tl b n hn, cutR_yes hx]
              rw [← isB_N, hx] at hbl
              clear HB hx
              go_wp2_with (go_at_call 82; with_reducible refine (hbl _).mono ?_; rintro e w1 ⟨rfl, rfl⟩)
              go_round
              case rel => exact ⟨_, rfl, by rw [hsz]; omega, HN⟩
              case measure => show (b.extract 0 n).size < b.size; rw [hsz]; omega
            | false =>
              have HF : Hid (b = ⟨T.toArray⟩) := by
                unfold Hid
                apply ba_eq
                rw [← HB.out, ba_tl b n hn, cutR_no (by rw [hx]; exact Bool.false_ne_true)]
              rw [← isB_N, hx] at hbl
              clear HB hx
              go_wp2_with (go_at_call 82; with_reducible refine (hbl _).mono ?_; rintro e w1 ⟨rfl, rfl⟩)
              exact bodyPost_ret (v := .string b) (by simp [results, Tryz.results57, go_sem]) rfl ⟨by rw [← HF.out], rfl⟩
      · have d0 : (0 : Int) < (b.size : Int) := by omega
        have hz1 : 0 < b.size := by omega
        have hbl := fun W => blank_any b[0].toNat W
        rw [← isB_N, HH.out hz1] at hbl
        clear HH hz
        go_wp2_with (go_at_call 82; with_reducible refine (hbl _).mono ?_; rintro e w1 ⟨rfl, rfl⟩)
        go_loop [0] (TailTo T) (fun v => msb v)
        case atStart => exact ⟨b, rfl, hb, HL⟩
        case round =>
          clear hb HL
          obtain ⟨b, rfl, hb, HB⟩ := hrel
          by_cases hz : b.size = 0
          · have HF : Hid (b = ⟨T.toArray⟩) := by
              unfold Hid
              apply ba_eq
              rw [← HB.out, List.eq_nil_of_length_eq_zero (l := b.data.toList) (by rw [← Lib.size_eq]; exact hz)]; rfl
            go_wp2_with fail
            exact bodyPost_ret (v := .string b) (by simp [results, Tryz.results57, go_sem]) rfl ⟨by rw [← HF.out], rfl⟩
          · obtain ⟨n, hn⟩ : ∃ n : Nat, b.size = n + 1 := ⟨b.size - 1, by omega⟩
            have hnl : n < b.size := by omega
            have hsz : (b.extract 0 n).size = n := by rw [ByteArray.size_extract]; omega
            have d0 : (0 : Int) < (b.size : Int) := by omega
            have d1 : IntKind.i64.wrap ((b.size : Int) - 1) = (n : Int) := by rw [IntWalk.i64_in _ (by omega)]; omega
            have hbl := fun W => blank_any (b[n]'hnl).toNat W
            cases hx : isB (b[n]'hnl) with
            | true =>
              have HN : Hid (cutR (b.extract 0 n).data.toList = T) := by
                unfold Hid; rw [← HB.out, ba_tl b n hn, cutR_yes hx]
              rw [← isB_N, hx] at hbl
              clear HB hx
              go_wp2_with (go_at_call 82; with_reducible refine (hbl _).mono ?_; rintro e w1 ⟨rfl, rfl⟩)
              go_round
              case rel => exact ⟨_, rfl, by rw [hsz]; omega, HN⟩
              case measure => show (b.extract 0 n).size < b.size; rw [hsz]; omega
            | false =>
              have HF : Hid (b = ⟨T.toArray⟩) := by
                unfold Hid
                apply ba_eq
                rw [← HB.out, ba_tl b n hn, cutR_no (by rw [hx]; exact Bool.false_ne_true)]
              rw [← isB_N, hx] at hbl
              clear HB hx
              go_wp2_with (go_at_call 82; with_reducible refine (hbl _).mono ?_; rintro e w1 ⟨rfl, rfl⟩)
              exact bodyPost_ret (v := .string b) (by simp [results, Tryz.results57, go_sem]) rfl ⟨by rw [← HF.out], rfl⟩
end Go.Proofs.YtomcoacndppkcaaGreatDoor.T
