/-
  The reference's bare: Trim of blanks and tabs.
-/
import Derived.Test.YtdmkfleiipfbgaaDoorPF
namespace Go.Proofs.YtdmkfleiipfbgaaDoor
open Go Go.RowKit

abbrev isB (x : UInt8) : Bool := ([32, 9] : List UInt8).contains x
abbrev cutL (l : List UInt8) : List UInt8 := l.dropWhile isB
abbrev cutR (l : List UInt8) : List UInt8 := (l.reverse.dropWhile isB).reverse
theorem isB_iff (x : UInt8) : isB x = true ↔ (x.toNat : Int) = 32 ∨ (x.toNat : Int) = 9 := by
  have h32 : x = 32 ↔ (x.toNat : Int) = 32 := by
    rw [← UInt8.toNat_inj]; show x.toNat = 32 ↔ _; omega
  have h9 : x = 9 ↔ (x.toNat : Int) = 9 := by
    rw [← UInt8.toNat_inj]; show x.toNat = 9 ↔ _; omega
  rw [← h32, ← h9]
  simp [isB]
theorem cutR_cons (x : UInt8) (l : List UInt8) : cutR (x :: l) = if cutR l = [] then (if isB x = true then [] else [x]) else x :: cutR l := by
  unfold cutR
  rw [List.reverse_cons, List.dropWhile_append]
  by_cases h : l.reverse.dropWhile isB = []
  · rw [h]
    rw [if_pos (by simp), if_pos (by simp), List.dropWhile_cons]
    by_cases hx : isB x = true
    · rw [if_pos hx, if_pos hx]; rfl
    · rw [if_neg hx, if_neg hx]; rfl
  · rw [if_neg (by simpa using h), if_neg (by simpa using h)]
    simp
theorem cut_comm : ∀ l : List UInt8, cutL (cutR l) = cutR (cutL l)
  | [] => rfl
  | x :: l => by
    have ih := cut_comm l
    rw [cutR_cons]
    by_cases hx : isB x = true
    · have e : cutL (x :: l) = cutL l := by unfold cutL; rw [List.dropWhile_cons, if_pos hx]
      rw [e, ← ih]
      by_cases h : cutR l = []
      · rw [if_pos h, if_pos hx, h]
      · rw [if_neg h]
        unfold cutL
        rw [List.dropWhile_cons, if_pos hx]
    · have e : cutL (x :: l) = x :: l := by unfold cutL; rw [List.dropWhile_cons, if_neg hx]
      rw [e, cutR_cons]
      by_cases h : cutR l = []
      · rw [if_pos h, if_neg hx]
        unfold cutL
        rw [List.dropWhile_cons, if_neg hx]
      · rw [if_neg h]
        unfold cutL
        rw [List.dropWhile_cons, if_neg hx]
theorem trim_two (l : List UInt8) : Lib.trimS l [32, 9] = cutR (cutL l) := by
  first
    | rfl
    | (rw [← cut_comm]; rfl)
theorem cutL_yes {x : UInt8} (h : isB x = true) (r : List UInt8) : cutL (x :: r) = cutL r := by
  unfold cutL; rw [List.dropWhile_cons, if_pos h]
theorem cutL_no {x : UInt8} (h : ¬ isB x = true) (r : List UInt8) : cutL (x :: r) = x :: r := by
  unfold cutL; rw [List.dropWhile_cons, if_neg h]
theorem cutR_yes {x : UInt8} (h : isB x = true) (r : List UInt8) : cutR (r ++ [x]) = cutR r := by
  unfold cutR; rw [List.reverse_append, List.reverse_singleton, List.singleton_append, List.dropWhile_cons, if_pos h]
theorem cutR_no {x : UInt8} (h : ¬ isB x = true) (r : List UInt8) : cutR (r ++ [x]) = r ++ [x] := by
  unfold cutR; rw [List.reverse_append, List.reverse_singleton, List.singleton_append, List.dropWhile_cons, if_neg h]; simp
theorem ba_hd (b : ByteArray) (h : 0 < b.size) : b.data.toList = b[0] :: (b.extract 1 b.size).data.toList := by
  have e2 : (b.extract 1 b.size).data.toList = b.data.toList.drop 1 := by
    rw [ByteArray.data_extract]; show (b.data.extract 1 b.data.size).toList = _; simp; exact List.take_of_length_le (by rw [List.length_tail, ← Lib.size_eq]; omega)
  rw [e2]
  have := drop_at4 b 0 h
  simpa using this
theorem ba_tl (b : ByteArray) (n : Nat) (h : b.size = n + 1) : b.data.toList = (b.extract 0 n).data.toList ++ [b[n]'(by omega)] := by
  have e1 : (b.extract 0 n).data.toList = b.data.toList.take n := by
    rw [ByteArray.data_extract]; simp
  rw [e1]
  have h2 := List.take_append_drop n b.data.toList
  rw [drop_at4 b n (by omega), List.drop_eq_nil_of_le (by rw [← Lib.size_eq]; omega)] at h2
  exact h2.symm
theorem ba_eq {b : ByteArray} {l : List UInt8} (h : b.data.toList = l) : b = ⟨l.toArray⟩ := by
  cases b with | mk d => subst h; rfl
theorem beqi_t {a b : Int} (h : a = b) : (a == b) = true := by simpa using h
theorem beqi_f {a b : Int} (h : a ≠ b) : (a == b) = false := by simpa using h

def msb (v : Value) : Nat := match v with
  | .string b => b.size
  | _ => 0
set_option maxHeartbeats 4000000 in
theorem bare_any (s : ByteArray) (w : World) (hs : s.size ≤ 1000000) :
    Calls Tryd.prog 42 #[.string s] w fun e w' => e = .returned (.string ⟨(Lib.trimS s.data.toList [32, 9]).toArray⟩) ∧ w = w' := by
  rw [trim_two]
  obtain ⟨T, HT⟩ : ∃ T, Hid (cutR (cutL s.data.toList) = T) := ⟨_, rfl⟩
  rw [HT.out]
  go_enter Tryd.func42, Tryd.ntmps42
  go_wp2
  go_loop [0] (fun v => ∃ b : ByteArray, v = .string b ∧ b.size ≤ 1000000 ∧ Hid (cutR (cutL b.data.toList) = T)) (fun v => msb v)
  case atStart => exact ⟨s, rfl, hs, HT⟩
  case round =>
    obtain ⟨b, rfl, hb, HB⟩ := hrel
    by_cases hgo : ∃ h : 0 < b.size, isB b[0] = true
    · obtain ⟨hz, hx⟩ := hgo
      have HN : Hid (cutR (cutL (b.extract 1 b.size).data.toList) = T) := by
        unfold Hid; rw [← HB.out, ba_hd b hz, cutL_yes hx]
      have hsz : (b.extract 1 b.size).size = b.size - 1 := by rw [ByteArray.size_extract]; omega
      clear HB HT
      by_cases h32 : (b[0].toNat : Int) = 32
      · have c1 := beqi_t h32
        clear h32 hx
        go_wp2
        go_round
        case rel => exact ⟨_, rfl, by rw [hsz]; omega, HN⟩
        case measure => show (b.extract 1 b.size).size < b.size; rw [hsz]; omega
      · have c1 := beqi_f h32
        have c2 : ((b[0].toNat : Int) == 9) = true := beqi_t (by have := (isB_iff _).1 hx; omega)
        clear h32 hx
        go_wp2
        go_round
        case rel => exact ⟨_, rfl, by rw [hsz]; omega, HN⟩
        case measure => show (b.extract 1 b.size).size < b.size; rw [hsz]; omega
    · have HL : Hid (cutR b.data.toList = T) := by
        unfold Hid
        rw [← HB.out]
        by_cases hz : 0 < b.size
        · rw [ba_hd b hz, cutL_no (fun h => hgo ⟨hz, h⟩)]
        · rw [List.eq_nil_of_length_eq_zero (l := b.data.toList) (by rw [← Lib.size_eq]; omega)]; rfl
      have HH : Hid (∀ hz : 0 < b.size, ((b[0].toNat : Int) == 32) = false ∧ ((b[0].toNat : Int) == 9) = false) := by
        intro hz
        have h1 : ¬ isB b[0] = true := fun h => hgo ⟨hz, h⟩
        rw [isB_iff] at h1
        exact ⟨beqi_f (by omega), beqi_f (by omega)⟩
      clear hgo HB HT
      by_cases hz : b.size = 0
      · go_wp2
        go_loop [0] (fun v => ∃ b : ByteArray, v = .string b ∧ b.size ≤ 1000000 ∧ Hid (cutR b.data.toList = T)) (fun v => msb v)
        case atStart => exact ⟨b, rfl, hb, HL⟩
        case round =>
          clear hb HL
          obtain ⟨b, rfl, hb, HB⟩ := hrel
          by_cases hz : b.size = 0
          · have HF : Hid (b = ⟨T.toArray⟩) := by
              unfold Hid
              apply ba_eq
              rw [← HB.out, List.eq_nil_of_length_eq_zero (l := b.data.toList) (by rw [← Lib.size_eq]; exact hz)]; rfl
            go_wp2
            exact bodyPost_ret (v := .string b) (by simp [results, Tryd.results42, go_sem]) rfl ⟨by rw [← HF.out], rfl⟩
          · obtain ⟨n, hn⟩ : ∃ n : Nat, b.size = n + 1 := ⟨b.size - 1, by omega⟩
            have hnl : n < b.size := by omega
            have hsz : (b.extract 0 n).size = n := by rw [ByteArray.size_extract]; omega
            have d0 : (0 : Int) < (b.size : Int) := by omega
            have d1 : IntKind.i64.wrap ((b.size : Int) - 1) = (n : Int) := by rw [IntWalk.i64_in _ (by omega)]; omega
            by_cases hx : isB (b[n]'hnl) = true
            · have HN : Hid (cutR (b.extract 0 n).data.toList = T) := by
                unfold Hid; rw [← HB.out, ba_tl b n hn, cutR_yes hx]
              clear HB
              by_cases h32 : ((b[n]'hnl).toNat : Int) = 32
              · have c1 := beqi_t h32
                clear h32 hx
                go_wp2
                go_round
                case rel => exact ⟨_, rfl, by rw [hsz]; omega, HN⟩
                case measure => show (b.extract 0 n).size < b.size; rw [hsz]; omega
              · have c1 := beqi_f h32
                have c2 : (((b[n]'hnl).toNat : Int) == 9) = true := beqi_t (by have := (isB_iff _).1 hx; omega)
                clear h32 hx
                go_wp2
                go_round
                case rel => exact ⟨_, rfl, by rw [hsz]; omega, HN⟩
                case measure => show (b.extract 0 n).size < b.size; rw [hsz]; omega
            · have HF : Hid (b = ⟨T.toArray⟩) := by
                unfold Hid
                apply ba_eq
                rw [← HB.out, ba_tl b n hn, cutR_no hx]
              rw [isB_iff] at hx
              have c1 : (((b[n]'hnl).toNat : Int) == 32) = false := beqi_f (by omega)
              have c2 : (((b[n]'hnl).toNat : Int) == 9) = false := beqi_f (by omega)
              clear hx HB
              go_wp2
              exact bodyPost_ret (v := .string b) (by simp [results, Tryd.results42, go_sem]) rfl ⟨by rw [← HF.out], rfl⟩
      · have d0 : (0 : Int) < (b.size : Int) := by omega
        have hz1 : 0 < b.size := by omega
        obtain ⟨c1, c2⟩ := HH.out hz1
        clear HH hz
        go_wp2
        clear c1 c2
        go_loop [0] (fun v => ∃ b : ByteArray, v = .string b ∧ b.size ≤ 1000000 ∧ Hid (cutR b.data.toList = T)) (fun v => msb v)
        case atStart => exact ⟨b, rfl, hb, HL⟩
        case round =>
          clear hb HL
          obtain ⟨b, rfl, hb, HB⟩ := hrel
          by_cases hz : b.size = 0
          · have HF : Hid (b = ⟨T.toArray⟩) := by
              unfold Hid
              apply ba_eq
              rw [← HB.out, List.eq_nil_of_length_eq_zero (l := b.data.toList) (by rw [← Lib.size_eq]; exact hz)]; rfl
            go_wp2
            exact bodyPost_ret (v := .string b) (by simp [results, Tryd.results42, go_sem]) rfl ⟨by rw [← HF.out], rfl⟩
          · obtain ⟨n, hn⟩ : ∃ n : Nat, b.size = n + 1 := ⟨b.size - 1, by omega⟩
            have hnl : n < b.size := by omega
            have hsz : (b.extract 0 n).size = n := by rw [ByteArray.size_extract]; omega
            have d0 : (0 : Int) < (b.size : Int) := by omega
            have d1 : IntKind.i64.wrap ((b.size : Int) - 1) = (n : Int) := by rw [IntWalk.i64_in _ (by omega)]; omega
            by_cases hx : isB (b[n]'hnl) = true
            · have HN : Hid (cutR (b.extract 0 n).data.toList = T) := by
                unfold Hid; rw [← HB.out, ba_tl b n hn, cutR_yes hx]
              clear HB
              by_cases h32 : ((b[n]'hnl).toNat : Int) = 32
              · have c1 := beqi_t h32
                clear h32 hx
                go_wp2
                go_round
                case rel => exact ⟨_, rfl, by rw [hsz]; omega, HN⟩
                case measure => show (b.extract 0 n).size < b.size; rw [hsz]; omega
              · have c1 := beqi_f h32
                have c2 : (((b[n]'hnl).toNat : Int) == 9) = true := beqi_t (by have := (isB_iff _).1 hx; omega)
                clear h32 hx
                go_wp2
                go_round
                case rel => exact ⟨_, rfl, by rw [hsz]; omega, HN⟩
                case measure => show (b.extract 0 n).size < b.size; rw [hsz]; omega
            · have HF : Hid (b = ⟨T.toArray⟩) := by
                unfold Hid
                apply ba_eq
                rw [← HB.out, ba_tl b n hn, cutR_no hx]
              rw [isB_iff] at hx
              have c1 : (((b[n]'hnl).toNat : Int) == 32) = false := beqi_f (by omega)
              have c2 : (((b[n]'hnl).toNat : Int) == 9) = false := beqi_f (by omega)
              clear hx HB
              go_wp2
              exact bodyPost_ret (v := .string b) (by simp [results, Tryd.results42, go_sem]) rfl ⟨by rw [← HF.out], rfl⟩
end Go.Proofs.YtdmkfleiipfbgaaDoor
