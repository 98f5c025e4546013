/-
  The reference's small: letters as small ones.
-/
import Derived.Laws.IdiomStrings
import Derived.Test.YtdmkfleiipfbgaaDoorPF
namespace Go.Proofs.YtdmkfleiipfbgaaDoor
open Go Go.RowKit

def low (x : UInt8) : UInt8 := if 65 ≤ x.toNat ∧ x.toNat ≤ 90 then x + 32 else x
theorem low_nat (x : UInt8) : (low x).toNat = if 65 ≤ x.toNat ∧ x.toNat ≤ 90 then x.toNat + 32 else x.toNat := by
  unfold low
  by_cases h : 65 ≤ x.toNat ∧ x.toNat ≤ 90
  · rw [if_pos h, if_pos h, UInt8.toNat_add]; show (x.toNat + 32) % 256 = _; omega
  · rw [if_neg h, if_neg h]
theorem low_add {x : UInt8} (h : 65 ≤ x.toNat ∧ x.toNat ≤ 90) : (x.toNat : Int) + 32 = ((low x).toNat : Int) := by
  rw [low_nat, if_pos h]; omega
theorem low_same {x : UInt8} (h : ¬ (65 ≤ x.toNat ∧ x.toNat ≤ 90)) : low x = x := by unfold low; rw [if_neg h]

theorem ba_app (a : ByteArray) (x : UInt8) : (a ++ (⟨[x].toArray⟩ : ByteArray)).data.toList = a.data.toList ++ [x] := by
  rw [ByteArray.data_append]; simp

set_option maxHeartbeats 4000000 in
set_option maxRecDepth 10000 in
theorem small_any (s : ByteArray) (w : World) (hs : s.size ≤ 1000000) :
    Calls Tryd.prog 41 #[.string s] w fun e w' => e = .returned (.string ⟨(s.data.toList.map low).toArray⟩) ∧ Below w.heap.size w w' := by
  go_enter Tryd.func41, Tryd.ntmps41
  go_wp2
  go_loopw [3, 4] (fun o i wr => ∃ (k : Nat) (ob : ByteArray), k ≤ s.size ∧ i = .int .i64 k ∧ o = .string ob ∧ Hid (ob.data.toList = (s.data.toList.take k).map low) ∧ Below w.heap.size w wr) (fun _ i _ => s.size - (intOf i).toNat)
  case atStart => exact ⟨0, ⟨#[]⟩, Nat.zero_le _, rfl, rfl, rfl, Below.refl _ _⟩
  case round =>
    obtain ⟨k, ob, hk, rfl, rfl, HO, hbel⟩ := hrel
    have hob : ob.size ≤ 1000000 := by rw [Lib.size_eq, HO.out, List.length_map, List.length_take]; omega
    by_cases hlt : k < s.size
    · have HD : Hid ((s.data.toList.take (k + 1)).map low = ob.data.toList ++ [low s[k]]) := by
        unfold Hid
        have : s.data.toList[k]? = some s[k] := by rw [← List.head?_drop, drop_at4 s k hlt]; rfl
        rw [List.take_add_one, this, HO.out]
        simp
      have x0 : (0 : Int) ≤ (s[k].toNat : Int) := by omega
      have x1 : (s[k].toNat : Int) ≤ 255 := by have := s[k].toNat_lt; omega
      by_cases ha : 65 ≤ s[k].toNat ∧ s[k].toNat ≤ 90
      · have a1 : (65 : Int) ≤ (s[k].toNat : Int) := by omega
        have a2 : (s[k].toNat : Int) ≤ 90 := by omega
        have hcv := Go.run_convert_bytes_back (P := Tryd.prog) (wr.alloc (.cells #[.int .u8 ((s[k].toNat : Int) + 32)] 5)) 87 9 5 ⟨wr.heap.size, 0, none⟩ 1 [low s[k]] Tryd.underlying87 Tryd.underlying5 Tryd.underlying9 (fun j hj => by
          have : j = 0 := by simpa using hj
          subst this
          have hv := low_add ha
          simp [Addr.add, hv])
        simp only [List.length_cons, List.length_nil, Nat.zero_add] at hcv
        clear ha HO
        go_wp2
        go_roundw
        case rel => exact ⟨k + 1, _, by omega, by go_num, rfl, by unfold Hid; rw [HD.out]; exact ba_app _ _, hbel.alloc hbel.size _⟩
        case measure => simp [intOf]; omega
      · have hs2 : Hid (low s[k] = s[k]) := low_same ha
        by_cases hb : (65 : Int) ≤ (s[k].toNat : Int)
        · have a2 : ¬ (s[k].toNat : Int) ≤ 90 := by omega
          have hcv := Go.run_convert_bytes_back (P := Tryd.prog) (wr.alloc (.cells #[.int .u8 ((s[k].toNat : Int))] 5)) 87 9 5 ⟨wr.heap.size, 0, none⟩ 1 [low s[k]] Tryd.underlying87 Tryd.underlying5 Tryd.underlying9 (fun j hj => by
            have : j = 0 := by simpa using hj
            subst this
            have hv := hs2.out
            simp [Addr.add, hv])
          simp only [List.length_cons, List.length_nil, Nat.zero_add] at hcv
          clear ha HO
          go_wp2
          go_roundw
          case rel => exact ⟨k + 1, _, by omega, by go_num, rfl, by unfold Hid; rw [HD.out]; exact ba_app _ _, hbel.alloc hbel.size _⟩
          case measure => simp [intOf]; omega
        · skip
          have hcv := Go.run_convert_bytes_back (P := Tryd.prog) (wr.alloc (.cells #[.int .u8 ((s[k].toNat : Int))] 5)) 87 9 5 ⟨wr.heap.size, 0, none⟩ 1 [low s[k]] Tryd.underlying87 Tryd.underlying5 Tryd.underlying9 (fun j hj => by
            have : j = 0 := by simpa using hj
            subst this
            have hv := hs2.out
            simp [Addr.add, hv])
          simp only [List.length_cons, List.length_nil, Nat.zero_add] at hcv
          clear ha HO
          go_wp2
          go_roundw
          case rel => exact ⟨k + 1, _, by omega, by go_num, rfl, by unfold Hid; rw [HD.out]; exact ba_app _ _, hbel.alloc hbel.size _⟩
          case measure => simp [intOf]; omega
    · obtain rfl : k = s.size := by omega
      have HF : Hid (ob = ⟨(s.data.toList.map low).toArray⟩) := by
        unfold Hid
        cases ob with | mk d =>
        have := HO.out
        rw [List.take_of_length_le (by rw [← Lib.size_eq]; exact Nat.le_refl _)] at this
        rw [← this]
      clear HO
      go_wp2
      exact bodyPost_ret (v := .string ob) (by simp [results, Tryd.results41, go_sem]) rfl ⟨by rw [← HF.out], hbel⟩
end Go.Proofs.YtdmkfleiipfbgaaDoor
