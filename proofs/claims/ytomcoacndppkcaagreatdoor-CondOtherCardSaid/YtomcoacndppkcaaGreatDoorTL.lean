/-
  The program's parting of a list.
-/
import Derived.Test.YtomcoacndppkcaaGreatDoorTE
import Derived.Test.YtomcoacndppkcaaGreatDoorTK
namespace Go.Proofs.YtomcoacndppkcaaGreatDoor.T
open Go Go.RowKit

/-- how far a parting is -/
def CutAt (s : ByteArray) (k : Nat) (q : Bool) : Prop :=
  cutP false s.data.toList = (s.data.toList.take k ++ (cutP q (s.data.toList.drop k)).1, (cutP q (s.data.toList.drop k)).2.1, (cutP q (s.data.toList.drop k)).2.2)
theorem take_more (s : ByteArray) {k : Nat} (h : k < s.size) : s.data.toList.take (k + 1) = s.data.toList.take k ++ [s[k]] := by
  have e : s.data.toList[k]? = some s[k] := by rw [← List.head?_drop, drop_at4 s k h]; rfl
  rw [List.take_add_one, e]; rfl
theorem CutAt.more {s : ByteArray} {k : Nat} {q : Bool} (h : CutAt s k q) (hk : k < s.size) (hx : ¬ (s[k] = 44 ∧ q = false)) : CutAt s (k + 1) (flipQ q s[k]) := by
  unfold CutAt at h ⊢
  rw [drop_at4 s k hk] at h
  simp only [cutP, if_neg hx] at h
  rw [h, take_more s hk]; simp
theorem CutAt.cut {s : ByteArray} {k : Nat} (h : CutAt s k false) (hk : k < s.size) (hx : s[k] = 44) : cutP false s.data.toList = ((s.extract 0 k).data.toList, (s.extract (k + 1) s.size).data.toList, true) := by
  unfold CutAt at h
  rw [drop_at4 s k hk] at h
  simp only [cutP, hx, and_self, if_true, List.append_nil] at h
  rw [h]
  have e1 : (s.extract 0 k).data.toList = s.data.toList.take k := by
    rw [ByteArray.data_extract]; simp
  have e2 : (s.extract (k + 1) s.size).data.toList = s.data.toList.drop (k + 1) := by
    rw [ByteArray.data_extract]; show (s.data.extract (k + 1) s.data.size).toList = _; simp; exact List.take_of_length_le (by rw [List.length_drop, ← Lib.size_eq]; omega)
  rw [e1, e2]
theorem CutAt.fin {s : ByteArray} {q : Bool} (h : CutAt s s.size q) : cutP false s.data.toList = (s.data.toList, [], false) := by
  unfold CutAt at h
  rw [List.drop_eq_nil_of_le (by rw [← Lib.size_eq]; exact Nat.le_refl _), List.take_of_length_le (by rw [← Lib.size_eq]; exact Nat.le_refl _)] at h
  simpa [cutP] using h
theorem u8_iff (x : UInt8) (n : Nat) (hn : n < 256) : x = UInt8.ofNat n ↔ x.toNat = n := by
  rw [← UInt8.toNat_inj]
  have : (UInt8.ofNat n).toNat = n := by simp; omega
  rw [this]
abbrev cutV (s : List UInt8) : Value := .tuple #[.string ⟨(cutP false s).1.toArray⟩, .string ⟨(cutP false s).2.1.toArray⟩, .bool (cutP false s).2.2]

set_option maxHeartbeats 4000000 in
theorem cut_any (s : ByteArray) (w : World) (hs : s.size ≤ szM) :
    Calls Tryz.prog 71 #[.string s] w fun e w' => e = .returned (cutV s.data.toList) ∧ Below w.heap.size w w' := by
  unfold szM at hs
  obtain ⟨D, HD⟩ : ∃ D, Hid (cutP false s.data.toList = D) := ⟨cutP false s.data.toList, rfl⟩
  unfold cutV
  rw [HD.out]
  go_enter Tryz.func71, Tryz.ntmps71
  go_wp2
  go_loopw [5, 9] (fun vq vi wr => ∃ (k : Nat) (q : Bool), vq = .bool q ∧ k ≤ s.size ∧ vi = .int .i64 k ∧ Hid (CutAt s k q) ∧ Below w.heap.size w wr) (fun _ vi _ => s.size - (intOf vi).toNat)
  case atStart => exact ⟨0, false, rfl, Nat.zero_le _, rfl, by unfold Hid CutAt; simp, Below.refl _ _⟩
  case round =>
    obtain ⟨k, q, rfl, hk, rfl, HG, hbel⟩ := hrel
    by_cases hlt : k < s.size
    · have h34 : s[k] = 34 ↔ s[k].toNat = 34 := u8_iff s[k] 34 (by omega)
      have h44 : s[k] = 44 ↔ s[k].toNat = 44 := u8_iff s[k] 44 (by omega)
      have HM := Lib.hid (HG.out.more hlt)
      by_cases g1 : s[k].toNat = 34
      · have HK : Hid (CutAt s (k + 1) (!q)) := by
          have h := HM.out (fun h => by have := h44.1 h.1; omega)
          unfold flipQ at h
          rwa [if_pos (h34.2 g1)] at h
        have b1 : ((s[k].toNat : Int) == 34) = true := beqi_t (by omega)
        clear HM HG g1 h34 h44
        cases q <;>
        · go_wp2_with fail
          go_roundw
          case rel => exact ⟨k + 1, _, rfl, by omega, by go_num, HK, hbel⟩
          case measure => simp [intOf]; omega
      · have b1 : ((s[k].toNat : Int) == 34) = false := beqi_f (by omega)
        by_cases g2 : s[k].toNat = 44
        · have b2 : ((s[k].toNat : Int) == 44) = true := beqi_t (by omega)
          cases q with
          | false =>
            have HF : Hid (D = ((s.extract 0 k).data.toList, (s.extract (k + 1) s.size).data.toList, true)) := by
              unfold Hid; rw [← HD.out]; exact HG.out.cut hlt (h44.2 g2)
            have d0 : (0 : Int) ≤ (k : Int) := by omega
            have d1 : (k : Int) ≤ (s.size : Int) := by omega
            have d3 : (0 : Int) ≤ (k : Int) + 1 := by omega
            have d4 : (k : Int) + 1 ≤ (s.size : Int) := by omega
            have d2 : IntKind.i64.wrap ((k : Int) + 1) = (k : Int) + 1 := IntWalk.i64_in _ (by omega)
            have d5 : ((k : Int) + 1).toNat = k + 1 := by omega
            clear HM HG g1 g2 h34 h44
            go_wp2_with fail
            go_quiet (fail)
            go_wp2_with fail
            exact bodyPost_ret (v := .tuple #[.string (s.extract 0 k), .string (s.extract (k + 1) s.size), .bool true]) (by simp [results, Tryz.results71, go_sem]) rfl ⟨by rw [HF.out], below_drewN hbel _⟩
          | true =>
            have HK : Hid (CutAt s (k + 1) true) := by
              have h := HM.out (fun h => by have := h.2; cases this)
              unfold flipQ at h
              rwa [if_neg (fun e => g1 (h34.1 e))] at h
            clear HM HG g1 g2 h34 h44
            go_wp2_with fail
            go_roundw
            case rel => exact ⟨k + 1, _, rfl, by omega, by go_num, HK, hbel⟩
            case measure => simp [intOf]; omega
        · have b2 : ((s[k].toNat : Int) == 44) = false := beqi_f (by omega)
          have HK : Hid (CutAt s (k + 1) q) := by
            have h := HM.out (fun h => g2 (h44.1 h.1))
            unfold flipQ at h
            rwa [if_neg (fun e => g1 (h34.1 e))] at h
          clear HM HG g1 g2 h34 h44
          go_wp2_with fail
          go_roundw
          case rel => exact ⟨k + 1, _, rfl, by omega, by go_num, HK, hbel⟩
          case measure => simp [intOf]; omega
    · obtain rfl : k = s.size := by omega
      have HF : Hid (D = (s.data.toList, [], false)) := by unfold Hid; rw [← HD.out]; exact HG.out.fin
      clear HG
      go_wp2_with fail
      exact bodyPost_ret (v := .tuple #[.string s, .string ⟨#[]⟩, .bool false]) (by simp [results, Tryz.results71, go_sem]) rfl ⟨by rw [HF.out], hbel⟩
end Go.Proofs.YtomcoacndppkcaaGreatDoor.T
