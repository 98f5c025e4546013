/-
  The reference's number: what numD says, -1 where it refuses.
-/
import Derived.Test.YtdmkfleiipfbgaaDoorPE
namespace Go.Proofs.YtdmkfleiipfbgaaDoor
open Go Go.RowKit

/-- -1 where it is none -/
def pickI (r : Int × Bool) : Int := if r.2 = true then r.1 else -1
theorem pickI_no : pickI (0, false) = -1 := rfl
/-- the reference's number: -1 for no text and for one that is none -/
def numQ (l : List UInt8) : Int := pickI (numD l)
theorem numQ_big {l : List UInt8} (h : 18 < l.length) : numQ l = -1 := by
  unfold numQ numD
  rw [if_neg (by intro e; subst e; simp at h), if_pos h]; rfl
theorem numQ_run {l : List UInt8} (h : l ≠ []) (h2 : ¬ 18 < l.length) : numQ l = pickI (runD 0 l) := by
  unfold numQ numD
  rw [if_neg h, if_neg h2]

set_option maxHeartbeats 4000000 in
theorem rnumber_any (s : ByteArray) (w : World) :
    Calls Tryd.prog 68 #[.string s] w fun e w' => e = .returned (.int .i64 (numQ s.data.toList)) ∧ w = w' := by
  have hsz : s.size = s.data.toList.length := Lib.size_eq s
  by_cases hn : s.data.toList = []
  · have hs0 : s.size = 0 := by rw [hsz, hn]; rfl
    have HF : Hid (numQ s.data.toList = -1) := by unfold Hid; rw [hn]; rfl
    clear hsz hn
    go_enter Tryd.func68, Tryd.ntmps68
    go_wp2
    exact bodyPost_ret (v := .int .i64 (-1)) (by simp [results, Tryd.results68, go_sem]) rfl ⟨by rw [HF.out], rfl⟩
  · have hs0 : s.size ≠ 0 := fun e => hn (List.eq_nil_of_length_eq_zero (by rw [← hsz]; exact e))
    by_cases hbig : 18 < s.size
    · have HF : Hid (numQ s.data.toList = -1) := numQ_big (by rw [← hsz]; exact hbig)
      clear hsz hn
      go_enter Tryd.func68, Tryd.ntmps68
      go_wp2
      exact bodyPost_ret (v := .int .i64 (-1)) (by simp [results, Tryd.results68, go_sem]) rfl ⟨by rw [HF.out], rfl⟩
    · have HF : Hid (numQ s.data.toList = pickI (runD 0 s.data.toList)) := numQ_run hn (by rw [← hsz]; exact hbig)
      clear hn hsz
      go_enter Tryd.func68, Tryd.ntmps68
      go_wp2
      go_loop [3, 4] (fun n i => ∃ k : Nat, k ≤ s.size ∧ i = .int .i64 k ∧ ∃ v : Int, n = .int .i64 v ∧ 0 ≤ v ∧ Hid (v < 10 ^ k) ∧ Hid (runD v (s.data.toList.drop k) = runD 0 s.data.toList)) (fun _ i => s.size - (intOf i).toNat)
      case atStart => exact ⟨0, Nat.zero_le _, rfl, 0, rfl, by omega, by unfold Hid; decide, rfl⟩
      case round =>
        obtain ⟨k, hk, rfl, v, rfl, v0, HB, HV⟩ := hrel
        by_cases hlt : k < s.size
        · have HD := Lib.hid (drop_at4 s k hlt)
          have x0 : (0 : Int) ≤ (s[k].toNat : Int) := by omega
          have x1 : (s[k].toNat : Int) ≤ 255 := by have := s[k].toNat_lt; omega
          have v1 : v < 100000000000000000 := by have := HB.out; have := pow17 (k := k) (by omega); omega
          have HS : Hid (runD v (s.data.toList.drop k) = if (s[k].toNat : Int) < 48 ∨ 57 < (s[k].toNat : Int) then (0, false) else runD (10 * v + ((s[k].toNat : Int) - 48)) (s.data.toList.drop (k + 1))) := by
            unfold Hid; rw [HD.out]; rfl
          by_cases ha : (s[k].toNat : Int) < 48
          · have HX : Hid (numQ s.data.toList = -1) := by unfold Hid; rw [HF.out, ← HV.out, HS.out, if_pos (.inl ha)]; rfl
            go_wp2
            exact bodyPost_ret (v := .int .i64 (-1)) (by simp [results, Tryd.results68, go_sem]) rfl ⟨by rw [HX.out], rfl⟩
          · by_cases hb : 57 < (s[k].toNat : Int)
            · have HX : Hid (numQ s.data.toList = -1) := by unfold Hid; rw [HF.out, ← HV.out, HS.out, if_pos (.inr hb)]; rfl
              go_wp2
              exact bodyPost_ret (v := .int .i64 (-1)) (by simp [results, Tryd.results68, go_sem]) rfl ⟨by rw [HX.out], rfl⟩
            · have HX : Hid (runD (v * 10 + ((s[k].toNat : Int) - 48)) (s.data.toList.drop (k + 1)) = runD 0 s.data.toList) := by
                unfold Hid; rw [← HV.out, HS.out, if_neg (by omega), show v * 10 = 10 * v by omega]
              have HB2 : Hid (v * 10 + ((s[k].toNat : Int) - 48) < 10 ^ (k + 1)) := by unfold Hid; have := HB.out; rw [Int.pow_succ]; omega
              go_wp2
              go_round
              case rel => exact ⟨k + 1, by omega, by go_num, _, rfl, by omega, HB2, HX⟩
              case measure => simp [intOf]; omega
        · obtain rfl : k = s.size := by omega
          have HX : Hid (numQ s.data.toList = v) := by
            unfold Hid; rw [HF.out, ← HV.out, List.drop_eq_nil_of_le (by rw [← Lib.size_eq]; exact Nat.le_refl _)]; rfl
          go_wp2
          exact bodyPost_ret (v := .int .i64 v) (by simp [results, Tryd.results68, go_sem]) rfl ⟨by rw [HX.out], rfl⟩
end Go.Proofs.YtdmkfleiipfbgaaDoor
