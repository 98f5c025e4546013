/-
  The day of a tick, of the reference.
-/
import Derived.Test.YtomcoacndppkcaaGreatDoorDB
import Derived.StillTailTactics
namespace Go.Proofs.YtomcoacndppkcaaGreatDoor.D
open Go Go.RowKit

/-- what Of hands back -/
def ofR (t : Int) : Value := if inT t = true then .tuple #[.agg #[.int .i64 (yO (t / 86400)), .int .i64 (mO (t / 86400)), .int .i64 (dO (t / 86400)), .int .i64 ((t / 86400 + 4) % 7)], .int .i64 (t % 86400)]
  else .tuple #[.agg #[.int .i64 0, .int .i64 0, .int .i64 0, .int .i64 0], .int .i64 0]
theorem ofR_yes {t : Int} (h : inT t = true) : ofR t = .tuple #[.agg #[.int .i64 (yO (t / 86400)), .int .i64 (mO (t / 86400)), .int .i64 (dO (t / 86400)), .int .i64 ((t / 86400 + 4) % 7)], .int .i64 (t % 86400)] := by unfold ofR; rw [if_pos h]
theorem ofR_no {t : Int} (h : inT t = false) : ofR t = .tuple #[.agg #[.int .i64 0, .int .i64 0, .int .i64 0, .int .i64 0], .int .i64 0] := by unfold ofR; rw [if_neg (by simp [h])]
theorem guess {n : Int} (h : 0 ≤ n) : ahead (1970 + n / 366) ≤ n := by unfold ahead; omega

set_option maxHeartbeats 4000000 in
theorem rof_no (t : Int) (w : World) (h : inT t = false) :
    Calls Tryz.prog 62 #[.int .i64 t] w fun e w' => e = .returned (ofR t) ∧ Below w.heap.size w w' := by
  have HF := Lib.hid (ofR_no h)
  by_cases h0 : t < 0
  · clear h
    go_enter Tryz.func62, Tryz.ntmps62
    go_wp2
    exact bodyPost_ret (v := .tuple #[.agg #[.int .i64 0, .int .i64 0, .int .i64 0, .int .i64 0], .int .i64 0]) (by simp [results, Tryz.results62, go_sem]) rfl ⟨by rw [HF.out], by go_grown⟩
  · have h9 : 253402300799 < t := by
      refine Int.not_le.1 fun h9 => ?_
      rw [inT_iff.2 ⟨by omega, h9⟩] at h; cases h
    clear h
    go_enter Tryz.func62, Tryz.ntmps62
    go_wp2
    exact bodyPost_ret (v := .tuple #[.agg #[.int .i64 0, .int .i64 0, .int .i64 0, .int .i64 0], .int .i64 0]) (by simp [results, Tryz.results62, go_sem]) rfl ⟨by rw [HF.out], by go_grown⟩

set_option maxHeartbeats 4000000 in
theorem rof_yes (t : Int) (w : World) (h : inT t = true) :
    Calls Tryz.prog 62 #[.int .i64 t] w fun e w' => e = .returned (ofR t) ∧ Below w.heap.size w w' := by
  have HF := Lib.hid (ofR_yes h)
  obtain ⟨h0, h9⟩ := inT_iff.1 h
  clear h
  have HG := Lib.hid (guess (n := t / 86400) (by omega))
  have hA := fun (y : Int) W => rahead_any y W
  have hD := fun (y m : Int) W => rdays_any y W m
  have n0 : 0 ≤ t / 86400 := by omega
  have n9 : t / 86400 ≤ 2932896 := by omega
  go_enter Tryz.func62, Tryz.ntmps62
  go_wp2
  generalize hn : t / 86400 = n at *
  clear hn
  go_loop [5] (fun u => ∃ y : Int, 1970 ≤ y ∧ y ≤ 9999 ∧ Hid (ahead y ≤ n) ∧ u = .int .i64 y) (fun u => (9999 - intOf u).toNat)
  case atStart => exact ⟨_, by omega, by omega, HG, rfl⟩
  case round =>
    obtain ⟨y, y1, y2, HA, rfl⟩ := hrel
    by_cases hc : ahead (y + 1) ≤ n
    · have y3 : y < 9999 := by
        refine Int.not_le.1 fun h => ?_
        have : y = 9999 := by omega
        rw [this, show (9999 : Int) + 1 = 10000 by rfl, ahead_10000] at hc; omega
      go_wp2_with (go_at_call 89; ((with_reducible refine (hA _ _ (by omega) (by omega)).mono ?_); rintro e w' ⟨rfl, rfl⟩))
      go_round
      case rel => exact ⟨y + 1, by omega, by omega, Lib.hid hc, rfl⟩
      case measure => simp [intOf]; omega
    · have hb1 := ahead_bd (y := y + 1) (by omega) (by omega)
      have hb0 := ahead_bd (y := y) (by omega) (by omega)
      have HY : Hid (yO n = y) := Lib.hid (year_uniq HA.out (by omega) n0 n9)
      have HL : Hid (lO n = n - ahead y) := Lib.hid (by have := HY.out; unfold yO at this; unfold lO; rw [this])
      have hm := mO_spec n0 n9
      have hl0 : 0 ≤ lO n ∧ lO n ≤ 366 := by
        have a := HA.out; have := ahead_succ (y := y) (by omega); have := lpI_bd y; rw [HL.out]; omega
      have hla := HA.out
      have hl1 : n - ahead y ≤ 366 := by rw [← HL.out]; exact hl0.2
      clear HG HA hm
      go_wp2_with (go_at_call 89; ((with_reducible refine (hA _ _ (by omega) (by omega)).mono ?_); rintro e w' ⟨rfl, rfl⟩))
      generalize hAy : ahead y = A at *
      have HAy := Lib.hid hAy
      clear hAy
      go_loop [6, 7] (fun u i => ∃ m : Int, 1 ≤ m ∧ m ≤ 12 ∧ i = .int .i64 m ∧ Hid (cum y m ≤ n - A) ∧ u = .int .i64 (n - A - cum y m)) (fun _ i => (12 - intOf i).toNat)
      case atStart => exact ⟨1, by omega, by omega, rfl, Lib.hid (by rw [cum_1]; omega), by rw [cum_1]; go_num⟩
      case round =>
        obtain ⟨m, m1, m2, rfl, HC, rfl⟩ := hrel
        have hcb := cum_bd y m m1 m2
        have hmb := mdays_bd y m
        have HS := Lib.hid (cum_succ y m m1 m2)
        have hcl := HC.out
        by_cases hd : mdays y m ≤ n - A - cum y m
        · have m3 : m < 12 := by
            refine Int.not_le.1 fun h => ?_
            have e : m = 12 := by omega
            have s := HS.out
            rw [e, show (12 : Int) + 1 = 13 by rfl, cum_13] at s
            have := ahead_succ (y := y) (by omega)
            rw [e] at hd
            have := HAy.out
            omega
          go_wp2_with (go_at_call 90; ((with_reducible refine (hD _ _ _ (by omega) (by omega)).mono ?_); rintro e w' ⟨rfl, rfl⟩))
          go_round
          case rel => exact ⟨m + 1, by omega, by omega, rfl, Lib.hid (by rw [HS.out]; omega), by rw [HS.out]; go_num⟩
          case measure => simp [intOf]; omega
        · have HM : Hid (mO n = m) := Lib.hid (month_uniq m1 m2 (by rw [HY.out, HL.out]; omega) (by rw [HY.out, HL.out, HS.out]; omega) n0 n9)
          have HD : Hid (dO n = n - A - cum y m + 1) := Lib.hid (by unfold dO; rw [HY.out, HM.out, HL.out])
          clear HS HC
          go_wp2_with (go_at_call 90; ((with_reducible refine (hD _ _ _ (by omega) (by omega)).mono ?_); rintro e w' ⟨rfl, rfl⟩))
          refine bodyPost_ret (v := .tuple #[.agg #[.int .i64 y, .int .i64 m, .int .i64 (n - A - cum y m + 1), .int .i64 ((n + 4) % 7)], .int .i64 (t % 86400)]) (by simp [results, Tryz.results62, go_sem]) rfl ⟨?_, by go_grown⟩
          rw [HF.out, HY.out, HM.out, HD.out]
theorem rof_any (t : Int) (w : World) :
    Calls Tryz.prog 62 #[.int .i64 t] w fun e w' => e = .returned (ofR t) ∧ Below w.heap.size w w' := by
  cases h : inT t with
  | true => exact rof_yes t w h
  | false => exact rof_no t w h
end Go.Proofs.YtomcoacndppkcaaGreatDoor.D
