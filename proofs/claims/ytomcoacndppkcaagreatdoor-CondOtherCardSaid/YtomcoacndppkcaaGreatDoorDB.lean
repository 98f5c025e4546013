/-
  Whether a day may be; the tick of a day's second; of both.
-/
import Derived.Test.YtomcoacndppkcaaGreatDoorDA
namespace Go.Proofs.YtomcoacndppkcaaGreatDoor.D
open Go Go.RowKit

theorem rd_no_y {y m d : Int} (h : y < 1970 ∨ 9999 < y) : rdB y m d = false := by unfold rdB; simp; omega
theorem rd_no_m {y m d : Int} (h : m < 1 ∨ 12 < m) : rdB y m d = false := by unfold rdB; simp; omega
theorem rd_no_d {y m d : Int} (h : d < 1) : rdB y m d = false := by unfold rdB; simp; omega
theorem rd_d {y m d : Int} (a : 1970 ≤ y) (b : y ≤ 9999) (c : 1 ≤ m) (e : m ≤ 12) (f : 1 ≤ d) : rdB y m d = decide (d ≤ mdays y m) := by
  unfold rdB; rw [Bool.eq_iff_iff]; simp; omega

set_option maxHeartbeats 4000000 in
theorem isDay_any (y m d k : Int) (w : World) (hw : LaidD w) :
    Calls Tryz.prog 104 #[.agg #[.int .i64 y, .int .i64 m, .int .i64 d, .int .i64 k]] w fun e w' => e = .returned (.bool (rdB y m d)) ∧ Below w.heap.size w w' := by
  by_cases h1 : y < 1970
  · have HF := Lib.hid (rd_no_y (m := m) (d := d) (Or.inl h1))
    clear hw
    go_enter Tryz.func104, Tryz.ntmps104
    go_wp2
    go_ret
    exact ⟨ret_bool HF.out.symm, by go_grown⟩
  by_cases h2 : 9999 < y
  · have HF := Lib.hid (rd_no_y (m := m) (d := d) (Or.inr h2))
    clear hw
    go_enter Tryz.func104, Tryz.ntmps104
    go_wp2
    go_ret
    exact ⟨ret_bool HF.out.symm, by go_grown⟩
  by_cases h3 : m < 1
  · have HF := Lib.hid (rd_no_m (y := y) (d := d) (Or.inl h3))
    clear hw
    go_enter Tryz.func104, Tryz.ntmps104
    go_wp2
    go_ret
    exact ⟨ret_bool HF.out.symm, by go_grown⟩
  by_cases h4 : 12 < m
  · have HF := Lib.hid (rd_no_m (y := y) (d := d) (Or.inr h4))
    clear hw
    go_enter Tryz.func104, Tryz.ntmps104
    go_wp2
    go_ret
    exact ⟨ret_bool HF.out.symm, by go_grown⟩
  have hb : ∀ v, Below w.heap.size w (w.alloc v) := fun v => (Below.refl _ _).alloc (Nat.le_refl _) _
  by_cases h5 : 1 ≤ d
  · have HF := Lib.hid (rd_d (y := y) (m := m) (d := d) (by omega) (by omega) (by omega) (by omega) h5)
    have hD : ∀ W, Ext w W → Calls Tryz.prog 86 #[.int .i64 y, .int .i64 m] W fun e w' => e = .returned (.int .i64 (mdays y m)) ∧ w' = W := fun W hW => (days_any y W (hw.below hW) m (by omega) (by omega)).mono fun _ _ h => ⟨h.1, h.2.symm⟩
    clear hw hb
    generalize mdays y m = M at *
    go_enter Tryz.func104, Tryz.ntmps104
    go_wp2
    go_quiet ((go_at_call 86; exact Calls.quiet_of_same (hD _ (below_drewN (by go_grown) _))))
    go_wp2
    go_ret
    exact ⟨ret_bool HF.out.symm, below_drewN (by go_grown) _⟩
  · have HF := Lib.hid (rd_no_d (y := y) (m := m) (d := d) (by omega))
    have hd : decide (1 ≤ d) = false := by simpa using h5
    clear hw
    go_enter Tryz.func104, Tryz.ntmps104
    go_wp2
    go_quiet (fail)
    go_wp2
    go_ret
    exact ⟨ret_bool HF.out.symm, below_drewN (by go_grown) _⟩
set_option maxHeartbeats 4000000 in
theorem rright_any (y m d k : Int) (w : World) :
    Calls Tryz.prog 105 #[.agg #[.int .i64 y, .int .i64 m, .int .i64 d, .int .i64 k]] w fun e w' => e = .returned (.bool (rdB y m d)) ∧ Below w.heap.size w w' := by
  by_cases h1 : y < 1970
  · have HF := Lib.hid (rd_no_y (m := m) (d := d) (Or.inl h1))
    go_enter Tryz.func105, Tryz.ntmps105
    go_wp2
    go_ret
    exact ⟨ret_bool HF.out.symm, by go_grown⟩
  by_cases h2 : 9999 < y
  · have HF := Lib.hid (rd_no_y (m := m) (d := d) (Or.inr h2))
    go_enter Tryz.func105, Tryz.ntmps105
    go_wp2
    go_ret
    exact ⟨ret_bool HF.out.symm, by go_grown⟩
  by_cases h3 : m < 1
  · have HF := Lib.hid (rd_no_m (y := y) (d := d) (Or.inl h3))
    go_enter Tryz.func105, Tryz.ntmps105
    go_wp2
    go_ret
    exact ⟨ret_bool HF.out.symm, by go_grown⟩
  by_cases h4 : 12 < m
  · have HF := Lib.hid (rd_no_m (y := y) (d := d) (Or.inr h4))
    go_enter Tryz.func105, Tryz.ntmps105
    go_wp2
    go_ret
    exact ⟨ret_bool HF.out.symm, by go_grown⟩
  have hb : ∀ v, Below w.heap.size w (w.alloc v) := fun v => (Below.refl _ _).alloc (Nat.le_refl _) _
  by_cases h5 : 1 ≤ d
  · have HF := Lib.hid (rd_d (y := y) (m := m) (d := d) (by omega) (by omega) (by omega) (by omega) h5)
    have hD : ∀ W, Ext w W → Calls Tryz.prog 90 #[.int .i64 y, .int .i64 m] W fun e w' => e = .returned (.int .i64 (mdays y m)) ∧ w' = W := fun W _ => (rdays_any y W m (by omega) (by omega)).mono fun _ _ h => ⟨h.1, h.2.symm⟩
    clear hb
    generalize mdays y m = M at *
    go_enter Tryz.func105, Tryz.ntmps105
    go_wp2
    go_quiet ((go_at_call 90; exact Calls.quiet_of_same (hD _ (below_drewN (by go_grown) _))))
    go_wp2
    go_ret
    exact ⟨ret_bool HF.out.symm, below_drewN (by go_grown) _⟩
  · have HF := Lib.hid (rd_no_d (y := y) (m := m) (d := d) (by omega))
    have hd : decide (1 ≤ d) = false := by simpa using h5
    go_enter Tryz.func105, Tryz.ntmps105
    go_wp2
    go_quiet (fail)
    go_wp2
    go_ret
    exact ⟨ret_bool HF.out.symm, below_drewN (by go_grown) _⟩

def tkV (y m d s : Int) : Int := if rdB y m d = true ∧ 0 ≤ s ∧ s < 86400 then num y m d * 86400 + s else 0
def tkE (y m d s : Int) : Int := if rdB y m d = true ∧ 0 ≤ s ∧ s < 86400 then 0 else 1
theorem tk_no {y m d s : Int} (h : ¬(rdB y m d = true ∧ 0 ≤ s ∧ s < 86400)) : tkV y m d s = 0 ∧ tkE y m d s = 1 := by unfold tkV tkE; rw [if_neg h, if_neg h]; exact ⟨rfl, rfl⟩
theorem tk_yes {y m d s : Int} (h : rdB y m d = true ∧ 0 ≤ s ∧ s < 86400) : tkV y m d s = num y m d * 86400 + s ∧ tkE y m d s = 0 := by unfold tkV tkE; rw [if_pos h, if_pos h]; exact ⟨rfl, rfl⟩
theorem ret_two {j k : IntKind} {a b c d : Int} (h : a = b ∧ c = d) : Ending.returned (.tuple #[.int j a, .int k c]) = .returned (.tuple #[.int j b, .int k d]) := by rw [h.1, h.2]

set_option maxHeartbeats 4000000 in
theorem tick_any (y m d k s : Int) (w : World) (hw : LaidD w) :
    Calls Tryz.prog 78 #[.agg #[.int .i64 y, .int .i64 m, .int .i64 d, .int .i64 k], .int .i64 s] w fun e w' => e = .returned (.tuple #[.int .i64 (tkV y m d s), .int .i64 (tkE y m d s)]) ∧ Below w.heap.size w w' := by
  have hI : ∀ W, Ext w W → Calls Tryz.prog 104 #[.agg #[.int .i64 y, .int .i64 m, .int .i64 d, .int .i64 k]] W fun e w' => e = .returned (.bool (rdB y m d)) ∧ Below W.heap.size W w' := fun W hW => isDay_any y m d k W (hw.below hW)
  have hD : ∀ W (j : Int), Ext w W → 1 ≤ j → j ≤ 12 → Calls Tryz.prog 86 #[.int .i64 y, .int .i64 j] W fun e w' => e = .returned (.int .i64 (mdays y j)) ∧ w' = W := fun W j hW h1 h2 => (days_any y W (hw.below hW) j h1 h2).mono fun _ _ h => ⟨h.1, h.2.symm⟩
  clear hw
  cases hr : rdB y m d with
  | false =>
    have HF := Lib.hid (tk_no (y := y) (m := m) (d := d) (s := s) (by rw [hr]; simp))
    rw [hr] at hI
    clear hr hD
    go_enter Tryz.func78, Tryz.ntmps78
    go_wp2_with (go_at_call 104; ((with_reducible refine (hI _ (by go_grown)).mono ?_); rintro e w1 ⟨rfl, hb1⟩))
    go_ret2
    exact ⟨ret_two ⟨HF.out.1.symm, HF.out.2.symm⟩, Ext.tr (by go_grown) hb1⟩
  | true =>
    by_cases h1 : s < 0
    · have HF := Lib.hid (tk_no (y := y) (m := m) (d := d) (s := s) (by omega))
      rw [hr] at hI
      clear hr hD
      go_enter Tryz.func78, Tryz.ntmps78
      go_wp2_with (go_at_call 104; ((with_reducible refine (hI _ (by go_grown)).mono ?_); rintro e w1 ⟨rfl, hb1⟩))
      go_ret2
      exact ⟨ret_two ⟨HF.out.1.symm, HF.out.2.symm⟩, Ext.tr (by go_grown) hb1⟩
    by_cases h2 : 86400 ≤ s
    · have HF := Lib.hid (tk_no (y := y) (m := m) (d := d) (s := s) (by omega))
      rw [hr] at hI
      clear hr hD
      go_enter Tryz.func78, Tryz.ntmps78
      go_wp2_with (go_at_call 104; ((with_reducible refine (hI _ (by go_grown)).mono ?_); rintro e w1 ⟨rfl, hb1⟩))
      go_ret2
      exact ⟨ret_two ⟨HF.out.1.symm, HF.out.2.symm⟩, Ext.tr (by go_grown) hb1⟩
    have HF := Lib.hid (tk_yes (y := y) (m := m) (d := d) (s := s) ⟨hr, by omega, by omega⟩)
    have hnb := num_bd hr
    obtain ⟨p1, p2, p3, p4, p5, p6⟩ := rd_iff.1 hr
    have ha := ahead_bd (y := y) (by omega) (by omega)
    have hmb := mdays_bd y m
    have HN : Hid (num y m d = ahead y + cum y m + d - 1) := Lib.hid rfl
    have hA := fun W => (ahead_any y W (by omega) (by omega))
    rw [hr] at hI
    clear hr
    generalize num y m d = N at *
    generalize hAy : ahead y = A at *
    clear hAy
    have e0 : ∀ b, Ext w (w.alloc b) := fun b => (Below.refl _ _).alloc (Nat.le_refl _) _
    go_enter Tryz.func78, Tryz.ntmps78
    go_wp2_with (go_at_call 104; ((with_reducible refine (hI _ (by go_grown)).mono ?_); rintro e w1 ⟨rfl, hb1⟩))
    obtain ⟨hc, hf⟩ := bcell hb1
    have E1 : Ext w w1 := Ext.tr (e0 _) hb1
    have g0 : w1.cell? ⟨w.heap.size, 0, none⟩ = some (.int .i64 y) := by rw [hc _ _ (by simp)]; simp
    have g1 : w1.cell? ⟨w.heap.size, 1, none⟩ = some (.int .i64 m) := by rw [hc _ _ (by simp)]; simp
    have g2 : w1.cell? ⟨w.heap.size, 2, none⟩ = some (.int .i64 d) := by rw [hc _ _ (by simp)]; simp
    clear hc hf hb1 hI e0
    go_quiet ((go_at_call 85; exact Calls.quiet_of_same ((hA _).mono fun _ _ h => ⟨h.1, h.2.symm⟩)))
    have E2 : Ext w (w1.drewN nq) := below_drewN E1 _
    go_wp2
    go_loop [6, 7] (fun u i => ∃ j : Int, 1 ≤ j ∧ j ≤ m ∧ i = .int .i64 j ∧ u = .int .i64 (A + cum y j + d - 1)) (fun _ i => (12 - intOf i).toNat)
    case atStart => exact ⟨1, by omega, by omega, rfl, by rw [cum_1]; go_num⟩
    case round =>
      obtain ⟨j, hj1, hj2, rfl, rfl⟩ := hrel
      have hcb := cum_bd y j (by omega) (by omega)
      have hjb := mdays_bd y j
      by_cases hlt : j < m
      · have hDj := hD (w1.drewN nq) j E2 (by omega) (by omega)
        have HS := Lib.hid (cum_succ y j (by omega) (by omega))
        clear hD
        go_wp2_with (go_at_call 86; ((with_reducible refine hDj.mono ?_); rintro e w' ⟨rfl, rfl⟩))
        go_round
        case rel => exact ⟨j + 1, by omega, by omega, rfl, by rw [HS.out]; go_num⟩
        case measure => simp [intOf]; omega
      · obtain rfl : j = m := by omega
        have hN := HN.out
        have hN' : A + cum y j + d - 1 = N := hN.symm
        have HN' := Lib.hid hN'
        clear hN hN' HN
        go_wp2
        go_ret2
        exact ⟨ret_two ⟨by rw [HF.out.1, HN'.out], HF.out.2.symm⟩, E2⟩

set_option maxHeartbeats 4000000 in
theorem rtick_any (y m d k s : Int) (w : World) :
    Calls Tryz.prog 80 #[.agg #[.int .i64 y, .int .i64 m, .int .i64 d, .int .i64 k], .int .i64 s] w fun e w' => e = .returned (.tuple #[.int .i64 (tkV y m d s), .int .i64 (tkE y m d s)]) ∧ Below w.heap.size w w' := by
  have hI : ∀ W, Ext w W → Calls Tryz.prog 105 #[.agg #[.int .i64 y, .int .i64 m, .int .i64 d, .int .i64 k]] W fun e w' => e = .returned (.bool (rdB y m d)) ∧ Below W.heap.size W w' := fun W _ => rright_any y m d k W
  have hD : ∀ W (j : Int), Ext w W → 1 ≤ j → j ≤ 12 → Calls Tryz.prog 90 #[.int .i64 y, .int .i64 j] W fun e w' => e = .returned (.int .i64 (mdays y j)) ∧ w' = W := fun W j _ h1 h2 => (rdays_any y W j h1 h2).mono fun _ _ h => ⟨h.1, h.2.symm⟩
  cases hr : rdB y m d with
  | false =>
    have HF := Lib.hid (tk_no (y := y) (m := m) (d := d) (s := s) (by rw [hr]; simp))
    rw [hr] at hI
    clear hr hD
    go_enter Tryz.func80, Tryz.ntmps80
    go_wp2_with (go_at_call 105; ((with_reducible refine (hI _ (by go_grown)).mono ?_); rintro e w1 ⟨rfl, hb1⟩))
    go_ret2
    exact ⟨ret_two ⟨HF.out.1.symm, HF.out.2.symm⟩, Ext.tr (by go_grown) hb1⟩
  | true =>
    by_cases h1 : s < 0
    · have HF := Lib.hid (tk_no (y := y) (m := m) (d := d) (s := s) (by omega))
      rw [hr] at hI
      clear hr hD
      go_enter Tryz.func80, Tryz.ntmps80
      go_wp2_with (go_at_call 105; ((with_reducible refine (hI _ (by go_grown)).mono ?_); rintro e w1 ⟨rfl, hb1⟩))
      go_ret2
      exact ⟨ret_two ⟨HF.out.1.symm, HF.out.2.symm⟩, Ext.tr (by go_grown) hb1⟩
    by_cases h2 : 86400 ≤ s
    · have HF := Lib.hid (tk_no (y := y) (m := m) (d := d) (s := s) (by omega))
      rw [hr] at hI
      clear hr hD
      go_enter Tryz.func80, Tryz.ntmps80
      go_wp2_with (go_at_call 105; ((with_reducible refine (hI _ (by go_grown)).mono ?_); rintro e w1 ⟨rfl, hb1⟩))
      go_ret2
      exact ⟨ret_two ⟨HF.out.1.symm, HF.out.2.symm⟩, Ext.tr (by go_grown) hb1⟩
    have HF := Lib.hid (tk_yes (y := y) (m := m) (d := d) (s := s) ⟨hr, by omega, by omega⟩)
    have hnb := num_bd hr
    obtain ⟨p1, p2, p3, p4, p5, p6⟩ := rd_iff.1 hr
    have ha := ahead_bd (y := y) (by omega) (by omega)
    have hmb := mdays_bd y m
    have HN : Hid (num y m d = ahead y + cum y m + d - 1) := Lib.hid rfl
    have hA := fun W => (rahead_any y W (by omega) (by omega))
    rw [hr] at hI
    clear hr
    generalize num y m d = N at *
    generalize hAy : ahead y = A at *
    clear hAy
    have e0 : ∀ b, Ext w (w.alloc b) := fun b => (Below.refl _ _).alloc (Nat.le_refl _) _
    go_enter Tryz.func80, Tryz.ntmps80
    go_wp2_with (go_at_call 105; ((with_reducible refine (hI _ (by go_grown)).mono ?_); rintro e w1 ⟨rfl, hb1⟩))
    obtain ⟨hc, hf⟩ := bcell hb1
    have E1 : Ext w w1 := Ext.tr (e0 _) hb1
    have g0 : w1.cell? ⟨w.heap.size, 0, none⟩ = some (.int .i64 y) := by rw [hc _ _ (by simp)]; simp
    have g1 : w1.cell? ⟨w.heap.size, 1, none⟩ = some (.int .i64 m) := by rw [hc _ _ (by simp)]; simp
    have g2 : w1.cell? ⟨w.heap.size, 2, none⟩ = some (.int .i64 d) := by rw [hc _ _ (by simp)]; simp
    clear hc hf hb1 hI e0
    go_quiet ((go_at_call 89; exact Calls.quiet_of_same ((hA _).mono fun _ _ h => ⟨h.1, h.2.symm⟩)))
    have E2 : Ext w (w1.drewN nq) := below_drewN E1 _
    go_wp2
    go_loop [6, 7] (fun u i => ∃ j : Int, 1 ≤ j ∧ j ≤ m ∧ i = .int .i64 j ∧ u = .int .i64 (A + cum y j + d - 1)) (fun _ i => (12 - intOf i).toNat)
    case atStart => exact ⟨1, by omega, by omega, rfl, by rw [cum_1]; go_num⟩
    case round =>
      obtain ⟨j, hj1, hj2, rfl, rfl⟩ := hrel
      have hcb := cum_bd y j (by omega) (by omega)
      have hjb := mdays_bd y j
      by_cases hlt : j < m
      · have hDj := hD (w1.drewN nq) j E2 (by omega) (by omega)
        have HS := Lib.hid (cum_succ y j (by omega) (by omega))
        clear hD
        go_wp2_with (go_at_call 90; ((with_reducible refine hDj.mono ?_); rintro e w' ⟨rfl, rfl⟩))
        go_round
        case rel => exact ⟨j + 1, by omega, by omega, rfl, by rw [HS.out]; go_num⟩
        case measure => simp [intOf]; omega
      · obtain rfl : j = m := by omega
        have hN := HN.out
        have hN' : A + cum y j + d - 1 = N := hN.symm
        have HN' := Lib.hid hN'
        clear hN hN' HN
        go_wp2
        go_ret2
        exact ⟨ret_two ⟨by rw [HF.out.1, HN'.out], HF.out.2.symm⟩, E2⟩
end Go.Proofs.YtomcoacndppkcaaGreatDoor.D
