/-
  Layer 6 (date): what the listed variables give a walk; whether a tick may be, leap years, days ahead of a year, of both.
-/
import Derived.Test.YtomcoacndppkcaaGreatDoorDT
import Derived.Test.YtomcoacndppkcaaGreatDoorRegion
import Derived.WalkKit
import Derived.BigQuiet
import Derived.Deep.QuietTactic
import Derived.RegionTactic
import Derived.ChangeAlike
import Derived.Outline
import Derived.Handy
import Derived.Lib.Hide
import Derived.Lib.Strings
import Derived.Lib.LaidTab
import Derived.Lib.SmallJoins
import Derived.WalkSmall
import Derived.WalkSpells
import Derived.Deep.RegionHeld3
import Derived.Laws.OwnMore
import Derived.Laws.StructEq
import Derived.KernelRfl
import Derived.IntWalk
namespace Go.Proofs.YtomcoacndppkcaaGreatDoor.D
open Go Go.RowKit

theorem ret_bool {a b : Bool} (h : a = b) : Ending.returned (.bool a) = .returned (.bool b) := by rw [h]
theorem ret_int {k : IntKind} {a b : Int} (h : a = b) : Ending.returned (.int k a) = .returned (.int k b) := by rw [h]
theorem ret_str {a b : ByteArray} (h : a = b) : Ending.returned (.string a) = .returned (.string b) := by rw [h]
theorem bcell {W w1 : World} (hb : Below W.heap.size W w1) : (∀ b o, b < W.heap.size → w1.cell? ⟨b, o, none⟩ = W.cell? ⟨b, o, none⟩) ∧ (∀ b o, b < W.heap.size → w1.frozen? ⟨b, o, none⟩ = W.frozen? ⟨b, o, none⟩) :=
  ⟨fun b o h => hb.cell (p := ⟨b, o, none⟩) h, fun b o h => hb.frozen (p := ⟨b, o, none⟩) h⟩

/-- the days of a month of a year that has no day more -/
def mdN (k : Nat) : Int := [31, 28, 31, 30, 31, 30, 31, 31, 30, 31, 30, 31].getD k 0
theorem gTab : Tryz.prog.globalNamed "internal/strconv.uint64pow10" = some 8 := by kernel_rfl
/-- what a walk wants of the variables -/
structure LaidD (w : World) : Prop where
  tab : Lib.TabIs Tryz.prog w "internal/strconv.uint64pow10" .u64 Lib.pow10Tab
  es : ∃ tp p, w.cell? ⟨6, 0, Option.none⟩ = some (.iface tp p)
  wk : ∀ k : Nat, k < 7 → w.cell? ⟨0, k, Option.none⟩ = some (.string (wkB k))
  mo : ∀ k : Nat, k < 12 → w.cell? ⟨1, k, Option.none⟩ = some (.string (moB (k + 1)))
  md : ∀ k : Nat, k < 12 → w.cell? ⟨2, k, Option.none⟩ = some (.int .i64 (mdN k))
  s0 : 8 < w.heap.size
  s1 : 6 < w.heap.size
  s2 : 0 < w.heap.size
  s3 : 1 < w.heap.size
  s4 : 2 < w.heap.size

theorem LaidD.below {w w1 : World} (h : LaidD w) (hb : Below w.heap.size w w1) : LaidD w1 := by
  obtain ⟨tp, p, h1⟩ := h.es
  have c := (bcell hb).1
  exact ⟨var?_below hb gTab h.s0 h.tab, ⟨tp, p, by rw [c _ _ h.s1]; exact h1⟩, fun k hk => by rw [c _ _ h.s2]; exact h.wk k hk, fun k hk => by rw [c _ _ h.s3]; exact h.mo k hk, fun k hk => by rw [c _ _ h.s4]; exact h.md k hk,
    Nat.lt_of_lt_of_le h.s0 hb.size, Nat.lt_of_lt_of_le h.s1 hb.size, Nat.lt_of_lt_of_le h.s2 hb.size, Nat.lt_of_lt_of_le h.s3 hb.size, Nat.lt_of_lt_of_le h.s4 hb.size⟩

theorem isTick_any (t : Int) (w : World) :
    Calls Tryz.prog 58 #[.int .i64 t] w fun e w' => e = .returned (.bool (inT t)) ∧ w = w' := by
  by_cases h0 : 0 ≤ t
  · by_cases h9 : t ≤ 253402300799
    · have HF : Hid (inT t = true) := Lib.hid (inT_iff.2 ⟨h0, h9⟩)
      go_enter Tryz.func58, Tryz.ntmps58
      go_wp2
      go_ret
      exact ⟨ret_bool HF.out.symm, rfl⟩
    · have HF : Hid (inT t = false) := Lib.hid (by unfold inT; simp; omega)
      go_enter Tryz.func58, Tryz.ntmps58
      go_wp2
      go_ret
      exact ⟨ret_bool HF.out.symm, rfl⟩
  · have HF : Hid (inT t = false) := Lib.hid (by unfold inT; simp; omega)
    go_enter Tryz.func58, Tryz.ntmps58
    go_wp2
    go_ret
    exact ⟨ret_bool HF.out.symm, rfl⟩

set_option maxHeartbeats 1000000 in
theorem leap_any (y : Int) (w : World) :
    Calls Tryz.prog 107 #[.int .i64 y] w fun e w' => e = .returned (.bool (lpB y)) ∧ w = w' := by
  cases c4 : (y.tmod 4 == 0) with
  | false =>
    have HF : Hid (lpB y = false) := Lib.hid (by unfold lpB; rw [c4]; rfl)
    go_enter Tryz.func107, Tryz.ntmps107
    go_wp2
    go_ret
    exact ⟨ret_bool HF.out.symm, rfl⟩
  | true =>
    cases c100 : (y.tmod 100 != 0) with
    | true =>
      have HF : Hid (lpB y = true) := Lib.hid (by unfold lpB; rw [c4, c100]; rfl)
      go_enter Tryz.func107, Tryz.ntmps107
      go_wp2
      go_ret
      exact ⟨ret_bool HF.out.symm, rfl⟩
    | false =>
      have HF : Hid (lpB y = (y.tmod 400 == 0)) := Lib.hid (by unfold lpB; rw [c4, c100]; rfl)
      go_enter Tryz.func107, Tryz.ntmps107
      go_wp2
      go_ret
      exact ⟨ret_bool HF.out.symm, rfl⟩
set_option maxHeartbeats 1000000 in
theorem rleap_any (y : Int) (w : World) :
    Calls Tryz.prog 112 #[.int .i64 y] w fun e w' => e = .returned (.bool (lpB y)) ∧ w = w' := by
  cases c4 : (y.tmod 4 == 0) with
  | false =>
    have HF : Hid (lpB y = (y.tmod 400 == 0)) := Lib.hid (by
      unfold lpB; rw [c4]
      have : (y.tmod 4 == 0) = false := c4
      rw [beq_eq_false_iff_ne] at this
      symm; rw [Bool.false_and, beq_eq_false_iff_ne]
      exact fun h => this (Int.tmod_eq_zero_of_dvd (Int.dvd_trans (by decide : (4 : Int) ∣ 400) (Int.dvd_of_tmod_eq_zero h))))
    go_enter Tryz.func112, Tryz.ntmps112
    go_wp2
    go_ret
    exact ⟨ret_bool HF.out.symm, rfl⟩
  | true =>
    cases c100 : (y.tmod 100 != 0) with
    | true =>
      have HF : Hid (lpB y = true) := Lib.hid (by unfold lpB; rw [c4, c100]; rfl)
      go_enter Tryz.func112, Tryz.ntmps112
      go_wp2
      go_ret
      exact ⟨ret_bool HF.out.symm, rfl⟩
    | false =>
      have HF : Hid (lpB y = (y.tmod 400 == 0)) := Lib.hid (by unfold lpB; rw [c4, c100]; rfl)
      go_enter Tryz.func112, Tryz.ntmps112
      go_wp2
      go_ret
      exact ⟨ret_bool HF.out.symm, rfl⟩

theorem leaps_any (y : Int) (w : World) (h0 : 0 ≤ y) (h9 : y ≤ 10000) :
    Calls Tryz.prog 106 #[.int .i64 y] w fun e w' => e = .returned (.int .i64 (y / 4 - y / 100 + y / 400)) ∧ w = w' := by
  go_enter Tryz.func106, Tryz.ntmps106
  go_wp2
  go_ret
  exact ⟨rfl, rfl⟩
theorem ahead_any (y : Int) (w : World) (h0 : 1 ≤ y) (h9 : y ≤ 10001) :
    Calls Tryz.prog 85 #[.int .i64 y] w fun e w' => e = .returned (.int .i64 (ahead y)) ∧ w = w' := by
  have HF : Hid (ahead y = 365 * (y - 1970) + ((y - 1) / 4 - (y - 1) / 100 + (y - 1) / 400) - (1969 / 4 - 1969 / 100 + 1969 / 400)) := Lib.hid (by unfold ahead; omega)
  go_enter Tryz.func85, Tryz.ntmps85
  go_wp2_with (go_at_call 106; ((with_reducible refine (leaps_any _ _ (by omega) (by omega)).mono ?_); rintro e w' ⟨rfl, rfl⟩))
  go_ret
  exact ⟨ret_int HF.out.symm, rfl⟩
theorem rahead_any (y : Int) (w : World) (h0 : 1 ≤ y) (h9 : y ≤ 10001) :
    Calls Tryz.prog 89 #[.int .i64 y] w fun e w' => e = .returned (.int .i64 (ahead y)) ∧ w = w' := by
  have HF : Hid (ahead y = 365 * (y - 1970) + (y - 1) / 4 - (y - 1) / 100 + (y - 1) / 400 - 477) := Lib.hid (by unfold ahead; omega)
  go_enter Tryz.func89, Tryz.ntmps89
  go_wp2
  go_ret
  exact ⟨ret_int HF.out.symm, rfl⟩

set_option maxHeartbeats 4000000 in
theorem days_any (y : Int) (w : World) (hw : LaidD w) : ∀ m : Int, 1 ≤ m → m ≤ 12 →
    Calls Tryz.prog 86 #[.int .i64 y, .int .i64 m] w fun e w' => e = .returned (.int .i64 (mdays y m)) ∧ w = w' := by
  have hL := leap_any y
  have HM := Lib.hid hw.md
  clear hw
  refine months ?h1 ?h2 ?h3 ?h4 ?h5 ?h6 ?h7 ?h8 ?h9 ?h10 ?h11 ?h12
  case h2 =>
    have hc : w.cell? ⟨2, 1, Option.none⟩ = some (.int .i64 28) := HM.out 1 (by omega)
    cases hl : lpB y with
    | true =>
      have HF : Hid (mdays y 2 = 29) := Lib.hid (by simp [mdays, lpI, hl])
      rw [hl] at hL
      clear HM hl
      go_enter Tryz.func86, Tryz.ntmps86
      go_wp2_with (go_at_call 107; ((with_reducible refine (hL _).mono ?_); rintro e w' ⟨rfl, rfl⟩))
      go_ret
      exact ⟨ret_int HF.out.symm, rfl⟩
    | false =>
      have HF : Hid (mdays y 2 = 28) := Lib.hid (by simp [mdays, lpI, hl])
      rw [hl] at hL
      clear HM hl
      go_enter Tryz.func86, Tryz.ntmps86
      go_wp2_with (go_at_call 107; ((with_reducible refine (hL _).mono ?_); rintro e w' ⟨rfl, rfl⟩))
      go_ret
      exact ⟨ret_int HF.out.symm, rfl⟩
  case h1 =>
    have hc : w.cell? ⟨2, 0, Option.none⟩ = some (.int .i64 31) := HM.out 0 (by omega)
    clear HM
    go_enter Tryz.func86, Tryz.ntmps86
    go_wp2
    go_ret
    exact ⟨ret_int (by simp [mdays]), rfl⟩
  case h3 =>
    have hc : w.cell? ⟨2, 2, Option.none⟩ = some (.int .i64 31) := HM.out 2 (by omega)
    clear HM
    go_enter Tryz.func86, Tryz.ntmps86
    go_wp2
    go_ret
    exact ⟨ret_int (by simp [mdays]), rfl⟩
  case h4 =>
    have hc : w.cell? ⟨2, 3, Option.none⟩ = some (.int .i64 30) := HM.out 3 (by omega)
    clear HM
    go_enter Tryz.func86, Tryz.ntmps86
    go_wp2
    go_ret
    exact ⟨ret_int (by simp [mdays]), rfl⟩
  case h5 =>
    have hc : w.cell? ⟨2, 4, Option.none⟩ = some (.int .i64 31) := HM.out 4 (by omega)
    clear HM
    go_enter Tryz.func86, Tryz.ntmps86
    go_wp2
    go_ret
    exact ⟨ret_int (by simp [mdays]), rfl⟩
  case h6 =>
    have hc : w.cell? ⟨2, 5, Option.none⟩ = some (.int .i64 30) := HM.out 5 (by omega)
    clear HM
    go_enter Tryz.func86, Tryz.ntmps86
    go_wp2
    go_ret
    exact ⟨ret_int (by simp [mdays]), rfl⟩
  case h7 =>
    have hc : w.cell? ⟨2, 6, Option.none⟩ = some (.int .i64 31) := HM.out 6 (by omega)
    clear HM
    go_enter Tryz.func86, Tryz.ntmps86
    go_wp2
    go_ret
    exact ⟨ret_int (by simp [mdays]), rfl⟩
  case h8 =>
    have hc : w.cell? ⟨2, 7, Option.none⟩ = some (.int .i64 31) := HM.out 7 (by omega)
    clear HM
    go_enter Tryz.func86, Tryz.ntmps86
    go_wp2
    go_ret
    exact ⟨ret_int (by simp [mdays]), rfl⟩
  case h9 =>
    have hc : w.cell? ⟨2, 8, Option.none⟩ = some (.int .i64 30) := HM.out 8 (by omega)
    clear HM
    go_enter Tryz.func86, Tryz.ntmps86
    go_wp2
    go_ret
    exact ⟨ret_int (by simp [mdays]), rfl⟩
  case h10 =>
    have hc : w.cell? ⟨2, 9, Option.none⟩ = some (.int .i64 31) := HM.out 9 (by omega)
    clear HM
    go_enter Tryz.func86, Tryz.ntmps86
    go_wp2
    go_ret
    exact ⟨ret_int (by simp [mdays]), rfl⟩
  case h11 =>
    have hc : w.cell? ⟨2, 10, Option.none⟩ = some (.int .i64 30) := HM.out 10 (by omega)
    clear HM
    go_enter Tryz.func86, Tryz.ntmps86
    go_wp2
    go_ret
    exact ⟨ret_int (by simp [mdays]), rfl⟩
  case h12 =>
    have hc : w.cell? ⟨2, 11, Option.none⟩ = some (.int .i64 31) := HM.out 11 (by omega)
    clear HM
    go_enter Tryz.func86, Tryz.ntmps86
    go_wp2
    go_ret
    exact ⟨ret_int (by simp [mdays]), rfl⟩

set_option maxHeartbeats 4000000 in
theorem rdays_any (y : Int) (w : World) : ∀ m : Int, 1 ≤ m → m ≤ 12 →
    Calls Tryz.prog 90 #[.int .i64 y, .int .i64 m] w fun e w' => e = .returned (.int .i64 (mdays y m)) ∧ w = w' := by
  have hL := rleap_any y
  refine months ?h1 ?h2 ?h3 ?h4 ?h5 ?h6 ?h7 ?h8 ?h9 ?h10 ?h11 ?h12
  case h2 =>
    cases hl : lpB y with
    | true =>
      have HF : Hid (mdays y 2 = 29) := Lib.hid (by simp [mdays, lpI, hl])
      rw [hl] at hL
      clear hl
      go_enter Tryz.func90, Tryz.ntmps90
      go_wp2_with (go_at_call 112; ((with_reducible refine (hL _).mono ?_); rintro e w' ⟨rfl, rfl⟩))
      go_ret
      exact ⟨ret_int HF.out.symm, rfl⟩
    | false =>
      have HF : Hid (mdays y 2 = 28) := Lib.hid (by simp [mdays, lpI, hl])
      rw [hl] at hL
      clear hl
      go_enter Tryz.func90, Tryz.ntmps90
      go_wp2_with (go_at_call 112; ((with_reducible refine (hL _).mono ?_); rintro e w' ⟨rfl, rfl⟩))
      go_ret
      exact ⟨ret_int HF.out.symm, rfl⟩
  all_goals
    clear hL
    go_enter Tryz.func90, Tryz.ntmps90
    go_wp2
    go_ret
    exact ⟨ret_int (by simp [mdays]), rfl⟩
end Go.Proofs.YtomcoacndppkcaaGreatDoor.D
