/-
  The walk of DateBack.
-/
import Derived.Test.YtooogbjpajikiaaDoorDL
namespace Go.Proofs.YtooogbjpajikiaaDoor
open Go Go.RowKit

set_option maxRecDepth 100000 in
set_option maxHeartbeats 4000000 in
theorem walk_DateBack (t week : Int) (w : World) (hw : LaidD w) (_ht : (Lit.int .i64 t).wf = true) (_hk : (Lit.int .i64 week).wf = true) :
    Calls Tryd.prog 9 #[.int .i64 t, .int .i64 week] w fun e w' => e = .returned (.bool true) ∧ Below w.heap.size w w' := by
  have hA := awake_any w hw
  clear _ht _hk
  by_cases h0 : t < 0
  · clear hw
    go_enter Tryd.func9, Tryd.ntmps9
    go_wp2_with (go_at_call 10; ((with_reducible refine hA.mono ?_); rintro e w1 ⟨rfl, hb1⟩; have E1 : Ext w w1 := hb1; clear hb1))
    go_ret
    exact ⟨rfl, E1⟩
  by_cases h9 : 253402300799 < t
  · clear hw
    go_enter Tryd.func9, Tryd.ntmps9
    go_wp2_with (go_at_call 10; ((with_reducible refine hA.mono ?_); rintro e w1 ⟨rfl, hb1⟩; have E1 : Ext w w1 := hb1; clear hb1))
    go_ret
    exact ⟨rfl, E1⟩
  have h1 : ∀ W, Ext w W → Calls Tryd.prog 11 #[.int .i64 t] W fun e w' => e = .returned (ofR t) ∧ Below W.heap.size W w' := fun W hW => of_any t W (hw.below hW)
  rw [ofR_yes (inT_iff.2 ⟨by omega, by omega⟩)] at h1
  obtain ⟨hr, hn⟩ := of_num (n := t / 86400) (by omega) (by omega)
  obtain ⟨p1, p2, p3, p4, p5, p6⟩ := rd_iff.1 hr
  have h2 : ∀ W, Ext w W → Calls Tryd.prog 14 #[.agg #[.int .i64 (yO (t / 86400)), .int .i64 (mO (t / 86400)), .int .i64 (dO (t / 86400)), .int .i64 week], .int .i64 (t % 86400)] W fun e w' => e = .returned (.tuple #[.int .i64 t, .int .i64 0]) ∧ Below W.heap.size W w' := fun W hW => by
    have := tick_any (yO (t / 86400)) (mO (t / 86400)) (dO (t / 86400)) week (t % 86400) W (hw.below hW)
    have hk := tk_yes (y := yO (t / 86400)) (m := mO (t / 86400)) (d := dO (t / 86400)) (s := t % 86400) ⟨hr, by omega, by omega⟩
    rw [hk.1, hk.2, hn, show t / 86400 * 86400 + t % 86400 = t by omega] at this
    exact this
  have hL := fun W => leap_any (yO (t / 86400)) W
  have hlp : mO (t / 86400) = 2 → dO (t / 86400) = 29 → lpB (yO (t / 86400)) = true := fun a b => by
    rw [a, b] at p6
    simp only [mdays, lpI] at p6
    cases h : lpB (yO (t / 86400)) with
    | true => rfl
    | false => rw [h] at p6; simp at p6
  have s0 : 0 ≤ t % 86400 := by omega
  have s9 : t % 86400 ≤ 86399 := by omega
  have h0' : 0 ≤ t := by omega
  clear hw hr hn p6
  generalize yO (t / 86400) = y at *
  generalize mO (t / 86400) = m at *
  generalize dO (t / 86400) = d at *
  generalize (t / 86400 + 4) % 7 = k at *
  generalize t % 86400 = s at *
  have HL := Lib.hid hlp
  clear hlp
  by_cases c2 : m = 2
  · by_cases c29 : d = 29
    · have hl := HL.out c2 c29
      rw [hl] at hL
      subst c2
      subst c29
      clear HL hl
      go_enter Tryd.func9, Tryd.ntmps9
      go_wp2_with (go_at_call 10; ((with_reducible refine hA.mono ?_); rintro e w1 ⟨rfl, hb1⟩; have E1 : Ext w w1 := hb1; clear hb1))
      with_reducible refine (h1 _ E1).mono ?_
      rintro e w2 ⟨rfl, hb2⟩
      have E3 : Ext w (w2.alloc (.cells #[.int .i64 y, .int .i64 2, .int .i64 29, .int .i64 week] 24)) := Ext.tr (Ext.tr E1 hb2) ((Below.refl _ _).alloc (Nat.le_refl _) _)
      clear hb2 h1
      go_wp2_with (go_at_call 20; ((with_reducible refine (hL _).mono ?_); rintro e w' ⟨rfl, rfl⟩))
      with_reducible refine (h2 _ E3).mono ?_
      rintro e w4 ⟨rfl, hb4⟩
      have E4 := Ext.tr E3 hb4
      clear h2 hb4
      go_wp2
      go_ret
      exact ⟨rfl, E4⟩
    · clear HL hL
      subst c2
      go_enter Tryd.func9, Tryd.ntmps9
      go_wp2_with (go_at_call 10; ((with_reducible refine hA.mono ?_); rintro e w1 ⟨rfl, hb1⟩; have E1 : Ext w w1 := hb1; clear hb1))
      with_reducible refine (h1 _ E1).mono ?_
      rintro e w2 ⟨rfl, hb2⟩
      have E3 : Ext w (w2.alloc (.cells #[.int .i64 y, .int .i64 2, .int .i64 d, .int .i64 week] 24)) := Ext.tr (Ext.tr E1 hb2) ((Below.refl _ _).alloc (Nat.le_refl _) _)
      clear hb2 h1
      go_wp2_with fail
      with_reducible refine (h2 _ E3).mono ?_
      rintro e w4 ⟨rfl, hb4⟩
      have E4 := Ext.tr E3 hb4
      clear h2 hb4
      go_wp2
      go_ret
      exact ⟨rfl, E4⟩
  · clear HL hL
    go_enter Tryd.func9, Tryd.ntmps9
    go_wp2_with (go_at_call 10; ((with_reducible refine hA.mono ?_); rintro e w1 ⟨rfl, hb1⟩; have E1 : Ext w w1 := hb1; clear hb1))
    with_reducible refine (h1 _ E1).mono ?_
    rintro e w2 ⟨rfl, hb2⟩
    have E3 : Ext w (w2.alloc (.cells #[.int .i64 y, .int .i64 m, .int .i64 d, .int .i64 week] 24)) := Ext.tr (Ext.tr E1 hb2) ((Below.refl _ _).alloc (Nat.le_refl _) _)
    clear hb2 h1
    go_wp2_with fail
    with_reducible refine (h2 _ E3).mono ?_
    rintro e w4 ⟨rfl, hb4⟩
    have E4 := Ext.tr E3 hb4
    clear h2 hb4
    go_wp2
    go_ret
    exact ⟨rfl, E4⟩
end Go.Proofs.YtooogbjpajikiaaDoor
