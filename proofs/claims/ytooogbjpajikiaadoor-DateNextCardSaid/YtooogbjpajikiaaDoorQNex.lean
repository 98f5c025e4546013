/-
  The walk of DateNext.
-/
import Derived.Test.YtooogbjpajikiaaDoorDL
namespace Go.Proofs.YtooogbjpajikiaaDoor
open Go Go.RowKit

set_option maxRecDepth 100000 in
set_option maxHeartbeats 4000000 in
theorem walk_DateNext (t : Int) (w : World) (hw : LaidD w) (_ht : (Lit.int .i64 t).wf = true) :
    Calls Tryd.prog 8 #[.int .i64 t] w fun e w' => e = .returned (.bool true) ∧ Below w.heap.size w w' := by
  have hA := awake_any w hw
  clear _ht
  by_cases h0 : t < 0
  · clear hw
    go_enter Tryd.func8, Tryd.ntmps8
    go_wp2_with (go_at_call 10; ((with_reducible refine hA.mono ?_); rintro e w1 ⟨rfl, hb1⟩; have E1 : Ext w w1 := hb1; clear hb1))
    go_ret
    exact ⟨rfl, E1⟩
  by_cases h9 : 253402214399 < t
  · clear hw
    go_enter Tryd.func8, Tryd.ntmps8
    go_wp2_with (go_at_call 10; ((with_reducible refine hA.mono ?_); rintro e w1 ⟨rfl, hb1⟩; have E1 : Ext w w1 := hb1; clear hb1))
    go_ret
    exact ⟨rfl, E1⟩
  have h1 : ∀ W, Ext w W → Calls Tryd.prog 11 #[.int .i64 t] W fun e w' => e = .returned (ofR t) ∧ Below W.heap.size W w' := fun W hW => of_any t W (hw.below hW)
  have h2 : ∀ W, Ext w W → Calls Tryd.prog 11 #[.int .i64 (t + 86400)] W fun e w' => e = .returned (ofR (t + 86400)) ∧ Below W.heap.size W w' := fun W hW => of_any (t + 86400) W (hw.below hW)
  rw [ofR_yes (inT_iff.2 ⟨by omega, by omega⟩)] at h1 h2
  have e1 : (t + 86400) / 86400 = t / 86400 + 1 := by omega
  have e2 : (t + 86400) % 86400 = t % 86400 := by omega
  have e3 : (t / 86400 + 1 + 4) % 7 = ((t / 86400 + 4) % 7 + 1) % 7 := by omega
  rw [e1, e2, e3] at h2
  have hk0 : 0 ≤ (t / 86400 + 4) % 7 := by omega
  have hk6 : (t / 86400 + 4) % 7 ≤ 6 := by omega
  obtain ⟨hr, -⟩ := of_num (n := t / 86400) (by omega) (by omega)
  obtain ⟨p1, p2, p3, p4, p5, p6⟩ := rd_iff.1 hr
  have pm := mdays_bd (yO (t / 86400)) (mO (t / 86400))
  have hn := next_day (n := t / 86400) (by omega) (by omega)
  have h0' : 0 ≤ t := by omega
  clear hw e1 e2 e3 hr
  generalize mdays (yO (t / 86400)) (mO (t / 86400)) = Q at *
  generalize (t / 86400 + 4) % 7 = k at *
  generalize t % 86400 = s at *
  generalize hY' : yO (t / 86400 + 1) = y' at *
  generalize hM' : mO (t / 86400 + 1) = m' at *
  generalize hD' : dO (t / 86400 + 1) = d' at *
  generalize hY : yO (t / 86400) = y at *
  generalize hM : mO (t / 86400) = m at *
  generalize hD : dO (t / 86400) = d at *
  clear hY hM hD hY' hM' hD'
  rcases hn with ⟨c1, rfl, rfl, rfl⟩ | ⟨c1, c2, rfl, rfl, rfl⟩ | ⟨rfl, rfl, rfl, rfl, rfl⟩
  · have g1 : ((d + 1) != 1) = true := by rw [bne_iff_ne]; omega
    go_enter Tryd.func8, Tryd.ntmps8
    go_wp2_with (go_at_call 10; ((with_reducible refine hA.mono ?_); rintro e w1 ⟨rfl, hb1⟩; have E1 : Ext w w1 := hb1; clear hb1))
    with_reducible refine (h1 _ E1).mono ?_
    rintro e w2 ⟨rfl, hb2⟩
    have E2 := Ext.tr E1 hb2
    clear hb2 h1
    go_wp2_with fail
    with_reducible refine (h2 _ (Ext.tr E2 ((Below.refl _ _).alloc (Nat.le_refl _) _))).mono ?_
    rintro e w3 ⟨rfl, hb3⟩
    have E3 : Ext w w3 := Ext.tr (Ext.tr E2 ((Below.refl _ _).alloc (Nat.le_refl _) _)) hb3
    obtain ⟨hc, hfr⟩ := bcell hb3
    have p0 : w3.cell? ⟨w2.heap.size, 0, none⟩ = some (.int .i64 y') := by rw [hc _ _ (by simp)]; go_simp
    have p1 : w3.cell? ⟨w2.heap.size, 1, none⟩ = some (.int .i64 m') := by rw [hc _ _ (by simp)]; go_simp
    have p2 : w3.cell? ⟨w2.heap.size, 2, none⟩ = some (.int .i64 d) := by rw [hc _ _ (by simp)]; go_simp
    have p3 : w3.cell? ⟨w2.heap.size, 3, none⟩ = some (.int .i64 k) := by rw [hc _ _ (by simp)]; go_simp
    have p4 : w2.heap.size < w3.heap.size := by have := hb3.size; simp at this; omega
    clear hc hfr hb3 h2
    go_wp2
    go_ret
    exact ⟨rfl, Ext.tr E3 ((Below.refl _ _).alloc (Nat.le_refl _) _)⟩
  · have g1 : ((m + 1) != 1) = true := by rw [bne_iff_ne]; omega
    have g2 : 28 ≤ d := by omega
    have g3 : d ≤ 31 := by omega
    clear c1 p6
    go_enter Tryd.func8, Tryd.ntmps8
    go_wp2_with (go_at_call 10; ((with_reducible refine hA.mono ?_); rintro e w1 ⟨rfl, hb1⟩; have E1 : Ext w w1 := hb1; clear hb1))
    with_reducible refine (h1 _ E1).mono ?_
    rintro e w2 ⟨rfl, hb2⟩
    have E2 := Ext.tr E1 hb2
    clear hb2 h1
    go_wp2_with fail
    with_reducible refine (h2 _ (Ext.tr E2 ((Below.refl _ _).alloc (Nat.le_refl _) _))).mono ?_
    rintro e w3 ⟨rfl, hb3⟩
    have E3 : Ext w w3 := Ext.tr (Ext.tr E2 ((Below.refl _ _).alloc (Nat.le_refl _) _)) hb3
    obtain ⟨hc, hfr⟩ := bcell hb3
    have p0 : w3.cell? ⟨w2.heap.size, 0, none⟩ = some (.int .i64 y') := by rw [hc _ _ (by simp)]; go_simp
    have p1 : w3.cell? ⟨w2.heap.size, 1, none⟩ = some (.int .i64 m) := by rw [hc _ _ (by simp)]; go_simp
    have p2 : w3.cell? ⟨w2.heap.size, 2, none⟩ = some (.int .i64 d) := by rw [hc _ _ (by simp)]; go_simp
    have p3 : w3.cell? ⟨w2.heap.size, 3, none⟩ = some (.int .i64 k) := by rw [hc _ _ (by simp)]; go_simp
    have p4 : w2.heap.size < w3.heap.size := by have := hb3.size; simp at this; omega
    clear hc hfr hb3 h2
    go_wp2
    go_ret
    exact ⟨rfl, Ext.tr E3 ((Below.refl _ _).alloc (Nat.le_refl _) _)⟩
  · clear p6
    go_enter Tryd.func8, Tryd.ntmps8
    go_wp2_with (go_at_call 10; ((with_reducible refine hA.mono ?_); rintro e w1 ⟨rfl, hb1⟩; have E1 : Ext w w1 := hb1; clear hb1))
    with_reducible refine (h1 _ E1).mono ?_
    rintro e w2 ⟨rfl, hb2⟩
    have E2 := Ext.tr E1 hb2
    clear hb2 h1
    go_wp2_with fail
    with_reducible refine (h2 _ (Ext.tr E2 ((Below.refl _ _).alloc (Nat.le_refl _) _))).mono ?_
    rintro e w3 ⟨rfl, hb3⟩
    have E3 : Ext w w3 := Ext.tr (Ext.tr E2 ((Below.refl _ _).alloc (Nat.le_refl _) _)) hb3
    obtain ⟨hc, hfr⟩ := bcell hb3
    have p0 : w3.cell? ⟨w2.heap.size, 0, none⟩ = some (.int .i64 y) := by rw [hc _ _ (by simp)]; go_simp
    have p1 : w3.cell? ⟨w2.heap.size, 1, none⟩ = some (.int .i64 12) := by rw [hc _ _ (by simp)]; go_simp
    have p2 : w3.cell? ⟨w2.heap.size, 2, none⟩ = some (.int .i64 31) := by rw [hc _ _ (by simp)]; go_simp
    have p3 : w3.cell? ⟨w2.heap.size, 3, none⟩ = some (.int .i64 k) := by rw [hc _ _ (by simp)]; go_simp
    have p4 : w2.heap.size < w3.heap.size := by have := hb3.size; simp at this; omega
    clear hc hfr hb3 h2
    go_wp2
    go_ret
    exact ⟨rfl, Ext.tr E3 ((Below.refl _ _).alloc (Nat.le_refl _) _)⟩
end Go.Proofs.YtooogbjpajikiaaDoor
