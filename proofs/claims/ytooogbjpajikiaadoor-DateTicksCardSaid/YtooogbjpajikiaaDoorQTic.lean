/-
  The walk of DateTicks.
-/
import Derived.Test.YtooogbjpajikiaaDoorDL
namespace Go.Proofs.YtooogbjpajikiaaDoor
open Go Go.RowKit

set_option maxRecDepth 20000 in
set_option maxHeartbeats 1000000 in
theorem walk_DateTicks (y m d k s : Int) (w : World) (hw : LaidD w) (_hs : (Lit.int .i64 s).wf = true) :
    Calls Tryd.prog 4 #[.agg #[.int .i64 y, .int .i64 m, .int .i64 d, .int .i64 k], .int .i64 s] w fun e w' => e = .returned (.bool true) ∧ Below w.heap.size w w' := by
  have e0 : ∀ o, Ext w (w.alloc o) := fun o => (Below.refl _ _).alloc (Nat.le_refl _) _
  have hA : ∀ o, Calls Tryd.prog 10 #[] (w.alloc o) fun e w' => e = .returned (.bool true) ∧ Below (w.alloc o).heap.size (w.alloc o) w' := fun o => awake_any _ (hw.below (e0 o))
  have h1 : ∀ W, Ext w W → Calls Tryd.prog 14 #[.agg #[.int .i64 y, .int .i64 m, .int .i64 d, .int .i64 k], .int .i64 s] W fun e w' => e = .returned (.tuple #[.int .i64 (tkV y m d s), .int .i64 (tkE y m d s)]) ∧ Below W.heap.size W w' := fun W hW => tick_any y m d k s W (hw.below hW)
  have h2 := fun W => rtick_any y m d k s W
  generalize tkV y m d s = v at *
  generalize tkE y m d s = f at *
  clear hw _hs
  go_enter Tryd.func4, Tryd.ntmps4
  go_wp2_with fail
  with_reducible refine (hA _).mono ?_
  rintro e w1 ⟨rfl, hb1⟩
  have E1 : Ext w w1 := Ext.tr (e0 _) hb1
  obtain ⟨hc, hfr⟩ := bcell hb1
  have p0 : w1.cell? ⟨w.heap.size, 0, none⟩ = some (.int .i64 y) := by rw [hc _ _ (by simp)]; go_simp
  have p1 : w1.cell? ⟨w.heap.size, 1, none⟩ = some (.int .i64 m) := by rw [hc _ _ (by simp)]; go_simp
  have p2 : w1.cell? ⟨w.heap.size, 2, none⟩ = some (.int .i64 d) := by rw [hc _ _ (by simp)]; go_simp
  have p3 : w1.cell? ⟨w.heap.size, 3, none⟩ = some (.int .i64 k) := by rw [hc _ _ (by simp)]; go_simp
  have p4 : w.heap.size < w1.heap.size := by have := hb1.size; simp at this; omega
  clear hc hfr hb1 hA
  go_wp2_with fail
  with_reducible refine (h1 _ E1).mono ?_
  rintro e w2 ⟨rfl, hb2⟩
  obtain ⟨hc, hfr⟩ := bcell hb2
  have q0 := (hc w.heap.size 0 p4).trans p0
  have q1 := (hc w.heap.size 1 p4).trans p1
  have q2 := (hc w.heap.size 2 p4).trans p2
  have q3 := (hc w.heap.size 3 p4).trans p3
  have E2 := Ext.tr E1 hb2
  clear hc hfr hb2 h1 p0 p1 p2 p3
  go_wp2_with fail
  with_reducible refine (h2 _).mono ?_
  rintro e w3 ⟨rfl, hb3⟩
  clear h2
  go_wp2
  go_ret
  exact ⟨rfl, Ext.tr E2 hb3⟩
end Go.Proofs.YtooogbjpajikiaaDoor
