/-
  The walk of DateOf.
-/
import Derived.Test.YtooogbjpajikiaaDoorDL
namespace Go.Proofs.YtooogbjpajikiaaDoor
open Go Go.RowKit

set_option maxRecDepth 20000 in
set_option maxHeartbeats 1000000 in
theorem same_any (a b c d : Int) (w : World) :
    Calls Tryd.prog 13 #[.agg #[.int .i64 a, .int .i64 b, .int .i64 c, .int .i64 d], .agg #[.int .i64 a, .int .i64 b, .int .i64 c, .int .i64 d]] w fun e w' => e = .returned (.bool true) ∧ Below w.heap.size w w' := by
  go_enter Tryd.func13, Tryd.ntmps13
  go_wp2
  go_ret
  exact ⟨rfl, by go_grown⟩
theorem ofR_form (t : Int) : ∃ a b c d s : Int, ofR t = .tuple #[.agg #[.int .i64 a, .int .i64 b, .int .i64 c, .int .i64 d], .int .i64 s] := by
  cases h : inT t with
  | true => exact ⟨_, _, _, _, _, ofR_yes h⟩
  | false => exact ⟨_, _, _, _, _, ofR_no h⟩
set_option maxRecDepth 20000 in
set_option maxHeartbeats 1000000 in
theorem walk_DateOf (t : Int) (w : World) (hw : LaidD w) (_ht : (Lit.int .i64 t).wf = true) :
    Calls Tryd.prog 3 #[.int .i64 t] w fun e w' => e = .returned (.bool true) ∧ Below w.heap.size w w' := by
  have hA := awake_any w hw
  have h1 : ∀ W, Ext w W → Calls Tryd.prog 11 #[.int .i64 t] W fun e w' => e = .returned (ofR t) ∧ Below W.heap.size W w' := fun W hW => of_any t W (hw.below hW)
  have h2 := fun W => rof_any t W
  obtain ⟨a, b, c, d, s, hf⟩ := ofR_form t
  rw [hf] at h1 h2
  clear hw _ht hf
  go_enter Tryd.func3, Tryd.ntmps3
  go_wp2_with (go_at_call 10; ((with_reducible refine hA.mono ?_); rintro e w1 ⟨rfl, hb1⟩; have E1 : Ext w w1 := hb1; clear hb1))
  with_reducible refine (h1 _ E1).mono ?_
  rintro e w2 ⟨rfl, hb2⟩
  have E2 := Ext.tr E1 hb2
  clear hb2 h1
  go_wp2_with fail
  with_reducible refine (h2 _).mono ?_
  rintro e w3 ⟨rfl, hb3⟩
  have E3 : Ext w w3 := Ext.tr (Ext.tr E2 ((Below.refl _ _).alloc (Nat.le_refl _) _)) hb3
  obtain ⟨hc, hfr⟩ := bcell hb3
  have p0 : w3.cell? ⟨w2.heap.size, 0, none⟩ = some (.int .i64 a) := by rw [hc _ _ (by simp)]; go_simp
  have p1 : w3.cell? ⟨w2.heap.size, 1, none⟩ = some (.int .i64 b) := by rw [hc _ _ (by simp)]; go_simp
  have p2 : w3.cell? ⟨w2.heap.size, 2, none⟩ = some (.int .i64 c) := by rw [hc _ _ (by simp)]; go_simp
  have p3 : w3.cell? ⟨w2.heap.size, 3, none⟩ = some (.int .i64 d) := by rw [hc _ _ (by simp)]; go_simp
  have p4 : w2.heap.size < w3.heap.size := by have := hb3.size; simp at this; omega
  clear hc hfr hb3 h2
  go_wp2_with (go_at_call 13; ((with_reducible refine (same_any _ _ _ _ _).mono ?_); rintro e w4 ⟨rfl, hb4⟩))
  go_ret
  exact ⟨rfl, Ext.tr (Ext.tr E3 ((Below.refl _ _).alloc (Nat.le_refl _) _)) hb4⟩
end Go.Proofs.YtooogbjpajikiaaDoor
