/-
  The walk of DateLeaps.
-/
import Derived.Test.YtooogbjpajikiaaDoorDL
namespace Go.Proofs.YtooogbjpajikiaaDoor
open Go Go.RowKit

set_option maxRecDepth 20000 in
set_option maxHeartbeats 1000000 in
theorem walk_DateLeaps (y : Int) (w : World) (hw : LaidD w) (_hy : (Lit.int .i64 y).wf = true) :
    Calls Tryd.prog 7 #[.int .i64 y] w fun e w' => e = .returned (.bool true) ∧ Below w.heap.size w w' := by
  have hA := awake_any w hw
  have h1 := fun W => leap_any y W
  have h2 := fun W => rleap_any y W
  generalize lpB y = b at *
  have u : (b == b) = true := by simp
  clear hw _hy
  go_enter Tryd.func7, Tryd.ntmps7
  go_wp2_with (first | (go_at_call 10; ((with_reducible refine hA.mono ?_); rintro e w1 ⟨rfl, hb1⟩; have E1 : Ext w w1 := hb1; clear hb1)) | (go_at_call 20; ((with_reducible refine (h1 _).mono ?_); rintro e w' ⟨rfl, rfl⟩)) | (go_at_call 21; ((with_reducible refine (h2 _).mono ?_); rintro e w' ⟨rfl, rfl⟩)))
  go_ret
  exact ⟨rfl, E1⟩
end Go.Proofs.YtooogbjpajikiaaDoor
