/-
  The document's examples.
-/
import Derived.Test.YtooogbjpajikiaaDoorDR
namespace Go.Proofs.YtooogbjpajikiaaDoor
open Go Go.RowKit

theorem ex_text : txB 784111777 = ⟨#[83, 117, 110, 44, 32, 48, 54, 32, 78, 111, 118, 32, 49, 57, 57, 52, 32, 48, 56, 58, 52, 57, 58, 51, 55, 32, 71, 77, 84]⟩ := by decide +kernel
theorem ex_parse : txB 951782400 = ⟨#[84, 117, 101, 44, 32, 50, 57, 32, 70, 101, 98, 32, 50, 48, 48, 48, 32, 48, 48, 58, 48, 48, 58, 48, 48, 32, 71, 77, 84]⟩ := by decide +kernel
set_option maxRecDepth 20000 in
set_option maxHeartbeats 1000000 in
theorem awake_any (w : World) (hw : LaidD w) :
    Calls Tryd.prog 10 #[] w fun e w' => e = .returned (.bool true) ∧ Below w.heap.size w w' := by
  have hT := text_any 784111777 w hw
  rw [txR_yes (inT_iff.2 (by decide)), ex_text] at hT
  have hP : ∀ W, Ext w W → Calls Tryd.prog 18 #[.string ⟨#[84, 117, 101, 44, 32, 50, 57, 32, 70, 101, 98, 32, 50, 48, 48, 48, 32, 48, 48, 58, 48, 48, 58, 48, 48, 32, 71, 77, 84]⟩] W fun e w' => e = .returned (.tuple #[.int .i64 951782400, .int .i64 0]) ∧ Below W.heap.size W w' := fun W hW => by
    have := parse_any ⟨#[84, 117, 101, 44, 32, 50, 57, 32, 70, 101, 98, 32, 50, 48, 48, 48, 32, 48, 48, 58, 48, 48, 58, 48, 48, 32, 71, 77, 84]⟩ W (hw.below hW)
    rw [← ex_parse, (par_tx (by decide)).1, (par_tx (by decide)).2] at this
    rw [← ex_parse]; exact this
  have hL := fun W => leap_any 1900 W
  rw [show lpB 1900 = false by decide] at hL
  clear hw
  go_enter Tryd.func10, Tryd.ntmps10
  go_wp2_with (first | (go_at_call 16; ((with_reducible refine hT.mono ?_); rintro e w1 ⟨rfl, hb1⟩; have E1 : Ext w w1 := hb1; clear hb1)) | (go_at_call 18; ((with_reducible refine (hP _ E1).mono ?_); rintro e w2 ⟨rfl, hb2⟩; have E2 := Ext.tr E1 hb2; clear hb2)) | (go_at_call 20; ((with_reducible refine (hL _).mono ?_); rintro e w' ⟨rfl, rfl⟩)))
  go_ret
  exact ⟨rfl, E2⟩
end Go.Proofs.YtooogbjpajikiaaDoor
