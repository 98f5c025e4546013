/-
  The walk of DateTexts.
-/
import Derived.Test.YtooogbjpajikiaaDoorDL
namespace Go.Proofs.YtooogbjpajikiaaDoor
open Go Go.RowKit

set_option maxRecDepth 20000 in
set_option maxHeartbeats 1000000 in
theorem walk_DateTexts (t : Int) (w : World) (hw : LaidD w) (_ht : (Lit.int .i64 t).wf = true) :
    Calls Tryd.prog 5 #[.int .i64 t] w fun e w' => e = .returned (.bool true) ∧ Below w.heap.size w w' := by
  have hA := awake_any w hw
  have h1 : ∀ W, Ext w W → Calls Tryd.prog 16 #[.int .i64 t] W fun e w' => e = .returned (txR t) ∧ Below W.heap.size W w' := fun W hW => text_any t W (hw.below hW)
  have h2 := fun W => rtext_any t W
  cases h : inT t with
  | false =>
    rw [txR_no h] at h1 h2
    clear hw _ht h
    go_enter Tryd.func5, Tryd.ntmps5
    go_wp2_with (go_at_call 10; ((with_reducible refine hA.mono ?_); rintro e w1 ⟨rfl, hb1⟩; have E1 : Ext w w1 := hb1; clear hb1))
    with_reducible refine (h1 _ E1).mono ?_
    rintro e w2 ⟨rfl, hb2⟩
    have E2 := Ext.tr E1 hb2
    clear hb2 h1
    go_wp2_with fail
    with_reducible refine (h2 _).mono ?_
    rintro e w3 ⟨rfl, hb3⟩
    clear h2
    go_wp2
    go_ret
    exact ⟨rfl, Ext.tr E2 hb3⟩
  | true =>
    rw [txR_yes h] at h1 h2
    have h3 : ∀ W, Ext w W → Calls Tryd.prog 18 #[.string (txB t)] W fun e w' => e = .returned (.tuple #[.int .i64 t, .int .i64 0]) ∧ Below W.heap.size W w' := fun W hW => by
      have := parse_any (txB t) W (hw.below hW)
      rw [(par_tx (inT_iff.1 h)).1, (par_tx (inT_iff.1 h)).2] at this
      exact this
    clear hw _ht h
    generalize txB t = U at *
    go_enter Tryd.func5, Tryd.ntmps5
    go_wp2_with (go_at_call 10; ((with_reducible refine hA.mono ?_); rintro e w1 ⟨rfl, hb1⟩; have E1 : Ext w w1 := hb1; clear hb1))
    with_reducible refine (h1 _ E1).mono ?_
    rintro e w2 ⟨rfl, hb2⟩
    have E2 := Ext.tr E1 hb2
    clear hb2 h1
    go_wp2_with fail
    with_reducible refine (h2 _).mono ?_
    rintro e w3 ⟨rfl, hb3⟩
    have E3 := Ext.tr E2 hb3
    clear h2 hb3
    go_wp2_with fail
    with_reducible refine (h3 _ E3).mono ?_
    rintro e w4 ⟨rfl, hb4⟩
    clear h3
    go_wp2
    go_ret
    exact ⟨rfl, Ext.tr E3 hb4⟩
end Go.Proofs.YtooogbjpajikiaaDoor
