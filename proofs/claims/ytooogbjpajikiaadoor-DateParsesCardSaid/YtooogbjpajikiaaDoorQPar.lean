/-
  The walk of DateParses.
-/
import Derived.Test.YtooogbjpajikiaaDoorDL
namespace Go.Proofs.YtooogbjpajikiaaDoor
open Go Go.RowKit

set_option maxRecDepth 20000 in
set_option maxHeartbeats 1000000 in
theorem walk_DateParses (s : ByteArray) (w : World) (hw : LaidD w) (hs : s.size ≤ maxLen) :
    Calls Tryd.prog 6 #[.string s] w fun e w' => e = .returned (.bool true) ∧ Below w.heap.size w w' := by
  unfold maxLen at hs
  have hA := awake_any w hw
  have h1 : ∀ W, Ext w W → Calls Tryd.prog 18 #[.string s] W fun e w' => e = .returned (.tuple #[.int .i64 (parV s), .int .i64 (parE s)]) ∧ Below W.heap.size W w' := fun W hW => parse_any s W (hw.below hW)
  have h2 := fun W => rparse_any s W
  by_cases hb : 100 < s.size
  · clear hw h1 h2
    go_enter Tryd.func6, Tryd.ntmps6
    go_wp2_with (go_at_call 10; ((with_reducible refine hA.mono ?_); rintro e w1 ⟨rfl, hb1⟩; have E1 : Ext w w1 := hb1; clear hb1))
    go_ret
    exact ⟨rfl, E1⟩
  · rcases par_spec s with ⟨he, ht⟩ | ⟨he, hv, -⟩
    · rw [he] at h1 h2
      generalize parV s = v at *
      have h3 : ∀ W, Ext w W → Calls Tryd.prog 16 #[.int .i64 v] W fun e w' => e = .returned (.tuple #[.string s, .int .i64 0]) ∧ Below W.heap.size W w' := fun W hW => by
        have := text_any v W (hw.below hW)
        rw [txR_yes (inT_iff.2 ht.1), ht.2] at this
        exact this
      have u : (s.toList == s.toList) = true := by simp
      clear hw ht he
      go_enter Tryd.func6, Tryd.ntmps6
      go_wp2_with (go_at_call 10; ((with_reducible refine hA.mono ?_); rintro e w1 ⟨rfl, hb1⟩; have E1 : Ext w w1 := hb1; clear hb1))
      with_reducible refine (h1 _ E1).mono ?_
      rintro e w2 ⟨rfl, hb2⟩
      have E2 := Ext.tr E1 hb2
      clear hb2 h1
      go_wp2_with fail
      with_reducible refine (h2 _).mono ?_
      rintro e w3 ⟨rfl, hb3⟩
      have E3 := Ext.tr E2 hb3
      clear h2 hb3
      go_wp2_with fail
      with_reducible refine (h3 _ E3).mono ?_
      rintro e w4 ⟨rfl, hb4⟩
      clear h3
      go_wp2
      go_ret
      exact ⟨rfl, Ext.tr E3 hb4⟩
    · rw [he, hv] at h1 h2
      clear hw he hv
      go_enter Tryd.func6, Tryd.ntmps6
      go_wp2_with (go_at_call 10; ((with_reducible refine hA.mono ?_); rintro e w1 ⟨rfl, hb1⟩; have E1 : Ext w w1 := hb1; clear hb1))
      with_reducible refine (h1 _ E1).mono ?_
      rintro e w2 ⟨rfl, hb2⟩
      have E2 := Ext.tr E1 hb2
      clear hb2 h1
      go_wp2_with fail
      with_reducible refine (h2 _).mono ?_
      rintro e w3 ⟨rfl, hb3⟩
      clear h2
      go_wp2
      go_ret
      exact ⟨rfl, Ext.tr E2 hb3⟩
end Go.Proofs.YtooogbjpajikiaaDoor
