/-
  The walk of SpecParses.
-/
import Derived.Test.YtdmkfleiipfbgaaDoorPJ
import Derived.Test.YtdmkfleiipfbgaaDoorPB
import Derived.Test.YtdmkfleiipfbgaaDoorFU
namespace Go.Proofs.YtdmkfleiipfbgaaDoor
open Go Go.RowKit

def LP (w : World) : Prop := MX w ∧ FT w
theorem endP_len (o : Option (List Sp)) : (endP o).1.length ≤ 64 := by
  cases o with
  | none => simp [endP]
  | some l =>
    simp only [endP]
    split
    · simp
    · split
      · simp
      · show l.length ≤ 64; omega
theorem parseD_len (s : List UInt8) : (parseD s).1.length ≤ 64 := by
  unfold parseD
  split
  · exact endP_len _
  · simp

set_option maxHeartbeats 4000000 in
theorem walk_SpecParses (s : ByteArray) (w : World) (hL : LP w) (_hm : s.size ≤ maxLen) :
    Calls Tryd.prog 3 #[.string s] w fun e w' => e = .returned (.bool true) ∧ Below w.heap.size w w' := by
  obtain ⟨hM, hF⟩ := hL
  by_cases h600 : s.size > 600
  · go_enter Tryd.func3, Tryd.ntmps3
    go_wp2_with (go_at_call 11; refine (awake_any _ hM).mono ?_; rintro e w1 ⟨rfl, hb1⟩)
    go_ret
    exact ⟨rfl, hb1⟩
  · have hA := parse_all s w hM hF (by omega)
    have hB := fun W => rparse_any s W (by omega)
    have hlen := parseD_len s.data.toList
    unfold ParsePost at hA hB
    generalize (parseD s.data.toList).1 = l at *
    generalize (parseD s.data.toList).2 = E at *
    have q2 : (E == E) = true := by simp
    go_enter Tryd.func3, Tryd.ntmps3
    go_wp2_with (first
      | (go_at_call 12; refine hA.mono ?_; rintro e w1 ⟨v1, rfl, hsp1, hb1⟩)
      | (go_at_call 13; refine (hB _).mono ?_; rintro e w2 ⟨v2, rfl, hsp2, hb2⟩; have B2 := Ext.tr hb1 hb2; have h3 := rsame_sp (IsSp.below hsp1 hb2) hsp2 (by omega); rw [show decide (l = l) = true from by simp] at h3)
      | (go_at_call 14; refine h3.mono ?_; rintro e w6 ⟨rfl, hb6⟩; have B6 := Ext.tr B2 hb6)
      | (go_at_call 11; refine (awake_any _ (hM.below B6)).mono ?_; rintro e w7 ⟨rfl, hb7⟩; have B7 := Ext.tr B6 hb7))
    go_ret
    exact ⟨rfl, B7⟩
end Go.Proofs.YtdmkfleiipfbgaaDoor
