/-
  The walk of TagLists.
-/
import Derived.Test.YtfhodolenjeheaaDoorTP
import Derived.Test.YtfhodolenjeheaaDoorTW
namespace Go.Proofs.YtfhodolenjeheaaDoor
open Go Go.RowKit

set_option maxHeartbeats 8000000 in
set_option maxRecDepth 10000 in
theorem walk_TagLists (s : ByteArray) (w : World) (_hm : s.size ≤ maxLen) :
    Calls Tryd.prog 5 #[.string s] w fun e w' => e = .returned (.bool true) ∧ Below w.heap.size w w' := by
  by_cases h600 : s.size > 600
  · go_enter Tryd.func5, Tryd.ntmps5
    go_wp2_with fail
    with_reducible refine (awake_any _).mono ?_
    rintro e w1 ⟨rfl, hb1⟩
    go_wp2_with fail
    with_reducible refine (awake_any _).mono ?_
    rintro e w2 ⟨rfl, hb2⟩
    go_wp2_with fail
    go_ret
    exact ⟨rfl, Ext.tr hb1 hb2⟩
  · have hA := fun W => plist_any s W (by omega)
    have hB := fun W => rlist_any s W (by omega)
    have hlen := listD_len s.data.toList
    unfold ListPost at hA hB
    generalize (listD s.data.toList).1 = l at *
    generalize (listD s.data.toList).2.1 = b at *
    generalize (listD s.data.toList).2.2 = E at *
    have q1 : (b == b) = true := by simp
    have q2 : (E == E) = true := by simp
    go_enter Tryd.func5, Tryd.ntmps5
    go_wp2_with fail
    with_reducible refine (awake_any _).mono ?_
    rintro e w1 ⟨rfl, hb1⟩
    go_wp2_with fail
    with_reducible refine (hA _).mono ?_
    rintro e w2 ⟨v2, rfl, hsp2, hb2⟩
    have B2 := Ext.tr hb1 hb2
    go_wp2_with fail
    with_reducible refine (hB _).mono ?_
    rintro e w3 ⟨v3, rfl, hsp3, hb3⟩
    have B3 := Ext.tr B2 hb3
    have h3 := rsame_is (IsTg.below hsp2 hb3) hsp3 (by omega)
    rw [sameT_t rfl] at h3
    go_wp2_with fail
    with_reducible refine h3.mono ?_
    rintro e w4 ⟨rfl, hb4⟩
    have B4 := Ext.tr B3 hb4
    go_wp2_with fail
    go_ret
    exact ⟨rfl, B4⟩
end Go.Proofs.YtfhodolenjeheaaDoor
