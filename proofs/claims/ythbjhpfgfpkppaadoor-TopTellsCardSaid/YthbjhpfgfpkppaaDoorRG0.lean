/-
  The spans of a list that are not empty.
-/
import Derived.Test.YthbjhpfgfpkppaaDoorRF
namespace Go.Proofs.YthbjhpfgfpkppaaDoor.Rg
open Go Go.RowKit

/-- the nonempty right ones -/
def solidL (l : List Sp) : List Sp := l.filter fun x => decide (0 < lenI x.1 x.2)
theorem len_solid {x : Sp} : 0 < lenI x.1 x.2 ↔ Solid x := by
  unfold lenI opB rtB Solid
  by_cases h0 : 0 ≤ x.1 <;> by_cases h1 : x.1 ≤ x.2 <;> by_cases h2 : x.2 ≤ 4611686018427387904 <;> by_cases h3 : x.2 = 4611686018427387904 <;> by_cases h4 : x.1 = 4611686018427387904 <;> simp [h0, h1, h2, h3, h4] <;> omega
theorem solidL_mem {l : List Sp} {x : Sp} (h : x ∈ solidL l) : x ∈ l ∧ Solid x := by
  obtain ⟨h1, h2⟩ := List.mem_filter.1 h
  exact ⟨h1, len_solid.1 (by simpa using h2)⟩
theorem solidL_in {l : List Sp} {p : Int} : InL (solidL l) p ↔ InL l p := by
  constructor
  · rintro ⟨x, hx, k⟩; exact ⟨x, (solidL_mem hx).1, k⟩
  · rintro ⟨x, hx, k⟩
    exact ⟨x, List.mem_filter.2 ⟨hx, by simpa using len_solid.2 (by unfold InS at k; unfold Solid; omega)⟩, k⟩
theorem solidL_take {l : List Sp} {k : Nat} (h : k < l.length) : solidL (l.take (k + 1)) = if 0 < lenI l[k].1 l[k].2 then solidL (l.take k) ++ [l[k]] else solidL (l.take k) := by
  unfold solidL
  rw [List.take_succ_eq_append_getElem h, List.filter_append]
  by_cases hk : 0 < lenI l[k].1 l[k].2 <;> simp [hk]
theorem solidL_len (l : List Sp) : (solidL l).length ≤ l.length := List.length_filter_le _ _

end Go.Proofs.YthbjhpfgfpkppaaDoor.Rg
