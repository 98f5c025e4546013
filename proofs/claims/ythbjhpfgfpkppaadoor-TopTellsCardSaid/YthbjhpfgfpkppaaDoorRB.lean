/-
  The reference's List: the same spans one by one; its Len, First; Set.Len, span by span.
-/
import Derived.Test.YthbjhpfgfpkppaaDoorRA
namespace Go.Proofs.YthbjhpfgfpkppaaDoor.Rg
open Go Go.RowKit

theorem take_same_snoc {l m : List Sp} {k : Nat} (h1 : k < l.length) (h2 : k < m.length) (h : l.take k = m.take k) (hx : l[k] = m[k]) : l.take (k + 1) = m.take (k + 1) := by
  rw [List.take_succ_eq_append_getElem h1, List.take_succ_eq_append_getElem h2, h, hx]
theorem ne_at {l m : List Sp} {k : Nat} (h1 : k < l.length) (h2 : k < m.length) (hx : l[k] ≠ m[k]) : l ≠ m := by
  rintro rfl; exact hx rfl

end Go.Proofs.YthbjhpfgfpkppaaDoor.Rg
