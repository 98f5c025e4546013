/-
  The calls of layer 1 (span): Meet, Touch, Join, Within, each by a contract.
-/
import Derived.Test.YthbjhpfgfpkppaaDoorSpanA
namespace Go.Proofs.YthbjhpfgfpkppaaDoor
open Go Go.RowKit

theorem lt_next {w w1 w2 : World} (h : w.heap.size < w1.heap.size ∧ w.heap.size + 1 < w1.heap.size ∧ w.heap.size + 1 + 1 < w1.heap.size) (k : w1.heap.size < w2.heap.size) : w1.heap.size < w2.heap.size ∧ w.heap.size < w2.heap.size ∧ w.heap.size + 1 < w2.heap.size ∧ w.heap.size + 1 + 1 < w2.heap.size := by omega
theorem lt_next2 {w w1 w2 : World} (h : w.heap.size < w1.heap.size ∧ w.heap.size + 1 < w1.heap.size) (k : w1.heap.size < w2.heap.size) : w1.heap.size < w2.heap.size ∧ w.heap.size < w2.heap.size ∧ w.heap.size + 1 < w2.heap.size := by omega
/-- have both something, and its two ends -/
def meetB (a b c d : Int) : Bool := rtB a b && rtB c d && decide (mxI a c < mnI b d)
def meetF (a b c d : Int) : Int := if meetB a b c d then mxI a c else 0
def meetT (a b c d : Int) : Int := if meetB a b c d then mnI b d else 0
/-- touch, and the two ends of both as one -/
def touchB (a b c d : Int) : Bool := rtB a b && rtB c d && decide (mxI a c ≤ mnI b d)
def joinF (a b c d : Int) : Int := if touchB a b c d then mnI a c else 0
def joinT (a b c d : Int) : Int := if touchB a b c d then mxI b d else 0
def withinB (a b c d : Int) : Bool := rtB a b && rtB c d && (decide (a = b) || (decide (c ≤ a) && decide (b ≤ d)))
end Go.Proofs.YthbjhpfgfpkppaaDoor
