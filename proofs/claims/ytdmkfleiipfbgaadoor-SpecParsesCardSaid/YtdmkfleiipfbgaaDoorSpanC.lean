/-
  The calls of layer 1 (span): Cut, Align, each by a contract.
-/
import Derived.Test.YtdmkfleiipfbgaaDoorSpanA
namespace Go.Proofs.YtdmkfleiipfbgaaDoor
open Go Go.RowKit

/-- the first part's beginning, where it is cut, the second part's end -/
def cutA (a b : Int) : Int := if rtB a b then a else 0
def cutM (a b p : Int) : Int := if rtB a b then (if p < a then a else if b < p then b else p) else 0
def cutZ (a b : Int) : Int := if rtB a b then b else 0

def alB (a b u : Int) : Bool := rtB a b && decide (1 ≤ u) && decide (u ≤ 1099511627776)
def alF (a b u : Int) : Int := if alB a b u then a - a % u else 0
def alT (a b u : Int) : Int := if alB a b u then mnI ((b + u - 1) / u * u) 4611686018427387904 else 0
def alE (a b u : Int) : Int := if alB a b u then 0 else 1
theorem al_facts {a b u : Int} (h0 : 0 ≤ a) (h1 : a ≤ b) (hb : b ≤ 4611686018427387904) (hu : 1 ≤ u) (hu' : u ≤ 1099511627776) :
    0 ≤ a % u ∧ a % u ≤ a ∧ 0 ≤ (b + u - 1) / u ∧ (b + u - 1) / u ≤ b + u - 1 ∧ 0 ≤ (b + u - 1) / u * u ∧ (b + u - 1) / u * u ≤ b + u - 1 := by
  refine ⟨Int.emod_nonneg _ (by omega), ?_, Int.ediv_nonneg (by omega) (by omega), Int.ediv_le_self _ (by omega), Int.mul_nonneg (Int.ediv_nonneg (by omega) (by omega)) (by omega), Int.ediv_mul_le _ (by omega)⟩
  have := Int.emod_add_mul_ediv a u
  have h : 0 ≤ u * (a / u) := Int.mul_nonneg (by omega) (Int.ediv_nonneg h0 (by omega))
  omega
end Go.Proofs.YtdmkfleiipfbgaaDoor
