/-
  The spans of the bytes that an operation keeps.
-/
import Derived.Test.YthbjhpfgfpkppaaDoorRX
namespace Go.Proofs.YthbjhpfgfpkppaaDoor.Rg
open Go Go.RowKit

def bopB (op : Int) (x y : Bool) : Bool := (decide (op = 1) && (x || y)) || (decide (op = 2) && x && y) || (decide (op = 3) && x && !y)
theorem bopB_ff (op : Int) : bopB op false false = false := by simp [bopB]
/-- a byte is in what an operation of two lists keeps -/
def keepB (op : Int) (a b : List Sp) (p : Int) : Bool := bopB op (anyHas a p) (anyHas b p)
open Classical in
/-- the spans of the bytes that an operation keeps: there is one such list at most -/
noncomputable def keepL (op : Int) (a b : List Sp) : List Sp := if h : ∃ out, Canon out ∧ ∀ p, InL out p ↔ keepB op a b p = true then Classical.choose h else []
theorem keepL_is {op : Int} {a b out : List Sp} (h1 : Canon out) (h2 : ∀ p, InL out p ↔ keepB op a b p = true) : out = keepL op a b := by
  have h : ∃ out, Canon out ∧ ∀ p, InL out p ↔ keepB op a b p = true := ⟨out, h1, h2⟩
  unfold keepL
  rw [dif_pos h]
  have hs := Classical.choose_spec h
  exact canon_unique h1 hs.1 fun p => (h2 p).trans (hs.2 p).symm

end Go.Proofs.YthbjhpfgfpkppaaDoor.Rg
