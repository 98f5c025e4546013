/-
  The spans of the bytes that an operation keeps.
-/
import Derived.Test.YtdmkfleiipfbgaaDoorRX
namespace Go.Proofs.YtdmkfleiipfbgaaDoor
open Go Go.RowKit

open Classical in
/-- the spans of the bytes that an operation keeps: there is one such list at most -/
noncomputable def keepL (op : Int) (a b : List Sp) : List Sp := if h : ∃ out, Canon out ∧ ∀ p, InL out p ↔ keepB op a b p = true then Classical.choose h else []
theorem keepL_is {op : Int} {a b out : List Sp} (h1 : Canon out) (h2 : ∀ p, InL out p ↔ keepB op a b p = true) : out = keepL op a b := by
  have h : ∃ out, Canon out ∧ ∀ p, InL out p ↔ keepB op a b p = true := ⟨out, h1, h2⟩
  unfold keepL
  rw [dif_pos h]
  have hs := Classical.choose_spec h
  exact canon_unique h1 hs.1 fun p => (h2 p).trans (hs.2 p).symm

end Go.Proofs.YtdmkfleiipfbgaaDoor
