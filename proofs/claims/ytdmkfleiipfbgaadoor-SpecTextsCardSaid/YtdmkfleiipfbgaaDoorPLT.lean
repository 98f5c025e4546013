/-
  A start that meets the condition of the statement on texts, which lists the powers of ten besides; what it gives a walk.
-/
import Derived.Test.YtdmkfleiipfbgaaDoorPL
import Derived.Test.YtdmkfleiipfbgaaDoorQTxt
namespace Go.Proofs.YtdmkfleiipfbgaaDoor
open Go Go.ChangeShapes Go.WideShapes Go.ChangeAt Go.WideMaps Go.WideElems Go.RowKit

theorem start_shaped_t (os : Os) (args : Array Value) : ((World.laidAll Tryd.prog os Rows.specTextsRow.laid).forCall (fun _ _ => 0) ⟨#[], args, []⟩).Shaped Tryd.prog :=
  World.shaped_of_ZipB (by kernel_rfl) (by kernel_rfl)
theorem start_met_t (os : Os) (args : Array Value) : laidMetH Tryd.prog Rows.specTextsRow.laid ((World.laidAll Tryd.prog os Rows.specTextsRow.laid).forCall (fun _ _ => 0) ⟨#[], args, []⟩).memory := by
  rw [MakeChecks.laidMetH_plain _ _ _ (by kernel_rfl)]
  exact laidMet_laidAll _ (by kernel_rfl) (by kernel_rfl)
theorem gTabType : (Tryd.prog.globals[6]?).map (·.type) = some 159 := by kernel_rfl
theorem cellsTab : Tryd.prog.cellsOf 159 = 20 := by kernel_rfl
theorem cellsU64 : Tryd.prog.cellsOf 137 = 1 := by kernel_rfl
theorem lt_of_var {P : Program} {w : World} {n : String} {g : Nat} {cs : Array Value} (hg : P.globalNamed n = some g) (h : w.var? P n = some cs) : g < w.heap.size := by
  unfold World.var? at h
  rw [hg] at h
  rcases Nat.lt_or_ge g w.heap.size with h' | h'
  · exact h'
  · simp only [Option.bind_some, Array.getElem?_eq_none h'] at h
    cases h
theorem of_laid_t {W : World} (h : laidMetH Tryd.prog Rows.specTextsRow.laid W) (hsh : W.ShapedOpen Tryd.prog) : LT W := by
  rw [MakeChecks.laidMetH_plain _ _ _ (by kernel_rfl)] at h
  have h2 := laidMet.tail (laidMet.tail h)
  have ht := Lib.tabIs_of_head (zs := Lib.pow10Tab) gTab gTabType Tryd.underlying159 Tryd.underlying137 cellsU64 cellsTab h2
  obtain ⟨m, hm⟩ := Tryd.laysM145.s1_3 W hsh
  exact ⟨⟨⟨m, hm⟩, block_lt_of_cell hm⟩, ht, lt_of_var gTab ht⟩
end Go.Proofs.YtdmkfleiipfbgaaDoor
