/-
  What the start of SpecParses gives its walk.
-/
import Derived.Test.YtdmkfleiipfbgaaDoorPL
import Derived.Test.YtdmkfleiipfbgaaDoorFB
import Derived.Test.YtdmkfleiipfbgaaDoorQPar
namespace Go.Proofs.YtdmkfleiipfbgaaDoor
open Go Go.ChangeShapes Go.WideShapes Go.ChangeAt Go.WideMaps Go.WideElems Go.RowKit

theorem start_shaped_p (os : Os) (args : Array Value) : ((World.laidAll Tryd.prog os Rows.specParsesRow.laid).forCall (fun _ _ => 0) ⟨#[], args, []⟩).Shaped Tryd.prog := start_shaped os args
theorem start_met_p (os : Os) (args : Array Value) : laidMetH Tryd.prog Rows.specParsesRow.laid ((World.laidAll Tryd.prog os Rows.specParsesRow.laid).forCall (fun _ _ => 0) ⟨#[], args, []⟩).memory := start_met os args
theorem of_laid_p {W : World} (h : laidMetH Tryd.prog Rows.specParsesRow.laid W) (hsh : W.ShapedOpen Tryd.prog) : LP W := ⟨of_laid h hsh, of_laid_f h⟩
end Go.Proofs.YtdmkfleiipfbgaaDoor
