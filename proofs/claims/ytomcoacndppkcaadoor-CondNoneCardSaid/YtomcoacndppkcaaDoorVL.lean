/-
  A start that meets the seat's condition on the listed variables.
-/
import Derived.Test.YtomcoacndppkcaaDoorUO
namespace Go.Proofs.YtomcoacndppkcaaDoor
open Go Go.ChangeShapes Go.WideShapes Go.ChangeAt Go.WideMaps Go.WideElems Go.RowKit

theorem start_shaped (os : Os) (args : Array Value) : ((World.laidAll Tryd.prog os Rows.condNoneRow.laid).forCall (fun _ _ => 0) ⟨#[], args, []⟩).Shaped Tryd.prog :=
  World.shaped_of_ZipB (by kernel_rfl) (by kernel_rfl)
theorem start_met (os : Os) (args : Array Value) : laidMetH Tryd.prog Rows.condNoneRow.laid ((World.laidAll Tryd.prog os Rows.condNoneRow.laid).forCall (fun _ _ => 0) ⟨#[], args, []⟩).memory := by
  rw [MakeChecks.laidMetH_plain _ _ _ (by kernel_rfl)]
  exact laidMet_laidAll _ (by kernel_rfl) (by kernel_rfl)
end Go.Proofs.YtomcoacndppkcaaDoor
