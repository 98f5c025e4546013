/-
  DERIVED. GIVEN WITH THE SEED: THE CARDS: each row of YtpddeohpgdaknaaDoorRows.lean that lists a variable, with what it lists TIED to the program's text (the seventh form; the later family's looks); each row that meets fmt, with fmt's text TOLD by the authors' own Lean function (tested against real Go, not proved from fmt's source: count such statements apart). THE CARD IS WHAT COUNTS. Prove the row's statement (the work); the ties are given (YtpddeohpgdaknaaDoorTie.lean); close each card by the builder's one call (the guide's Derived/Test/ToyasCard.lean, 'card_holds'). Laid BY PROGRAM, IN A SANDBOX (cutbox-door.mjs). By AI agents, Wed Nov 11 2026. No macro, syntax, notation, axiom, sorry.
-/
import Derived.Test.YtpddeohpgdaknaaDoorRows
import GoSem.ClaimSeven
namespace Go.Proofs.YtpddeohpgdaknaaDoor
namespace Rows

/-- THE TIED CARD OF 'mandolinelaw02.RangesKept'. -/
def rangesKeptCard : Claim7 := { stood := { row := rangesKeptRow, standIns := [], harness := (true, "afee344f30edd5e79b4d82c99f287235af7db5303c75095d5d370b58b769b55b"), looks := false }, kinds := [], alts := [], laidByText := true, laidKinds := [.data, .data, .data], laidTests := true, laidLooks := .later }
def RangesKeptCardSaid : Prop := Claim7.holds Tryd.pinned (.plain (OpenSpec.ofChange rangesKeptSpec)) rangesKeptCard

/-- THE SECOND FORM's CARD OF 'mandolinelaw02.RangesKept'. -/
def rangesKeptUptoCard : Claim7 := { stood := { row := rangesKeptUptoRow, standIns := [], harness := (true, "afee344f30edd5e79b4d82c99f287235af7db5303c75095d5d370b58b769b55b"), looks := false }, kinds := [], alts := [], laidByText := true, laidKinds := [.data, .data, .data], laidTests := true, laidLooks := .later }
def RangesKeptUptoCardSaid : Prop := Claim7.holds Tryd.pinned (.plain (OpenSpec.upto rangesKeptSpec)) rangesKeptUptoCard
end Rows
end Go.Proofs.YtpddeohpgdaknaaDoor
