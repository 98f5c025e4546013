/-
  DERIVED. GIVEN WITH THE SEED: THE CARDS: each row of YthbjhpfgfpkppaaDoorRows.lean that lists a variable, with what it lists TIED to the program's text (the seventh form; the later family's looks); each row that meets fmt, with fmt's text TOLD by the authors' own Lean function (tested against real Go, not proved from fmt's source: count such statements apart). THE CARD IS WHAT COUNTS. Prove the row's statement (the work); the ties are given (YthbjhpfgfpkppaaDoorTie.lean); close each card by the builder's one call (the guide's Derived/Test/ToyasCard.lean, 'card_holds'). Laid BY PROGRAM, IN A SANDBOX (cutbox-door.mjs). By AI agents, Wed Nov 11 2026. No macro, syntax, notation, axiom, sorry.
-/
import Derived.Test.YthbjhpfgfpkppaaDoorRows
import GoSem.ClaimSeven
namespace Go.Proofs.YthbjhpfgfpkppaaDoor
namespace Rows

/-- THE TIED CARD OF 'mandolinetop.TopTells'. -/
def topTellsCard : Claim7 := { stood := { row := topTellsRow, standIns := [], harness := (true, "b8f6c897002b0f34e0f34ee03438c453398b00e005357f965afb0fe1edda3220"), looks := false }, kinds := [], alts := [], laidByText := true, laidKinds := [.data, .data, .data], laidTests := true, laidLooks := .later }
def TopTellsCardSaid : Prop := Claim7.holds Tryd.pinned (.plain (OpenSpec.ofChange topTellsSpec)) topTellsCard

/-- THE SECOND FORM's CARD OF 'mandolinetop.TopTells'. -/
def topTellsUptoCard : Claim7 := { stood := { row := topTellsUptoRow, standIns := [], harness := (true, "b8f6c897002b0f34e0f34ee03438c453398b00e005357f965afb0fe1edda3220"), looks := false }, kinds := [], alts := [], laidByText := true, laidKinds := [.data, .data, .data], laidTests := true, laidLooks := .later }
def TopTellsUptoCardSaid : Prop := Claim7.holds Tryd.pinned (.plain (OpenSpec.upto topTellsSpec)) topTellsUptoCard
end Rows
end Go.Proofs.YthbjhpfgfpkppaaDoor
