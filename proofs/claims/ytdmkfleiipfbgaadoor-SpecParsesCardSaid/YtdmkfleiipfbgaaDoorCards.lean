/-
  DERIVED. GIVEN WITH THE SEED: THE CARDS: each row of YtdmkfleiipfbgaaDoorRows.lean that lists a variable, with what it lists TIED to the program's text (the seventh form; the later family's looks); each row that meets fmt, with fmt's text TOLD by the authors' own Lean function (tested against real Go, not proved from fmt's source: count such statements apart). THE CARD IS WHAT COUNTS. Prove the row's statement (the work); the ties are given (YtdmkfleiipfbgaaDoorTie.lean); close each card by the builder's one call (the guide's Derived/Test/ToyasCard.lean, 'card_holds'). Laid BY PROGRAM, IN A SANDBOX (cutbox-door.mjs). By AI agents, Wed Nov 11 2026. No macro, syntax, notation, axiom, sorry.
-/
import Derived.Test.YtdmkfleiipfbgaaDoorRows
import GoSem.ClaimSeven
namespace Go.Proofs.YtdmkfleiipfbgaaDoor
namespace Rows

/-- THE TIED CARD OF 'mandolinelaw04.SpecParses'. -/
def specParsesCard : Claim7 := { stood := { row := specParsesRow, standIns := [], harness := (true, "dbb30c2a72c0ddaf6645da8dc66b007e4f1ea51263b7be53bf91cf091d9b14db"), looks := false }, kinds := [], alts := [], laidByText := true, laidKinds := [.data, .data, .data, .pinned, .pinned], laidTests := true, laidLooks := .later }
def SpecParsesCardSaid : Prop := Claim7.holds Tryd.pinned (.plain (OpenSpec.ofChange specParsesSpec)) specParsesCard

/-- THE TIED CARD OF 'mandolinelaw04.SpecTexts'. -/
def specTextsCard : Claim7 := { stood := { row := specTextsRow, standIns := [], harness := (true, "dbb30c2a72c0ddaf6645da8dc66b007e4f1ea51263b7be53bf91cf091d9b14db"), looks := false }, kinds := [], alts := [], laidByText := true, laidKinds := [.data, .data, .data, .data, .data, .data, .pinned, .pinned], laidTests := true, laidLooks := .later }
def SpecTextsCardSaid : Prop := Claim7.holds Tryd.pinned (.plain (OpenSpec.ofChange specTextsSpec)) specTextsCard

/-- THE TIED CARD OF 'mandolinelaw04.SpecResolves'. -/
def specResolvesCard : Claim7 := { stood := { row := specResolvesRow, standIns := [], harness := (true, "dbb30c2a72c0ddaf6645da8dc66b007e4f1ea51263b7be53bf91cf091d9b14db"), looks := false }, kinds := [], alts := [], laidByText := true, laidKinds := [.data, .data, .data, .pinned, .pinned], laidTests := true, laidLooks := .later }
def SpecResolvesCardSaid : Prop := Claim7.holds Tryd.pinned (.plain (OpenSpec.ofChange specResolvesSpec)) specResolvesCard

/-- THE TIED CARD OF 'mandolinelaw04.SpecFolds'. -/
def specFoldsCard : Claim7 := { stood := { row := specFoldsRow, standIns := [], harness := (true, "dbb30c2a72c0ddaf6645da8dc66b007e4f1ea51263b7be53bf91cf091d9b14db"), looks := false }, kinds := [], alts := [], laidByText := true, laidKinds := [.data, .data, .data, .pinned, .pinned], laidTests := true, laidLooks := .later }
def SpecFoldsCardSaid : Prop := Claim7.holds Tryd.pinned (.plain (OpenSpec.ofChange specFoldsSpec)) specFoldsCard

/-- THE TIED CARD OF 'mandolinelaw04.SpecFolded'. -/
def specFoldedCard : Claim7 := { stood := { row := specFoldedRow, standIns := [], harness := (true, "dbb30c2a72c0ddaf6645da8dc66b007e4f1ea51263b7be53bf91cf091d9b14db"), looks := false }, kinds := [], alts := [], laidByText := true, laidKinds := [.data, .data, .data, .pinned, .pinned], laidTests := true, laidLooks := .later }
def SpecFoldedCardSaid : Prop := Claim7.holds Tryd.pinned (.plain (OpenSpec.ofChange specFoldedSpec)) specFoldedCard

/-- THE TIED CARD OF 'mandolinelaw04.SpecCovers'. -/
def specCoversCard : Claim7 := { stood := { row := specCoversRow, standIns := [], harness := (true, "dbb30c2a72c0ddaf6645da8dc66b007e4f1ea51263b7be53bf91cf091d9b14db"), looks := false }, kinds := [], alts := [], laidByText := true, laidKinds := [.data, .data, .data, .pinned, .pinned], laidTests := true, laidLooks := .later }
def SpecCoversCardSaid : Prop := Claim7.holds Tryd.pinned (.plain (OpenSpec.ofChange specCoversSpec)) specCoversCard

/-- THE TIED CARD OF 'mandolinelaw04.SpecCosts'. -/
def specCostsCard : Claim7 := { stood := { row := specCostsRow, standIns := [], harness := (true, "dbb30c2a72c0ddaf6645da8dc66b007e4f1ea51263b7be53bf91cf091d9b14db"), looks := false }, kinds := [], alts := [], laidByText := true, laidKinds := [.data, .data, .data, .pinned, .pinned], laidTests := true, laidLooks := .later }
def SpecCostsCardSaid : Prop := Claim7.holds Tryd.pinned (.plain (OpenSpec.ofChange specCostsSpec)) specCostsCard

/-- THE TIED CARD OF 'mandolinelaw04.SpecWithin'. -/
def specWithinCard : Claim7 := { stood := { row := specWithinRow, standIns := [], harness := (true, "dbb30c2a72c0ddaf6645da8dc66b007e4f1ea51263b7be53bf91cf091d9b14db"), looks := false }, kinds := [], alts := [], laidByText := true, laidKinds := [.data, .data, .data, .pinned, .pinned], laidTests := true, laidLooks := .later }
def SpecWithinCardSaid : Prop := Claim7.holds Tryd.pinned (.plain (OpenSpec.ofChange specWithinSpec)) specWithinCard

/-- THE SECOND FORM's CARD OF 'mandolinelaw04.SpecParses'. -/
def specParsesUptoCard : Claim7 := { stood := { row := specParsesUptoRow, standIns := [], harness := (true, "dbb30c2a72c0ddaf6645da8dc66b007e4f1ea51263b7be53bf91cf091d9b14db"), looks := false }, kinds := [], alts := [], laidByText := true, laidKinds := [.data, .data, .data, .pinned, .pinned], laidTests := true, laidLooks := .later }
def SpecParsesUptoCardSaid : Prop := Claim7.holds Tryd.pinned (.plain (OpenSpec.upto specParsesSpec)) specParsesUptoCard

/-- THE SECOND FORM's CARD OF 'mandolinelaw04.SpecTexts'. -/
def specTextsUptoCard : Claim7 := { stood := { row := specTextsUptoRow, standIns := [], harness := (true, "dbb30c2a72c0ddaf6645da8dc66b007e4f1ea51263b7be53bf91cf091d9b14db"), looks := false }, kinds := [], alts := [], laidByText := true, laidKinds := [.data, .data, .data, .data, .data, .data, .pinned, .pinned], laidTests := true, laidLooks := .later }
def SpecTextsUptoCardSaid : Prop := Claim7.holds Tryd.pinned (.plain (OpenSpec.upto specTextsSpec)) specTextsUptoCard

/-- THE SECOND FORM's CARD OF 'mandolinelaw04.SpecResolves'. -/
def specResolvesUptoCard : Claim7 := { stood := { row := specResolvesUptoRow, standIns := [], harness := (true, "dbb30c2a72c0ddaf6645da8dc66b007e4f1ea51263b7be53bf91cf091d9b14db"), looks := false }, kinds := [], alts := [], laidByText := true, laidKinds := [.data, .data, .data, .pinned, .pinned], laidTests := true, laidLooks := .later }
def SpecResolvesUptoCardSaid : Prop := Claim7.holds Tryd.pinned (.plain (OpenSpec.upto specResolvesSpec)) specResolvesUptoCard

/-- THE SECOND FORM's CARD OF 'mandolinelaw04.SpecFolds'. -/
def specFoldsUptoCard : Claim7 := { stood := { row := specFoldsUptoRow, standIns := [], harness := (true, "dbb30c2a72c0ddaf6645da8dc66b007e4f1ea51263b7be53bf91cf091d9b14db"), looks := false }, kinds := [], alts := [], laidByText := true, laidKinds := [.data, .data, .data, .pinned, .pinned], laidTests := true, laidLooks := .later }
def SpecFoldsUptoCardSaid : Prop := Claim7.holds Tryd.pinned (.plain (OpenSpec.upto specFoldsSpec)) specFoldsUptoCard

/-- THE SECOND FORM's CARD OF 'mandolinelaw04.SpecFolded'. -/
def specFoldedUptoCard : Claim7 := { stood := { row := specFoldedUptoRow, standIns := [], harness := (true, "dbb30c2a72c0ddaf6645da8dc66b007e4f1ea51263b7be53bf91cf091d9b14db"), looks := false }, kinds := [], alts := [], laidByText := true, laidKinds := [.data, .data, .data, .pinned, .pinned], laidTests := true, laidLooks := .later }
def SpecFoldedUptoCardSaid : Prop := Claim7.holds Tryd.pinned (.plain (OpenSpec.upto specFoldedSpec)) specFoldedUptoCard

/-- THE SECOND FORM's CARD OF 'mandolinelaw04.SpecCovers'. -/
def specCoversUptoCard : Claim7 := { stood := { row := specCoversUptoRow, standIns := [], harness := (true, "dbb30c2a72c0ddaf6645da8dc66b007e4f1ea51263b7be53bf91cf091d9b14db"), looks := false }, kinds := [], alts := [], laidByText := true, laidKinds := [.data, .data, .data, .pinned, .pinned], laidTests := true, laidLooks := .later }
def SpecCoversUptoCardSaid : Prop := Claim7.holds Tryd.pinned (.plain (OpenSpec.upto specCoversSpec)) specCoversUptoCard

/-- THE SECOND FORM's CARD OF 'mandolinelaw04.SpecCosts'. -/
def specCostsUptoCard : Claim7 := { stood := { row := specCostsUptoRow, standIns := [], harness := (true, "dbb30c2a72c0ddaf6645da8dc66b007e4f1ea51263b7be53bf91cf091d9b14db"), looks := false }, kinds := [], alts := [], laidByText := true, laidKinds := [.data, .data, .data, .pinned, .pinned], laidTests := true, laidLooks := .later }
def SpecCostsUptoCardSaid : Prop := Claim7.holds Tryd.pinned (.plain (OpenSpec.upto specCostsSpec)) specCostsUptoCard

/-- THE SECOND FORM's CARD OF 'mandolinelaw04.SpecWithin'. -/
def specWithinUptoCard : Claim7 := { stood := { row := specWithinUptoRow, standIns := [], harness := (true, "dbb30c2a72c0ddaf6645da8dc66b007e4f1ea51263b7be53bf91cf091d9b14db"), looks := false }, kinds := [], alts := [], laidByText := true, laidKinds := [.data, .data, .data, .pinned, .pinned], laidTests := true, laidLooks := .later }
def SpecWithinUptoCardSaid : Prop := Claim7.holds Tryd.pinned (.plain (OpenSpec.upto specWithinSpec)) specWithinUptoCard
end Rows
end Go.Proofs.YtdmkfleiipfbgaaDoor
