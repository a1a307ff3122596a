/-
  DERIVED. GIVEN WITH THE SEED: THE CARDS: each row of YtbadingdklenhaaGreatDoorRows.lean that lists a variable, with what it lists TIED to the program's text (the seventh form; the later family's looks); each row that meets fmt, with fmt's text TOLD by the authors' own Lean function (tested against real Go, not proved from fmt's source: count such statements apart). THE CARD IS WHAT COUNTS. Prove the row's statement (the work); the ties are given (YtbadingdklenhaaGreatDoorTie.lean); close each card by the builder's one call (the guide's Derived/Test/ToyasCard.lean, 'card_holds'). Laid BY PROGRAM, IN A SANDBOX (cutbox-door.mjs). By AI agents, Wed Nov 11 2026. No macro, syntax, notation, axiom, sorry.
-/
import Derived.Test.YtbadingdklenhaaGreatDoorRows
import GoSem.ClaimSeven
namespace Go.Proofs.YtbadingdklenhaaGreatDoor
namespace Rows

/-- THE TIED CARD OF 'secateurlaw11.ShowPrints'. -/
def showPrintsCard : Claim7 := { stood := { row := showPrintsRow, standIns := [], harness := (true, "9bea0c41d5f424e88f26760044bc9ab0a8af4c02e6d71013b123b5643a1e1623"), looks := true }, kinds := [], alts := [], laidByText := true, laidKinds := [.data, .data, .data, .data, .data, .sentinel, .sentinel, .pinned], laidTests := true, laidLooks := .later }
def ShowPrintsCardSaid : Prop := Claim7.holds Tryz.pinned (.plain (OpenSpec.ofChange showPrintsSpec)) showPrintsCard

/-- THE TIED CARD OF 'secateurlaw11.ShowTidy'. -/
def showTidyCard : Claim7 := { stood := { row := showTidyRow, standIns := [], harness := (true, "9bea0c41d5f424e88f26760044bc9ab0a8af4c02e6d71013b123b5643a1e1623"), looks := true }, kinds := [], alts := [], laidByText := true, laidKinds := [.data, .data, .data, .data, .data, .sentinel, .sentinel, .pinned], laidTests := true, laidLooks := .later }
def ShowTidyCardSaid : Prop := Claim7.holds Tryz.pinned (.plain (OpenSpec.ofChange showTidySpec)) showTidyCard

/-- THE TIED CARD OF 'secateurlaw11.ShowBack'. -/
def showBackCard : Claim7 := { stood := { row := showBackRow, standIns := [], harness := (true, "9bea0c41d5f424e88f26760044bc9ab0a8af4c02e6d71013b123b5643a1e1623"), looks := true }, kinds := [], alts := [], laidByText := true, laidKinds := [.data, .data, .data, .data, .data, .sentinel, .sentinel, .pinned], laidTests := true, laidLooks := .later }
def ShowBackCardSaid : Prop := Claim7.holds Tryz.pinned (.plain (OpenSpec.ofChange showBackSpec)) showBackCard

/-- THE TIED CARD OF 'secateurtop.TopTidy'. -/
def topTidyCard : Claim7 := { stood := { row := topTidyRow, standIns := [], harness := (true, "9bea0c41d5f424e88f26760044bc9ab0a8af4c02e6d71013b123b5643a1e1623"), looks := true }, kinds := [], alts := [], laidByText := true, laidKinds := [.data, .data, .data, .data, .data, .sentinel, .sentinel, .pinned], laidTests := true, laidLooks := .later }
def TopTidyCardSaid : Prop := Claim7.holds Tryz.pinned (.plain (OpenSpec.ofChange topTidySpec)) topTidyCard

/-- THE SECOND FORM's CARD OF 'secateurlaw11.ShowPrints'. -/
def showPrintsUptoCard : Claim7 := { stood := { row := showPrintsUptoRow, standIns := [], harness := (true, "9bea0c41d5f424e88f26760044bc9ab0a8af4c02e6d71013b123b5643a1e1623"), looks := true }, kinds := [], alts := [], laidByText := true, laidKinds := [.data, .data, .data, .data, .data, .sentinel, .sentinel, .pinned], laidTests := true, laidLooks := .later }
def ShowPrintsUptoCardSaid : Prop := Claim7.holds Tryz.pinned (.plain (OpenSpec.upto showPrintsSpec)) showPrintsUptoCard

/-- THE SECOND FORM's CARD OF 'secateurlaw11.ShowTidy'. -/
def showTidyUptoCard : Claim7 := { stood := { row := showTidyUptoRow, standIns := [], harness := (true, "9bea0c41d5f424e88f26760044bc9ab0a8af4c02e6d71013b123b5643a1e1623"), looks := true }, kinds := [], alts := [], laidByText := true, laidKinds := [.data, .data, .data, .data, .data, .sentinel, .sentinel, .pinned], laidTests := true, laidLooks := .later }
def ShowTidyUptoCardSaid : Prop := Claim7.holds Tryz.pinned (.plain (OpenSpec.upto showTidySpec)) showTidyUptoCard

/-- THE SECOND FORM's CARD OF 'secateurlaw11.ShowBack'. -/
def showBackUptoCard : Claim7 := { stood := { row := showBackUptoRow, standIns := [], harness := (true, "9bea0c41d5f424e88f26760044bc9ab0a8af4c02e6d71013b123b5643a1e1623"), looks := true }, kinds := [], alts := [], laidByText := true, laidKinds := [.data, .data, .data, .data, .data, .sentinel, .sentinel, .pinned], laidTests := true, laidLooks := .later }
def ShowBackUptoCardSaid : Prop := Claim7.holds Tryz.pinned (.plain (OpenSpec.upto showBackSpec)) showBackUptoCard

/-- THE SECOND FORM's CARD OF 'secateurtop.TopTidy'. -/
def topTidyUptoCard : Claim7 := { stood := { row := topTidyUptoRow, standIns := [], harness := (true, "9bea0c41d5f424e88f26760044bc9ab0a8af4c02e6d71013b123b5643a1e1623"), looks := true }, kinds := [], alts := [], laidByText := true, laidKinds := [.data, .data, .data, .data, .data, .sentinel, .sentinel, .pinned], laidTests := true, laidLooks := .later }
def TopTidyUptoCardSaid : Prop := Claim7.holds Tryz.pinned (.plain (OpenSpec.upto topTidySpec)) topTidyUptoCard
end Rows
end Go.Proofs.YtbadingdklenhaaGreatDoor
