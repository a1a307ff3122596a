/-
  DERIVED. GIVEN WITH THE SEED: THE CARDS: each row of YthfdpnmdcmpgbaaDoorRows.lean that lists a variable, with what it lists TIED to the program's text (the seventh form; the later family's looks); each row that meets fmt, with fmt's text TOLD by the authors' own Lean function (tested against real Go, not proved from fmt's source: count such statements apart). THE CARD IS WHAT COUNTS. Prove the row's statement (the work); the ties are given (YthfdpnmdcmpgbaaDoorTie.lean); close each card by the builder's one call (the guide's Derived/Test/ToyasCard.lean, 'card_holds'). Laid BY PROGRAM, IN A SANDBOX (cutbox-door.mjs). By AI agents, Wed Nov 11 2026. No macro, syntax, notation, axiom, sorry.
-/
import Derived.Test.YthfdpnmdcmpgbaaDoorRows
import GoSem.ClaimSeven
namespace Go.Proofs.YthfdpnmdcmpgbaaDoor
namespace Rows

/-- THE TIED CARD OF 'secateurlaw04.KeyOrders'. -/
def keyOrdersCard : Claim7 := { stood := { row := keyOrdersRow, standIns := [], harness := (true, "6e74ecf23561aaa33a0199dffe1bcbb73edc50ea1c22ebdb4905a4c226affa82"), looks := false }, kinds := [], alts := [], laidByText := true, laidKinds := [.data, .data, .data], laidTests := true, laidLooks := .later }
def KeyOrdersCardSaid : Prop := Claim7.holds Tryd.pinned (.plain (OpenSpec.ofChange keyOrdersSpec)) keyOrdersCard

/-- THE TIED CARD OF 'secateurlaw04.KeySorts'. -/
def keySortsCard : Claim7 := { stood := { row := keySortsRow, standIns := [], harness := (true, "6e74ecf23561aaa33a0199dffe1bcbb73edc50ea1c22ebdb4905a4c226affa82"), looks := false }, kinds := [], alts := [], laidByText := true, laidKinds := [.data, .data, .data], laidTests := true, laidLooks := .later }
def KeySortsCardSaid : Prop := Claim7.holds Tryd.pinned (.plain (OpenSpec.ofChange keySortsSpec)) keySortsCard

/-- THE TIED CARD OF 'secateurlaw04.KeyChain'. -/
def keyChainCard : Claim7 := { stood := { row := keyChainRow, standIns := [], harness := (true, "6e74ecf23561aaa33a0199dffe1bcbb73edc50ea1c22ebdb4905a4c226affa82"), looks := false }, kinds := [], alts := [], laidByText := true, laidKinds := [.data, .data, .data], laidTests := true, laidLooks := .later }
def KeyChainCardSaid : Prop := Claim7.holds Tryd.pinned (.plain (OpenSpec.ofChange keyChainSpec)) keyChainCard

/-- THE SECOND FORM's CARD OF 'secateurlaw04.KeyOrders'. -/
def keyOrdersUptoCard : Claim7 := { stood := { row := keyOrdersUptoRow, standIns := [], harness := (true, "6e74ecf23561aaa33a0199dffe1bcbb73edc50ea1c22ebdb4905a4c226affa82"), looks := false }, kinds := [], alts := [], laidByText := true, laidKinds := [.data, .data, .data], laidTests := true, laidLooks := .later }
def KeyOrdersUptoCardSaid : Prop := Claim7.holds Tryd.pinned (.plain (OpenSpec.upto keyOrdersSpec)) keyOrdersUptoCard

/-- THE SECOND FORM's CARD OF 'secateurlaw04.KeySorts'. -/
def keySortsUptoCard : Claim7 := { stood := { row := keySortsUptoRow, standIns := [], harness := (true, "6e74ecf23561aaa33a0199dffe1bcbb73edc50ea1c22ebdb4905a4c226affa82"), looks := false }, kinds := [], alts := [], laidByText := true, laidKinds := [.data, .data, .data], laidTests := true, laidLooks := .later }
def KeySortsUptoCardSaid : Prop := Claim7.holds Tryd.pinned (.plain (OpenSpec.upto keySortsSpec)) keySortsUptoCard

/-- THE SECOND FORM's CARD OF 'secateurlaw04.KeyChain'. -/
def keyChainUptoCard : Claim7 := { stood := { row := keyChainUptoRow, standIns := [], harness := (true, "6e74ecf23561aaa33a0199dffe1bcbb73edc50ea1c22ebdb4905a4c226affa82"), looks := false }, kinds := [], alts := [], laidByText := true, laidKinds := [.data, .data, .data], laidTests := true, laidLooks := .later }
def KeyChainUptoCardSaid : Prop := Claim7.holds Tryd.pinned (.plain (OpenSpec.upto keyChainSpec)) keyChainUptoCard
end Rows
end Go.Proofs.YthfdpnmdcmpgbaaDoor
