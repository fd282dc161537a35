/-
  DERIVED. GIVEN WITH THE SEED: THE CARDS: each row of YtnehgbpfgehhiaaGreatDoorRows.lean that lists a variable, with what it lists TIED to the program's text (the seventh form; the later family's looks); each row that meets fmt, with fmt's text TOLD by the authors' own Lean function (tested against real Go, not proved from fmt's source: count such statements apart). THE CARD IS WHAT COUNTS. Prove the row's statement (the work); the ties are given (YtnehgbpfgehhiaaGreatDoorTie.lean); close each card by the builder's one call (the guide's Derived/Test/ToyasCard.lean, 'card_holds'). Laid BY PROGRAM, IN A SANDBOX (cutbox-door.mjs). By AI agents, Wed Nov 11 2026. No macro, syntax, notation, axiom, sorry.
-/
import Derived.Test.YtnehgbpfgehhiaaGreatDoorRows
import GoSem.ClaimSeven
namespace Go.Proofs.YtnehgbpfgehhiaaGreatDoor
namespace Rows

/-- THE TIED CARD OF 'waybilllaw15.CanonPaths'. -/
def canonPathsCard : Claim7 := { stood := { row := canonPathsRow, standIns := [], harness := (true, "d5c9af5d65e5f2ae3403976bceeb29bd2b882d9b1d3a0b7cb8aa74c684f6e902"), looks := true }, kinds := [], alts := [], laidByText := true, laidKinds := [.data, .data, .data, .data, .sentinel, .sentinel, .data, .data, .pinned, .pinned], laidTests := true, laidLooks := .later }
def CanonPathsCardSaid : Prop := Claim7.holds Tryz.pinned (.plain (OpenSpec.ofChange canonPathsSpec)) canonPathsCard

/-- THE TIED CARD OF 'waybilllaw15.CanonNames'. -/
def canonNamesCard : Claim7 := { stood := { row := canonNamesRow, standIns := [], harness := (true, "d5c9af5d65e5f2ae3403976bceeb29bd2b882d9b1d3a0b7cb8aa74c684f6e902"), looks := true }, kinds := [], alts := [], laidByText := true, laidKinds := [.data, .data, .data, .data, .sentinel, .sentinel, .data, .data, .pinned, .pinned], laidTests := true, laidLooks := .later }
def CanonNamesCardSaid : Prop := Claim7.holds Tryz.pinned (.plain (OpenSpec.ofChange canonNamesSpec)) canonNamesCard

/-- THE TIED CARD OF 'waybilllaw15.CanonTwice'. -/
def canonTwiceCard : Claim7 := { stood := { row := canonTwiceRow, standIns := [], harness := (true, "d5c9af5d65e5f2ae3403976bceeb29bd2b882d9b1d3a0b7cb8aa74c684f6e902"), looks := true }, kinds := [], alts := [], laidByText := true, laidKinds := [.data, .data, .data, .data, .sentinel, .sentinel, .data, .data, .pinned, .pinned], laidTests := true, laidLooks := .later }
def CanonTwiceCardSaid : Prop := Claim7.holds Tryz.pinned (.plain (OpenSpec.ofChange canonTwiceSpec)) canonTwiceCard

/-- THE TIED CARD OF 'waybilllaw15.CanonFirst'. -/
def canonFirstCard : Claim7 := { stood := { row := canonFirstRow, standIns := [], harness := (true, "d5c9af5d65e5f2ae3403976bceeb29bd2b882d9b1d3a0b7cb8aa74c684f6e902"), looks := true }, kinds := [], alts := [], laidByText := true, laidKinds := [.data, .data, .data, .data, .sentinel, .sentinel, .data, .data, .pinned, .pinned], laidTests := true, laidLooks := .later }
def CanonFirstCardSaid : Prop := Claim7.holds Tryz.pinned (.plain (OpenSpec.ofChange canonFirstSpec)) canonFirstCard

/-- THE SECOND FORM's CARD OF 'waybilllaw15.CanonPaths'. -/
def canonPathsUptoCard : Claim7 := { stood := { row := canonPathsUptoRow, standIns := [], harness := (true, "d5c9af5d65e5f2ae3403976bceeb29bd2b882d9b1d3a0b7cb8aa74c684f6e902"), looks := true }, kinds := [], alts := [], laidByText := true, laidKinds := [.data, .data, .data, .data, .sentinel, .sentinel, .data, .data, .pinned, .pinned], laidTests := true, laidLooks := .later }
def CanonPathsUptoCardSaid : Prop := Claim7.holds Tryz.pinned (.plain (OpenSpec.upto canonPathsSpec)) canonPathsUptoCard

/-- THE SECOND FORM's CARD OF 'waybilllaw15.CanonNames'. -/
def canonNamesUptoCard : Claim7 := { stood := { row := canonNamesUptoRow, standIns := [], harness := (true, "d5c9af5d65e5f2ae3403976bceeb29bd2b882d9b1d3a0b7cb8aa74c684f6e902"), looks := true }, kinds := [], alts := [], laidByText := true, laidKinds := [.data, .data, .data, .data, .sentinel, .sentinel, .data, .data, .pinned, .pinned], laidTests := true, laidLooks := .later }
def CanonNamesUptoCardSaid : Prop := Claim7.holds Tryz.pinned (.plain (OpenSpec.upto canonNamesSpec)) canonNamesUptoCard

/-- THE SECOND FORM's CARD OF 'waybilllaw15.CanonTwice'. -/
def canonTwiceUptoCard : Claim7 := { stood := { row := canonTwiceUptoRow, standIns := [], harness := (true, "d5c9af5d65e5f2ae3403976bceeb29bd2b882d9b1d3a0b7cb8aa74c684f6e902"), looks := true }, kinds := [], alts := [], laidByText := true, laidKinds := [.data, .data, .data, .data, .sentinel, .sentinel, .data, .data, .pinned, .pinned], laidTests := true, laidLooks := .later }
def CanonTwiceUptoCardSaid : Prop := Claim7.holds Tryz.pinned (.plain (OpenSpec.upto canonTwiceSpec)) canonTwiceUptoCard

/-- THE SECOND FORM's CARD OF 'waybilllaw15.CanonFirst'. -/
def canonFirstUptoCard : Claim7 := { stood := { row := canonFirstUptoRow, standIns := [], harness := (true, "d5c9af5d65e5f2ae3403976bceeb29bd2b882d9b1d3a0b7cb8aa74c684f6e902"), looks := true }, kinds := [], alts := [], laidByText := true, laidKinds := [.data, .data, .data, .data, .sentinel, .sentinel, .data, .data, .pinned, .pinned], laidTests := true, laidLooks := .later }
def CanonFirstUptoCardSaid : Prop := Claim7.holds Tryz.pinned (.plain (OpenSpec.upto canonFirstSpec)) canonFirstUptoCard
end Rows
end Go.Proofs.YtnehgbpfgehhiaaGreatDoor
