/-
  DERIVED. GIVEN WITH THE SEED: THE CARDS: each row of YtghnopkgcgfcpaaGreatDoorRows.lean that lists a variable, with what it lists TIED to the program's text (the seventh form; the later family's looks); each row that meets fmt, with fmt's text TOLD by the authors' own Lean function (tested against real Go, not proved from fmt's source: count such statements apart). THE CARD IS WHAT COUNTS. Prove the row's statement (the work); the ties are given (YtghnopkgcgfcpaaGreatDoorTie.lean); close each card by the builder's one call (the guide's Derived/Test/ToyasCard.lean, 'card_holds'). Laid BY PROGRAM, IN A SANDBOX (cutbox-door.mjs). By AI agents, Wed Nov 11 2026. No macro, syntax, notation, axiom, sorry.
-/
import Derived.Test.YtghnopkgcgfcpaaGreatDoorRows
import GoSem.ClaimSeven
namespace Go.Proofs.YtghnopkgcgfcpaaGreatDoor
namespace Rows

/-- THE TIED CARD OF 'waybilllaw15.CanonPaths'. -/
def canonPathsCard : Claim7 := { stood := { row := canonPathsRow, standIns := [], harness := (true, "3c0b89707f1635addf9a0825fe49410ec015b459206ecf40ad401ad677b8aee6"), looks := true }, kinds := [], alts := [], laidByText := true, laidKinds := [.data, .data, .data, .data, .sentinel, .sentinel, .data, .data, .pinned, .pinned], laidTests := true, laidLooks := .later }
def CanonPathsCardSaid : Prop := Claim7.holds Tryz.pinned (.plain (OpenSpec.ofChange canonPathsSpec)) canonPathsCard

/-- THE TIED CARD OF 'waybilllaw15.CanonTwice'. -/
def canonTwiceCard : Claim7 := { stood := { row := canonTwiceRow, standIns := [], harness := (true, "3c0b89707f1635addf9a0825fe49410ec015b459206ecf40ad401ad677b8aee6"), looks := true }, kinds := [], alts := [], laidByText := true, laidKinds := [.data, .data, .data, .data, .sentinel, .sentinel, .data, .data, .pinned, .pinned], laidTests := true, laidLooks := .later }
def CanonTwiceCardSaid : Prop := Claim7.holds Tryz.pinned (.plain (OpenSpec.ofChange canonTwiceSpec)) canonTwiceCard

/-- THE TIED CARD OF 'waybilllaw15.CanonFirst'. -/
def canonFirstCard : Claim7 := { stood := { row := canonFirstRow, standIns := [], harness := (true, "3c0b89707f1635addf9a0825fe49410ec015b459206ecf40ad401ad677b8aee6"), looks := true }, kinds := [], alts := [], laidByText := true, laidKinds := [.data, .data, .data, .data, .sentinel, .sentinel, .data, .data, .pinned, .pinned], laidTests := true, laidLooks := .later }
def CanonFirstCardSaid : Prop := Claim7.holds Tryz.pinned (.plain (OpenSpec.ofChange canonFirstSpec)) canonFirstCard

/-- THE SECOND FORM's CARD OF 'waybilllaw15.CanonPaths'. -/
def canonPathsUptoCard : Claim7 := { stood := { row := canonPathsUptoRow, standIns := [], harness := (true, "3c0b89707f1635addf9a0825fe49410ec015b459206ecf40ad401ad677b8aee6"), looks := true }, kinds := [], alts := [], laidByText := true, laidKinds := [.data, .data, .data, .data, .sentinel, .sentinel, .data, .data, .pinned, .pinned], laidTests := true, laidLooks := .later }
def CanonPathsUptoCardSaid : Prop := Claim7.holds Tryz.pinned (.plain (OpenSpec.upto canonPathsSpec)) canonPathsUptoCard

/-- THE SECOND FORM's CARD OF 'waybilllaw15.CanonTwice'. -/
def canonTwiceUptoCard : Claim7 := { stood := { row := canonTwiceUptoRow, standIns := [], harness := (true, "3c0b89707f1635addf9a0825fe49410ec015b459206ecf40ad401ad677b8aee6"), looks := true }, kinds := [], alts := [], laidByText := true, laidKinds := [.data, .data, .data, .data, .sentinel, .sentinel, .data, .data, .pinned, .pinned], laidTests := true, laidLooks := .later }
def CanonTwiceUptoCardSaid : Prop := Claim7.holds Tryz.pinned (.plain (OpenSpec.upto canonTwiceSpec)) canonTwiceUptoCard

/-- THE SECOND FORM's CARD OF 'waybilllaw15.CanonFirst'. -/
def canonFirstUptoCard : Claim7 := { stood := { row := canonFirstUptoRow, standIns := [], harness := (true, "3c0b89707f1635addf9a0825fe49410ec015b459206ecf40ad401ad677b8aee6"), looks := true }, kinds := [], alts := [], laidByText := true, laidKinds := [.data, .data, .data, .data, .sentinel, .sentinel, .data, .data, .pinned, .pinned], laidTests := true, laidLooks := .later }
def CanonFirstUptoCardSaid : Prop := Claim7.holds Tryz.pinned (.plain (OpenSpec.upto canonFirstSpec)) canonFirstUptoCard
end Rows
end Go.Proofs.YtghnopkgcgfcpaaGreatDoor
