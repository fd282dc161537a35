/-
  DERIVED. GIVEN WITH THE SEED: THE CARDS: each row of YtbgdohggdaoojaaDoorRows.lean that lists a variable, with what it lists TIED to the program's text (the seventh form; the later family's looks); each row that meets fmt, with fmt's text TOLD by the authors' own Lean function (tested against real Go, not proved from fmt's source: count such statements apart). THE CARD IS WHAT COUNTS. Prove the row's statement (the work); the ties are given (YtbgdohggdaoojaaDoorTie.lean); close each card by the builder's one call (the guide's Derived/Test/ToyasCard.lean, 'card_holds'). Laid BY PROGRAM, IN A SANDBOX (cutbox-door.mjs). By AI agents, Wed Nov 11 2026. No macro, syntax, notation, axiom, sorry.
-/
import Derived.Test.YtbgdohggdaoojaaDoorRows
import GoSem.ClaimSeven
namespace Go.Proofs.YtbgdohggdaoojaaDoor
namespace Rows

/-- THE TIED CARD OF 'waybilllaw06.TableParses'. -/
def tableParsesCard : Claim7 := { stood := { row := tableParsesRow, standIns := [], harness := (true, "ead57cfe4741e5199c5080806b38274623c1548b930e769ccedde7393a29286c"), looks := false }, kinds := [], alts := [], laidByText := true, laidKinds := [.data, .pinned], laidTests := true, laidLooks := .later }
def TableParsesCardSaid : Prop := Claim7.holds Tryd.pinned (.plain (OpenSpec.ofChange tableParsesSpec)) tableParsesCard

/-- THE TIED CARD OF 'waybilllaw06.TableChains'. -/
def tableChainsCard : Claim7 := { stood := { row := tableChainsRow, standIns := [], harness := (true, "ead57cfe4741e5199c5080806b38274623c1548b930e769ccedde7393a29286c"), looks := false }, kinds := [], alts := [], laidByText := true, laidKinds := [.data, .pinned], laidTests := true, laidLooks := .later }
def TableChainsCardSaid : Prop := Claim7.holds Tryd.pinned (.plain (OpenSpec.ofChange tableChainsSpec)) tableChainsCard

/-- THE TIED CARD OF 'waybilllaw06.TableTurns'. -/
def tableTurnsCard : Claim7 := { stood := { row := tableTurnsRow, standIns := [], harness := (true, "ead57cfe4741e5199c5080806b38274623c1548b930e769ccedde7393a29286c"), looks := false }, kinds := [], alts := [], laidByText := true, laidKinds := [.data, .pinned], laidTests := true, laidLooks := .later }
def TableTurnsCardSaid : Prop := Claim7.holds Tryd.pinned (.plain (OpenSpec.ofChange tableTurnsSpec)) tableTurnsCard

/-- THE SECOND FORM's CARD OF 'waybilllaw06.TableParses'. -/
def tableParsesUptoCard : Claim7 := { stood := { row := tableParsesUptoRow, standIns := [], harness := (true, "ead57cfe4741e5199c5080806b38274623c1548b930e769ccedde7393a29286c"), looks := false }, kinds := [], alts := [], laidByText := true, laidKinds := [.data, .pinned], laidTests := true, laidLooks := .later }
def TableParsesUptoCardSaid : Prop := Claim7.holds Tryd.pinned (.plain (OpenSpec.upto tableParsesSpec)) tableParsesUptoCard

/-- THE SECOND FORM's CARD OF 'waybilllaw06.TableChains'. -/
def tableChainsUptoCard : Claim7 := { stood := { row := tableChainsUptoRow, standIns := [], harness := (true, "ead57cfe4741e5199c5080806b38274623c1548b930e769ccedde7393a29286c"), looks := false }, kinds := [], alts := [], laidByText := true, laidKinds := [.data, .pinned], laidTests := true, laidLooks := .later }
def TableChainsUptoCardSaid : Prop := Claim7.holds Tryd.pinned (.plain (OpenSpec.upto tableChainsSpec)) tableChainsUptoCard

/-- THE SECOND FORM's CARD OF 'waybilllaw06.TableTurns'. -/
def tableTurnsUptoCard : Claim7 := { stood := { row := tableTurnsUptoRow, standIns := [], harness := (true, "ead57cfe4741e5199c5080806b38274623c1548b930e769ccedde7393a29286c"), looks := false }, kinds := [], alts := [], laidByText := true, laidKinds := [.data, .pinned], laidTests := true, laidLooks := .later }
def TableTurnsUptoCardSaid : Prop := Claim7.holds Tryd.pinned (.plain (OpenSpec.upto tableTurnsSpec)) tableTurnsUptoCard
end Rows
end Go.Proofs.YtbgdohggdaoojaaDoor
