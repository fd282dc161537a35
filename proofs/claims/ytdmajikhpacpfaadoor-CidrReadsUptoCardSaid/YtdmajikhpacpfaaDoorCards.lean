/-
  DERIVED. GIVEN WITH THE SEED: THE CARDS: each row of YtdmajikhpacpfaaDoorRows.lean that lists a variable, with what it lists TIED to the program's text (the seventh form; the later family's looks); each row that meets fmt, with fmt's text TOLD by the authors' own Lean function (tested against real Go, not proved from fmt's source: count such statements apart). THE CARD IS WHAT COUNTS. Prove the row's statement (the work); the ties are given (YtdmajikhpacpfaaDoorTie.lean); close each card by the builder's one call (the guide's Derived/Test/ToyasCard.lean, 'card_holds'). Laid BY PROGRAM, IN A SANDBOX (cutbox-door.mjs). By AI agents, Wed Nov 11 2026. No macro, syntax, notation, axiom, sorry.
-/
import Derived.Test.YtdmajikhpacpfaaDoorRows
import GoSem.ClaimSeven
namespace Go.Proofs.YtdmajikhpacpfaaDoor
namespace Rows

/-- THE TIED CARD OF 'waybilllaw07.CidrReads'. -/
def cidrReadsCard : Claim7 := { stood := { row := cidrReadsRow, standIns := [], harness := (true, "5003b372b0a72f45deebe4457b9b4f0146343d56983dde02897ddad49e166f6e"), looks := true }, kinds := [], alts := [], laidByText := true, laidKinds := [.data, .data, .data, .data, .sentinel, .sentinel, .pinned], laidTests := true, laidLooks := .later }
def CidrReadsCardSaid : Prop := Claim7.holds Tryd.pinned (.plain (OpenSpec.ofChange cidrReadsSpec)) cidrReadsCard

/-- THE TIED CARD OF 'waybilllaw07.CidrShows'. -/
def cidrShowsCard : Claim7 := { stood := { row := cidrShowsRow, standIns := [], harness := (true, "5003b372b0a72f45deebe4457b9b4f0146343d56983dde02897ddad49e166f6e"), looks := true }, kinds := [], alts := [], laidByText := true, laidKinds := [.data, .data, .data, .data, .sentinel, .sentinel, .pinned], laidTests := true, laidLooks := .later }
def CidrShowsCardSaid : Prop := Claim7.holds Tryd.pinned (.plain (OpenSpec.ofChange cidrShowsSpec)) cidrShowsCard

/-- THE TIED CARD OF 'waybilllaw07.CidrWithin'. -/
def cidrWithinCard : Claim7 := { stood := { row := cidrWithinRow, standIns := [], harness := (true, "5003b372b0a72f45deebe4457b9b4f0146343d56983dde02897ddad49e166f6e"), looks := true }, kinds := [], alts := [], laidByText := true, laidKinds := [.data, .data, .data, .data, .sentinel, .sentinel, .pinned], laidTests := true, laidLooks := .later }
def CidrWithinCardSaid : Prop := Claim7.holds Tryd.pinned (.plain (OpenSpec.ofChange cidrWithinSpec)) cidrWithinCard

/-- THE TIED CARD OF 'waybilllaw07.CidrBack'. -/
def cidrBackCard : Claim7 := { stood := { row := cidrBackRow, standIns := [], harness := (true, "5003b372b0a72f45deebe4457b9b4f0146343d56983dde02897ddad49e166f6e"), looks := true }, kinds := [], alts := [], laidByText := true, laidKinds := [.data, .data, .data, .data, .sentinel, .sentinel, .pinned], laidTests := true, laidLooks := .later }
def CidrBackCardSaid : Prop := Claim7.holds Tryd.pinned (.plain (OpenSpec.ofChange cidrBackSpec)) cidrBackCard

/-- THE TIED CARD OF 'waybilllaw07.CidrOrders'. -/
def cidrOrdersCard : Claim7 := { stood := { row := cidrOrdersRow, standIns := [], harness := (true, "5003b372b0a72f45deebe4457b9b4f0146343d56983dde02897ddad49e166f6e"), looks := true }, kinds := [], alts := [], laidByText := true, laidKinds := [.data, .data, .data, .data, .sentinel, .sentinel, .pinned], laidTests := true, laidLooks := .later }
def CidrOrdersCardSaid : Prop := Claim7.holds Tryd.pinned (.plain (OpenSpec.ofChange cidrOrdersSpec)) cidrOrdersCard

/-- THE SECOND FORM's CARD OF 'waybilllaw07.CidrReads'. -/
def cidrReadsUptoCard : Claim7 := { stood := { row := cidrReadsUptoRow, standIns := [], harness := (true, "5003b372b0a72f45deebe4457b9b4f0146343d56983dde02897ddad49e166f6e"), looks := true }, kinds := [], alts := [], laidByText := true, laidKinds := [.data, .data, .data, .data, .sentinel, .sentinel, .pinned], laidTests := true, laidLooks := .later }
def CidrReadsUptoCardSaid : Prop := Claim7.holds Tryd.pinned (.plain (OpenSpec.upto cidrReadsSpec)) cidrReadsUptoCard

/-- THE SECOND FORM's CARD OF 'waybilllaw07.CidrShows'. -/
def cidrShowsUptoCard : Claim7 := { stood := { row := cidrShowsUptoRow, standIns := [], harness := (true, "5003b372b0a72f45deebe4457b9b4f0146343d56983dde02897ddad49e166f6e"), looks := true }, kinds := [], alts := [], laidByText := true, laidKinds := [.data, .data, .data, .data, .sentinel, .sentinel, .pinned], laidTests := true, laidLooks := .later }
def CidrShowsUptoCardSaid : Prop := Claim7.holds Tryd.pinned (.plain (OpenSpec.upto cidrShowsSpec)) cidrShowsUptoCard

/-- THE SECOND FORM's CARD OF 'waybilllaw07.CidrWithin'. -/
def cidrWithinUptoCard : Claim7 := { stood := { row := cidrWithinUptoRow, standIns := [], harness := (true, "5003b372b0a72f45deebe4457b9b4f0146343d56983dde02897ddad49e166f6e"), looks := true }, kinds := [], alts := [], laidByText := true, laidKinds := [.data, .data, .data, .data, .sentinel, .sentinel, .pinned], laidTests := true, laidLooks := .later }
def CidrWithinUptoCardSaid : Prop := Claim7.holds Tryd.pinned (.plain (OpenSpec.upto cidrWithinSpec)) cidrWithinUptoCard

/-- THE SECOND FORM's CARD OF 'waybilllaw07.CidrBack'. -/
def cidrBackUptoCard : Claim7 := { stood := { row := cidrBackUptoRow, standIns := [], harness := (true, "5003b372b0a72f45deebe4457b9b4f0146343d56983dde02897ddad49e166f6e"), looks := true }, kinds := [], alts := [], laidByText := true, laidKinds := [.data, .data, .data, .data, .sentinel, .sentinel, .pinned], laidTests := true, laidLooks := .later }
def CidrBackUptoCardSaid : Prop := Claim7.holds Tryd.pinned (.plain (OpenSpec.upto cidrBackSpec)) cidrBackUptoCard

/-- THE SECOND FORM's CARD OF 'waybilllaw07.CidrOrders'. -/
def cidrOrdersUptoCard : Claim7 := { stood := { row := cidrOrdersUptoRow, standIns := [], harness := (true, "5003b372b0a72f45deebe4457b9b4f0146343d56983dde02897ddad49e166f6e"), looks := true }, kinds := [], alts := [], laidByText := true, laidKinds := [.data, .data, .data, .data, .sentinel, .sentinel, .pinned], laidTests := true, laidLooks := .later }
def CidrOrdersUptoCardSaid : Prop := Claim7.holds Tryd.pinned (.plain (OpenSpec.upto cidrOrdersSpec)) cidrOrdersUptoCard
end Rows
end Go.Proofs.YtdmajikhpacpfaaDoor
