/-
  MERGED by mergefill.py: CnPathsJ.
-/
import Derived.Test.YtghnopkgcgfcpaaGreatDoorCnPathsRMg
namespace Go.Proofs.YtghnopkgcgfcpaaGreatDoor.Path
open Go.ChangeShapes Go.WideShapes Go.ChangeAt Go.RowKit Base
theorem canonPathsLimb0 : Rows.canonPathsUptoRow.wf (OpenSpec.ofChange (Rows.OpenSpec.upto Rows.canonPathsSpec).bare)=true:=by kernel_rfl
theorem canonPathsLimb1 : laidOutB Tryz.pinned.checked.prog=true:=by kernel_rfl
theorem canonPathsLimb2 : mapsRowed Tryz.pinned.checked.prog=true:=by kernel_rfl
theorem canonPathsLimb3 : Tryz.f3.params.all (Tryz.pinned.checked.prog.readableRec ·)=true:=by kernel_rfl
theorem canonPathsLimb4 : namedTie Tryz.pinned.checked.prog Rows.canonPathsUptoRow.named (Rows.OpenSpec.upto Rows.canonPathsSpec).bare.vars=true:=by kernel_rfl
theorem canonPathsLimb5 : (Rows.canonPathsUptoRow.stops == [])=true:=by kernel_rfl
theorem canonPathsLimb6 : (Tryz.pinned.checked.prog.stops == [])=true:=by kernel_rfl
theorem canonPathsLimb7 : (Rows.canonPathsUptoRow.knobs == [])=true:=by kernel_rfl
theorem canonPathsLimb8 : (Tryz.pinned.checked.prog.stopKnobs == [])=true:=by kernel_rfl
theorem canonPathsLimb9 : (Rows.canonPathsUptoRow.inPlace == Tryz.pinned.checked.prog.inPlace 3)=true:=by kernel_rfl
theorem canonPathsLimb10 : (Rows.canonPathsUptoRow.unfollowed == Tryz.pinned.checked.prog.unfollowed 3)=true:=by kernel_rfl
theorem canonPathsLimb11 : (Rows.canonPathsUptoRow.recurses == Tryz.pinned.checked.prog.recurses 3)=true:=by kernel_rfl
theorem canonPathsLimb12 : (Rows.canonPathsUptoRow.named == Tryz.pinned.checked.prog.varsNamed 3)=true:=by kernel_rfl
theorem canonPathsLimb13 : (Rows.canonPathsUptoRow.maps == (Tryz.f3.params.toList++(Rows.OpenSpec.upto Rows.canonPathsSpec).bare.plain.varTypes Tryz.pinned.checked.prog).any (Tryz.pinned.checked.prog.mapsRec ·))=true:=by kernel_rfl
theorem canonPathsLimb14 : (Rows.canonPathsUptoRow.ifaces == (Tryz.f3.params.toList++(Rows.OpenSpec.upto Rows.canonPathsSpec).bare.plain.varTypes Tryz.pinned.checked.prog).any (Tryz.pinned.checked.prog.ifacesRec ·))=true:=by kernel_rfl
theorem canonPathsLimb15 : (Rows.canonPathsUptoRow.mapsOut == Tryz.pinned.checked.prog.mapsAmong Tryz.f3.resultTypes.toList)=true:=by kernel_rfl
theorem canonPathsLimb16 : (Rows.canonPathsUptoRow.loops == (Tryz.f3.params.toList++(Rows.OpenSpec.upto Rows.canonPathsSpec).bare.plain.varTypes Tryz.pinned.checked.prog).any (Tryz.pinned.checked.prog.loopsFrom ·))=true:=by kernel_rfl
theorem canonPathsLimb17 : (Rows.canonPathsUptoRow.wideKeys == (Tryz.f3.params.toList++(Rows.OpenSpec.upto Rows.canonPathsSpec).bare.plain.varTypes Tryz.pinned.checked.prog++Tryz.f3.resultTypes.toList).any (Tryz.pinned.checked.prog.wideKeysFrom ·))=true:=by kernel_rfl
theorem canonPathsLimb18 : (Rows.OpenSpec.upto Rows.canonPathsSpec).bare.vars.all (Tryz.pinned.checked.prog.varReadable ·)=true:=by kernel_rfl
theorem canonPathsLimb19 : Tryz.f3.resultTypes.all (fun t=>Tryz.pinned.checked.prog.readableRec t && decide (t < Tryz.pinned.checked.prog.types.size))=true:=by kernel_rfl
theorem canonPathsLimb20 : (Rows.canonPathsUptoRow.ifacesOut == Tryz.f3.resultTypes.toList.any (Tryz.pinned.checked.prog.ifacesRec ·))=true:=by kernel_rfl
theorem canonPathsLimb21 : (Rows.canonPathsUptoRow.loopsOut == Tryz.f3.resultTypes.toList.any (Tryz.pinned.checked.prog.loopsFrom ·))=true:=by kernel_rfl
theorem canonPathsLimb22 : (Rows.canonPathsUptoRow.plainKeys == Tryz.pinned.checked.prog.plainKeys)=true:=by kernel_rfl
theorem canonPathsLimb23 : Rows.canonPathsUptoRow.shortTexts.isNone=true:=by kernel_rfl
theorem canonPathsLimb24 : Tryz.pinned.checked.prog.stopsHeard=true:=by kernel_rfl
theorem canonPathsLimb25 : Tryz.pinned.checked.prog.mayEnter=true:=by kernel_rfl
theorem canonPathsLimb26 : (Rows.canonPathsUptoRow.lifted == Tryz.pinned.checked.prog.liftsFinal)=true:=by kernel_rfl
theorem canonPathsLimb27 : (Tryz.pinned.checked.prog.make == some Rows.canonPathsUptoRow.make)=true:=by kernel_rfl
theorem canonPathsLimb29 : (Rows.canonPathsUptoRow.pinned == Rows.canonPathsUptoRow.pinnedBy)=true:=by kernel_rfl
theorem canonPathsLimb30 : (Rows.canonPathsUptoRow.veiled == (Tryz.f3.params.toList++(Rows.OpenSpec.upto Rows.canonPathsSpec).bare.plain.varTypes Tryz.pinned.checked.prog++Tryz.f3.resultTypes.toList).any (Tryz.pinned.checked.prog.veiledRec ·))=true:=by kernel_rfl
theorem canonPathsLimb31 : Rows.canonPathsUptoRow.veiledFits Tryz.pinned.checked.prog Tryz.f3.params.toList (Tryz.f3.params.toList++(Rows.OpenSpec.upto Rows.canonPathsSpec).bare.plain.varTypes Tryz.pinned.checked.prog++Tryz.f3.resultTypes.toList)=true:=by kernel_rfl
theorem canonPathsClosed : joinedFacts Tryz.pinned.checked.prog 3 Tryz.f3 (Rows.OpenSpec.upto Rows.canonPathsSpec).bare Rows.canonPathsUptoRow=true:=by
 unfold joinedFacts
 rw [canonPathsLimb0,canonPathsLimb1,canonPathsLimb2,canonPathsLimb3,canonPathsLimb4,canonPathsLimb5,canonPathsLimb6,canonPathsLimb7,canonPathsLimb8,canonPathsLimb9,canonPathsLimb10,canonPathsLimb11,canonPathsLimb12,canonPathsLimb13,canonPathsLimb14,canonPathsLimb15,canonPathsLimb16,canonPathsLimb17,canonPathsLimb18,canonPathsLimb19,canonPathsLimb20,canonPathsLimb21,canonPathsLimb22,canonPathsLimb23,canonPathsLimb24,canonPathsLimb25,canonPathsLimb26,canonPathsLimb27,canonPathsLimb29,canonPathsLimb30,canonPathsLimb31]
 kernel_rfl
end Go.Proofs.YtghnopkgcgfcpaaGreatDoor.Path
