/-
  MERGED by mergefill.py: CnTwiceJ.
-/
import Derived.Test.YtghnopkgcgfcpaaGreatDoorCnTwiceRMg
namespace Go.Proofs.YtghnopkgcgfcpaaGreatDoor.Path
open Go.ChangeShapes Go.WideShapes Go.ChangeAt Go.RowKit Base
theorem canonTwiceLimb0 : Rows.canonTwiceUptoRow.wf (OpenSpec.ofChange (Rows.OpenSpec.upto Rows.canonTwiceSpec).bare)=true:=by kernel_rfl
theorem canonTwiceLimb1 : laidOutB Tryz.pinned.checked.prog=true:=by kernel_rfl
theorem canonTwiceLimb2 : mapsRowed Tryz.pinned.checked.prog=true:=by kernel_rfl
theorem canonTwiceLimb3 : Tryz.f4.params.all (Tryz.pinned.checked.prog.readableRec ·)=true:=by kernel_rfl
theorem canonTwiceLimb4 : namedTie Tryz.pinned.checked.prog Rows.canonTwiceUptoRow.named (Rows.OpenSpec.upto Rows.canonTwiceSpec).bare.vars=true:=by kernel_rfl
theorem canonTwiceLimb5 : (Rows.canonTwiceUptoRow.stops == [])=true:=by kernel_rfl
theorem canonTwiceLimb6 : (Tryz.pinned.checked.prog.stops == [])=true:=by kernel_rfl
theorem canonTwiceLimb7 : (Rows.canonTwiceUptoRow.knobs == [])=true:=by kernel_rfl
theorem canonTwiceLimb8 : (Tryz.pinned.checked.prog.stopKnobs == [])=true:=by kernel_rfl
theorem canonTwiceLimb9 : (Rows.canonTwiceUptoRow.inPlace == Tryz.pinned.checked.prog.inPlace 4)=true:=by kernel_rfl
theorem canonTwiceLimb10 : (Rows.canonTwiceUptoRow.unfollowed == Tryz.pinned.checked.prog.unfollowed 4)=true:=by kernel_rfl
theorem canonTwiceLimb11 : (Rows.canonTwiceUptoRow.recurses == Tryz.pinned.checked.prog.recurses 4)=true:=by kernel_rfl
theorem canonTwiceLimb12 : (Rows.canonTwiceUptoRow.named == Tryz.pinned.checked.prog.varsNamed 4)=true:=by kernel_rfl
theorem canonTwiceLimb13 : (Rows.canonTwiceUptoRow.maps == (Tryz.f4.params.toList++(Rows.OpenSpec.upto Rows.canonTwiceSpec).bare.plain.varTypes Tryz.pinned.checked.prog).any (Tryz.pinned.checked.prog.mapsRec ·))=true:=by kernel_rfl
theorem canonTwiceLimb14 : (Rows.canonTwiceUptoRow.ifaces == (Tryz.f4.params.toList++(Rows.OpenSpec.upto Rows.canonTwiceSpec).bare.plain.varTypes Tryz.pinned.checked.prog).any (Tryz.pinned.checked.prog.ifacesRec ·))=true:=by kernel_rfl
theorem canonTwiceLimb15 : (Rows.canonTwiceUptoRow.mapsOut == Tryz.pinned.checked.prog.mapsAmong Tryz.f4.resultTypes.toList)=true:=by kernel_rfl
theorem canonTwiceLimb16 : (Rows.canonTwiceUptoRow.loops == (Tryz.f4.params.toList++(Rows.OpenSpec.upto Rows.canonTwiceSpec).bare.plain.varTypes Tryz.pinned.checked.prog).any (Tryz.pinned.checked.prog.loopsFrom ·))=true:=by kernel_rfl
theorem canonTwiceLimb17 : (Rows.canonTwiceUptoRow.wideKeys == (Tryz.f4.params.toList++(Rows.OpenSpec.upto Rows.canonTwiceSpec).bare.plain.varTypes Tryz.pinned.checked.prog++Tryz.f4.resultTypes.toList).any (Tryz.pinned.checked.prog.wideKeysFrom ·))=true:=by kernel_rfl
theorem canonTwiceLimb18 : (Rows.OpenSpec.upto Rows.canonTwiceSpec).bare.vars.all (Tryz.pinned.checked.prog.varReadable ·)=true:=by kernel_rfl
theorem canonTwiceLimb19 : Tryz.f4.resultTypes.all (fun t=>Tryz.pinned.checked.prog.readableRec t && decide (t < Tryz.pinned.checked.prog.types.size))=true:=by kernel_rfl
theorem canonTwiceLimb20 : (Rows.canonTwiceUptoRow.ifacesOut == Tryz.f4.resultTypes.toList.any (Tryz.pinned.checked.prog.ifacesRec ·))=true:=by kernel_rfl
theorem canonTwiceLimb21 : (Rows.canonTwiceUptoRow.loopsOut == Tryz.f4.resultTypes.toList.any (Tryz.pinned.checked.prog.loopsFrom ·))=true:=by kernel_rfl
theorem canonTwiceLimb22 : (Rows.canonTwiceUptoRow.plainKeys == Tryz.pinned.checked.prog.plainKeys)=true:=by kernel_rfl
theorem canonTwiceLimb23 : Rows.canonTwiceUptoRow.shortTexts.isNone=true:=by kernel_rfl
theorem canonTwiceLimb24 : Tryz.pinned.checked.prog.stopsHeard=true:=by kernel_rfl
theorem canonTwiceLimb25 : Tryz.pinned.checked.prog.mayEnter=true:=by kernel_rfl
theorem canonTwiceLimb26 : (Rows.canonTwiceUptoRow.lifted == Tryz.pinned.checked.prog.liftsFinal)=true:=by kernel_rfl
theorem canonTwiceLimb27 : (Tryz.pinned.checked.prog.make == some Rows.canonTwiceUptoRow.make)=true:=by kernel_rfl
theorem canonTwiceLimb29 : (Rows.canonTwiceUptoRow.pinned == Rows.canonTwiceUptoRow.pinnedBy)=true:=by kernel_rfl
theorem canonTwiceLimb30 : (Rows.canonTwiceUptoRow.veiled == (Tryz.f4.params.toList++(Rows.OpenSpec.upto Rows.canonTwiceSpec).bare.plain.varTypes Tryz.pinned.checked.prog++Tryz.f4.resultTypes.toList).any (Tryz.pinned.checked.prog.veiledRec ·))=true:=by kernel_rfl
theorem canonTwiceLimb31 : Rows.canonTwiceUptoRow.veiledFits Tryz.pinned.checked.prog Tryz.f4.params.toList (Tryz.f4.params.toList++(Rows.OpenSpec.upto Rows.canonTwiceSpec).bare.plain.varTypes Tryz.pinned.checked.prog++Tryz.f4.resultTypes.toList)=true:=by kernel_rfl
theorem canonTwiceClosed : joinedFacts Tryz.pinned.checked.prog 4 Tryz.f4 (Rows.OpenSpec.upto Rows.canonTwiceSpec).bare Rows.canonTwiceUptoRow=true:=by
 unfold joinedFacts
 rw [canonTwiceLimb0,canonTwiceLimb1,canonTwiceLimb2,canonTwiceLimb3,canonTwiceLimb4,canonTwiceLimb5,canonTwiceLimb6,canonTwiceLimb7,canonTwiceLimb8,canonTwiceLimb9,canonTwiceLimb10,canonTwiceLimb11,canonTwiceLimb12,canonTwiceLimb13,canonTwiceLimb14,canonTwiceLimb15,canonTwiceLimb16,canonTwiceLimb17,canonTwiceLimb18,canonTwiceLimb19,canonTwiceLimb20,canonTwiceLimb21,canonTwiceLimb22,canonTwiceLimb23,canonTwiceLimb24,canonTwiceLimb25,canonTwiceLimb26,canonTwiceLimb27,canonTwiceLimb29,canonTwiceLimb30,canonTwiceLimb31]
 kernel_rfl
end Go.Proofs.YtghnopkgcgfcpaaGreatDoor.Path
