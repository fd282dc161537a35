/-
  MERGED by mergefill.py: CnFirstJ.
-/
import Derived.Test.YtghnopkgcgfcpaaGreatDoorCnFirstRMg
namespace Go.Proofs.YtghnopkgcgfcpaaGreatDoor.Path
open Go.ChangeShapes Go.WideShapes Go.ChangeAt Go.RowKit Base
theorem canonFirstLimb0 : Rows.canonFirstUptoRow.wf (OpenSpec.ofChange (Rows.OpenSpec.upto Rows.canonFirstSpec).bare)=true:=by kernel_rfl
theorem canonFirstLimb1 : laidOutB Tryz.pinned.checked.prog=true:=by kernel_rfl
theorem canonFirstLimb2 : mapsRowed Tryz.pinned.checked.prog=true:=by kernel_rfl
theorem canonFirstLimb3 : Tryz.f5.params.all (Tryz.pinned.checked.prog.readableRec ·)=true:=by kernel_rfl
theorem canonFirstLimb4 : namedTie Tryz.pinned.checked.prog Rows.canonFirstUptoRow.named (Rows.OpenSpec.upto Rows.canonFirstSpec).bare.vars=true:=by kernel_rfl
theorem canonFirstLimb5 : (Rows.canonFirstUptoRow.stops == [])=true:=by kernel_rfl
theorem canonFirstLimb6 : (Tryz.pinned.checked.prog.stops == [])=true:=by kernel_rfl
theorem canonFirstLimb7 : (Rows.canonFirstUptoRow.knobs == [])=true:=by kernel_rfl
theorem canonFirstLimb8 : (Tryz.pinned.checked.prog.stopKnobs == [])=true:=by kernel_rfl
theorem canonFirstLimb9 : (Rows.canonFirstUptoRow.inPlace == Tryz.pinned.checked.prog.inPlace 5)=true:=by kernel_rfl
theorem canonFirstLimb10 : (Rows.canonFirstUptoRow.unfollowed == Tryz.pinned.checked.prog.unfollowed 5)=true:=by kernel_rfl
theorem canonFirstLimb11 : (Rows.canonFirstUptoRow.recurses == Tryz.pinned.checked.prog.recurses 5)=true:=by kernel_rfl
theorem canonFirstLimb12 : (Rows.canonFirstUptoRow.named == Tryz.pinned.checked.prog.varsNamed 5)=true:=by kernel_rfl
theorem canonFirstLimb13 : (Rows.canonFirstUptoRow.maps == (Tryz.f5.params.toList++(Rows.OpenSpec.upto Rows.canonFirstSpec).bare.plain.varTypes Tryz.pinned.checked.prog).any (Tryz.pinned.checked.prog.mapsRec ·))=true:=by kernel_rfl
theorem canonFirstLimb14 : (Rows.canonFirstUptoRow.ifaces == (Tryz.f5.params.toList++(Rows.OpenSpec.upto Rows.canonFirstSpec).bare.plain.varTypes Tryz.pinned.checked.prog).any (Tryz.pinned.checked.prog.ifacesRec ·))=true:=by kernel_rfl
theorem canonFirstLimb15 : (Rows.canonFirstUptoRow.mapsOut == Tryz.pinned.checked.prog.mapsAmong Tryz.f5.resultTypes.toList)=true:=by kernel_rfl
theorem canonFirstLimb16 : (Rows.canonFirstUptoRow.loops == (Tryz.f5.params.toList++(Rows.OpenSpec.upto Rows.canonFirstSpec).bare.plain.varTypes Tryz.pinned.checked.prog).any (Tryz.pinned.checked.prog.loopsFrom ·))=true:=by kernel_rfl
theorem canonFirstLimb17 : (Rows.canonFirstUptoRow.wideKeys == (Tryz.f5.params.toList++(Rows.OpenSpec.upto Rows.canonFirstSpec).bare.plain.varTypes Tryz.pinned.checked.prog++Tryz.f5.resultTypes.toList).any (Tryz.pinned.checked.prog.wideKeysFrom ·))=true:=by kernel_rfl
theorem canonFirstLimb18 : (Rows.OpenSpec.upto Rows.canonFirstSpec).bare.vars.all (Tryz.pinned.checked.prog.varReadable ·)=true:=by kernel_rfl
theorem canonFirstLimb19 : Tryz.f5.resultTypes.all (fun t=>Tryz.pinned.checked.prog.readableRec t && decide (t < Tryz.pinned.checked.prog.types.size))=true:=by kernel_rfl
theorem canonFirstLimb20 : (Rows.canonFirstUptoRow.ifacesOut == Tryz.f5.resultTypes.toList.any (Tryz.pinned.checked.prog.ifacesRec ·))=true:=by kernel_rfl
theorem canonFirstLimb21 : (Rows.canonFirstUptoRow.loopsOut == Tryz.f5.resultTypes.toList.any (Tryz.pinned.checked.prog.loopsFrom ·))=true:=by kernel_rfl
theorem canonFirstLimb22 : (Rows.canonFirstUptoRow.plainKeys == Tryz.pinned.checked.prog.plainKeys)=true:=by kernel_rfl
theorem canonFirstLimb23 : Rows.canonFirstUptoRow.shortTexts.isNone=true:=by kernel_rfl
theorem canonFirstLimb24 : Tryz.pinned.checked.prog.stopsHeard=true:=by kernel_rfl
theorem canonFirstLimb25 : Tryz.pinned.checked.prog.mayEnter=true:=by kernel_rfl
theorem canonFirstLimb26 : (Rows.canonFirstUptoRow.lifted == Tryz.pinned.checked.prog.liftsFinal)=true:=by kernel_rfl
theorem canonFirstLimb27 : (Tryz.pinned.checked.prog.make == some Rows.canonFirstUptoRow.make)=true:=by kernel_rfl
theorem canonFirstLimb29 : (Rows.canonFirstUptoRow.pinned == Rows.canonFirstUptoRow.pinnedBy)=true:=by kernel_rfl
theorem canonFirstLimb30 : (Rows.canonFirstUptoRow.veiled == (Tryz.f5.params.toList++(Rows.OpenSpec.upto Rows.canonFirstSpec).bare.plain.varTypes Tryz.pinned.checked.prog++Tryz.f5.resultTypes.toList).any (Tryz.pinned.checked.prog.veiledRec ·))=true:=by kernel_rfl
theorem canonFirstLimb31 : Rows.canonFirstUptoRow.veiledFits Tryz.pinned.checked.prog Tryz.f5.params.toList (Tryz.f5.params.toList++(Rows.OpenSpec.upto Rows.canonFirstSpec).bare.plain.varTypes Tryz.pinned.checked.prog++Tryz.f5.resultTypes.toList)=true:=by kernel_rfl
theorem canonFirstClosed : joinedFacts Tryz.pinned.checked.prog 5 Tryz.f5 (Rows.OpenSpec.upto Rows.canonFirstSpec).bare Rows.canonFirstUptoRow=true:=by
 unfold joinedFacts
 rw [canonFirstLimb0,canonFirstLimb1,canonFirstLimb2,canonFirstLimb3,canonFirstLimb4,canonFirstLimb5,canonFirstLimb6,canonFirstLimb7,canonFirstLimb8,canonFirstLimb9,canonFirstLimb10,canonFirstLimb11,canonFirstLimb12,canonFirstLimb13,canonFirstLimb14,canonFirstLimb15,canonFirstLimb16,canonFirstLimb17,canonFirstLimb18,canonFirstLimb19,canonFirstLimb20,canonFirstLimb21,canonFirstLimb22,canonFirstLimb23,canonFirstLimb24,canonFirstLimb25,canonFirstLimb26,canonFirstLimb27,canonFirstLimb29,canonFirstLimb30,canonFirstLimb31]
 kernel_rfl
end Go.Proofs.YtghnopkgcgfcpaaGreatDoor.Path
