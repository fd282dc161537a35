/-
  CanonFirst: for every input of bulk at most 1048576 (the narrowed form) the law returns true and each argument reads afterwards as it read before; the card ties the library's tables that it lists to the program's text. Conditions: none but the bulk.
-/
import Derived.Test.YtghnopkgcgfcpaaGreatDoorCards
import Derived.Test.YtghnopkgcgfcpaaGreatDoorTie
import Derived.Test.YtghnopkgcgfcpaaGreatDoorCnFirstSMg
import Derived.SevenTiedAt
namespace Go.Proofs.YtghnopkgcgfcpaaGreatDoor.Path
open Go.ChangeShapes Go.WideShapes Go.ChangeAt Go.RowKit Base
open Go.ChangeMaps (open_string shut_string)
theorem canonFirstPlain (f : FuncId) (fn : Func) (hf : Tryz.pinned.checked.prog.funcNamed "waybill/waybilllaw15.CanonFirst" = some f) (hfn : Tryz.pinned.checked.prog.funcs[f]? = some fn) :
  true=Tryz.pinned.checked.prog.looks []∧∀ (j : Nat) t,fn.params[j]?=some t→Tryz.pinned.checked.prog.wantsStandIn t=false:=by
 obtain rfl : f = 5 := Option.some.inj ((show Tryz.prog.funcNamed "waybill/waybilllaw15.CanonFirst" = some 5 by kernel_rfl).symm.trans hf) |>.symm
 obtain rfl : fn=Tryz.f5:=(Option.some.inj (Tryz.func5.symm.trans hfn)).symm
 refine ⟨by kernel_rfl,fun j t ht=>?_⟩
 rw [Tryz.params5] at ht
 have hm : t ∈ ([9,9,26] : List TypeId):=by simpa using Array.mem_of_getElem? ht
 have hall : (([9,9,26] : List TypeId).all fun u=>!Tryz.prog.wantsStandIn u)=true:=by kernel_rfl
 exact (show Tryz.prog.wantsStandIn t=false by simpa using List.all_eq_true.1 hall t hm)
theorem canonFirstCard : Rows.CanonFirstUptoCardSaid :=
 Claim7.holds_tied_plain_at .later [] _ _ _ _ canonFirstSaid (fun _ h=>by cases h) (by kernel_rfl) (fun _ h=>by cases h) canonFirstUpto_row_tie rfl ⟨rfl,rfl⟩ (by kernel_rfl) rfl canonFirstPlain (by kernel_rfl)
end Go.Proofs.YtghnopkgcgfcpaaGreatDoor.Path
