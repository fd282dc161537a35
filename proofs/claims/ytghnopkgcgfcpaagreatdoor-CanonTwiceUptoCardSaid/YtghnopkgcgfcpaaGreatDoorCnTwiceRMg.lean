/-
  MERGED by mergefill.py: CnTwiceR.
-/
import Derived.Test.YtghnopkgcgfcpaaGreatDoorCards
import Derived.Test.YtghnopkgcgfcpaaGreatDoorTie
import Derived.Test.YtghnopkgcgfcpaaGreatDoorR15FctMg
import Derived.Test.YtghnopkgcgfcpaaGreatDoorR15LwTMg
import Derived.SevenTiedAt
set_option maxHeartbeats 16000000
set_option maxRecDepth 100000
namespace Go.Proofs.YtghnopkgcgfcpaaGreatDoor.Path
open Go.ChangeShapes Go.WideShapes Go.ChangeAt Go.RowKit Base
open Go.ChangeMaps (open_string shut_string)
theorem canonTwiceReads (os : Os) {H : Type} (enc : TypeId × Value→H) : ∃ places,DataW.whole enc Tryz.prog ((World.laidAll Tryz.prog os laidL).forCall (fun _ _=>0) ⟨#[],#[.agg #[.string ⟨#[]⟩,.slice none 0 0],.agg #[.bool false,.string ⟨#[]⟩,.string ⟨#[]⟩,.bool false]],[]⟩).memory Tryz.f4.params.toList Rows.canonTwiceSpec.vars false (#[.agg #[.string ⟨#[]⟩,.slice none 0 0],.agg #[.bool false,.string ⟨#[]⟩,.string ⟨#[]⟩,.bool false]] : Array Value).toList 8=some ([.agg [.lit (.string []),.nil],.agg [.lit (.bool false),.lit (.string []),.lit (.string []),.lit (.bool false)]],[],places) :=
 ⟨[],by kernel_rfl⟩
theorem canonTwiceLifted (os : Os) (started : os.Started) (H : Type) (enc : TypeId × Value→H) (F : Stop.Interp) :
  ReturnsInHanded {} Tryz.checked os 4 .any ((Rows.OpenSpec.upto Rows.canonTwiceSpec).preRow enc Tryz.prog Tryz.f4 Rows.canonTwiceUptoRow.domain false Rows.canonTwiceUptoRow.laid) (((Rows.OpenSpec.upto Rows.canonTwiceSpec).at F).post enc Tryz.prog Tryz.f4 false true false false):=by
 obtain ⟨places,hx⟩:=canonTwiceReads os enc
 refine returnsInHanded_of_row (C:=Tryz.checked) (s:=Rows.OpenSpec.upto Rows.canonTwiceSpec) own started (by kernel_rfl) Tryz.func4
  (witness_laid (enc:=enc) (C:=Tryz.checked) (World.laidAll Tryz.prog os laidL) #[.agg #[.string ⟨#[]⟩,.slice none 0 0],.agg #[.bool false,.string ⟨#[]⟩,.string ⟨#[]⟩,.bool false]] (World.laidAll_os _ _ _) (laid_shaped os _) (by kernel_rfl)
   (OpenSpec.preRow_of_cond 8 hx (by kernel_rfl) (fun k hk=>by cases hk; kernel_rfl) (by kernel_rfl) (laid_met os _))) ?_
 intro W base args ds gs before hval0 hW _ hcond hsz hL hsh _
 have hval : ∀ (j : Nat) t v,Tryz.f4.params[j]?=some t→args[j]?=some v→Value.okWide Tryz.prog W .any base t v:=hval0
 have htab:=env_of hL hsh
 have hW':=hW
 obtain ⟨p,q,hA0,hV,rfl,hfz,hnd⟩:=hW
 have hA : DataW.TrodAll enc Tryz.prog W 0 (fun _=>true) true Tryz.f4.params.toList args.toList ds p:=hA0
 rw [Tryz.params4] at hA hval hsz
 obtain ⟨v0,vs0,d0,ds0,p0,q0,hargs,rfl,rfl,h0,r0⟩:=trodAll_cons hA
 obtain ⟨v1,vs1,d1,ds1,p1,q1,rfl,rfl,rfl,h1,r1⟩:=trodAll_cons r0
 obtain ⟨rfl,rfl,rfl⟩:=trodAll_nil r1
 obtain rfl : args=#[v0,v1]:=by cases args; simp_all
 obtain ⟨rfl,rfl⟩:=trodVars_none hV
 have hk:=of_decide_eq_true (hcond _ rfl)
 have k0:=h0
 have lt0 : ∀ x ∈ p0,x.block < W.heap.size:=by obtain ⟨m,hm⟩:=k0; exact DataW.trod_lt m _ _ _ hm
 obtain ⟨host0,A0,c0,Xs0,rfl,sx0,sl0,bk0⟩:=open_asked (hval 0 24 v0 rfl rfl) h0
 have k1:=h1
 have lt1 : ∀ x ∈ p1,x.block < W.heap.size:=by obtain ⟨m,hm⟩:=k1; exact DataW.trod_lt m _ _ _ hm
 obtain ⟨pv1,rfl,bl1,bd1⟩:=open_path (hval 1 26 v1 rfl rfl) h1
 simp only [Rows.uptoBulkAll,List.append_nil] at hk
 have hh0 : host0.size≤100000000:=by omega
 have ql1 : pv1.loc.size≤100000000:=by omega
 have qd1 : pv1.dom.size≤100000000:=by omega
 clear hA0 hval0
 refine (wTwice host0 A0 c0 Xs0 pv1 W sx0 hh0 sl0 ql1 qd1 htab).mono fun e W' ⟨he,bel⟩=>?_
 subst he
 exact ⟨_,rfl,_,_,_,[],_,[],hW',trodAll_mk1 (shut_bool Tryz.underlying4 _),(trodAll_cons_mk (Below.trod laidOut (by kernel_rfl) (of_decide_eq_true (by kernel_rfl)) k0 bel lt0) (trodAll_cons_mk (Below.trod laidOut (by kernel_rfl) (of_decide_eq_true (by kernel_rfl)) k1 bel lt1) trodAll_mk0)),rfl,bel.frame _,fun h=>by cases h⟩
end Go.Proofs.YtghnopkgcgfcpaaGreatDoor.Path
