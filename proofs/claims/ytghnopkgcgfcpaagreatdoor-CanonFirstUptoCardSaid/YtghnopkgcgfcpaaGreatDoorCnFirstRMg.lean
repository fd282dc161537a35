/-
  MERGED by mergefill.py: CnFirstR.
-/
import Derived.Test.YtghnopkgcgfcpaaGreatDoorCards
import Derived.Test.YtghnopkgcgfcpaaGreatDoorTie
import Derived.Test.YtghnopkgcgfcpaaGreatDoorR15FctMg
import Derived.Test.YtghnopkgcgfcpaaGreatDoorR15LwFMg
import Derived.SevenTiedAt
set_option maxHeartbeats 16000000
set_option maxRecDepth 100000
namespace Go.Proofs.YtghnopkgcgfcpaaGreatDoor.Path
open Go.ChangeShapes Go.WideShapes Go.ChangeAt Go.RowKit Base
open Go.ChangeMaps (open_string shut_string)
theorem canonFirstReads (os : Os) {H : Type} (enc : TypeId × Value→H) : ∃ places,DataW.whole enc Tryz.prog ((World.laidAll Tryz.prog os laidL).forCall (fun _ _=>0) ⟨#[],#[.string ⟨#[]⟩,.string ⟨#[]⟩,.agg #[.bool false,.string ⟨#[]⟩,.string ⟨#[]⟩,.bool false]],[]⟩).memory Tryz.f5.params.toList Rows.canonFirstSpec.vars false (#[.string ⟨#[]⟩,.string ⟨#[]⟩,.agg #[.bool false,.string ⟨#[]⟩,.string ⟨#[]⟩,.bool false]] : Array Value).toList 8=some ([.lit (.string []),.lit (.string []),.agg [.lit (.bool false),.lit (.string []),.lit (.string []),.lit (.bool false)]],[],places) :=
 ⟨[],by kernel_rfl⟩
theorem canonFirstLifted (os : Os) (started : os.Started) (H : Type) (enc : TypeId × Value→H) (F : Stop.Interp) :
  ReturnsInHanded {} Tryz.checked os 5 .any ((Rows.OpenSpec.upto Rows.canonFirstSpec).preRow enc Tryz.prog Tryz.f5 Rows.canonFirstUptoRow.domain false Rows.canonFirstUptoRow.laid) (((Rows.OpenSpec.upto Rows.canonFirstSpec).at F).post enc Tryz.prog Tryz.f5 false true false false):=by
 obtain ⟨places,hx⟩:=canonFirstReads os enc
 refine returnsInHanded_of_row (C:=Tryz.checked) (s:=Rows.OpenSpec.upto Rows.canonFirstSpec) own started (by kernel_rfl) Tryz.func5
  (witness_laid (enc:=enc) (C:=Tryz.checked) (World.laidAll Tryz.prog os laidL) #[.string ⟨#[]⟩,.string ⟨#[]⟩,.agg #[.bool false,.string ⟨#[]⟩,.string ⟨#[]⟩,.bool false]] (World.laidAll_os _ _ _) (laid_shaped os _) (by kernel_rfl)
   (OpenSpec.preRow_of_cond 8 hx (by kernel_rfl) (fun k hk=>by cases hk; kernel_rfl) (by kernel_rfl) (laid_met os _))) ?_
 intro W base args ds gs before hval0 hW _ hcond hsz hL hsh _
 have hval : ∀ (j : Nat) t v,Tryz.f5.params[j]?=some t→args[j]?=some v→Value.okWide Tryz.prog W .any base t v:=hval0
 have htab:=env_of hL hsh
 have hW':=hW
 obtain ⟨p,q,hA0,hV,rfl,hfz,hnd⟩:=hW
 have hA : DataW.TrodAll enc Tryz.prog W 0 (fun _=>true) true Tryz.f5.params.toList args.toList ds p:=hA0
 rw [Tryz.params5] at hA hval hsz
 obtain ⟨v0,vs0,d0,ds0,p0,q0,hargs,rfl,rfl,h0,r0⟩:=trodAll_cons hA
 obtain ⟨v1,vs1,d1,ds1,p1,q1,rfl,rfl,rfl,h1,r1⟩:=trodAll_cons r0
 obtain ⟨v2,vs2,d2,ds2,p2,q2,rfl,rfl,rfl,h2,r2⟩:=trodAll_cons r1
 obtain ⟨rfl,rfl,rfl⟩:=trodAll_nil r2
 obtain rfl : args=#[v0,v1,v2]:=by cases args; simp_all
 obtain ⟨rfl,rfl⟩:=trodVars_none hV
 have hk:=of_decide_eq_true (hcond _ rfl)
 obtain ⟨a0,rfl,rfl,rfl,ws0⟩:=open_string Tryz.underlying9 (hval 0 9 v0 rfl rfl) h0
 have bk0:=bulk_str (H:=H) a0
 obtain ⟨a1,rfl,rfl,rfl,ws1⟩:=open_string Tryz.underlying9 (hval 1 9 v1 rfl rfl) h1
 have bk1:=bulk_str (H:=H) a1
 have k2:=h2
 have lt2 : ∀ x ∈ p2,x.block < W.heap.size:=by obtain ⟨m,hm⟩:=k2; exact DataW.trod_lt m _ _ _ hm
 obtain ⟨pv2,rfl,bl2,bd2⟩:=open_path (hval 2 26 v2 rfl rfl) h2
 simp only [Rows.uptoBulkAll,List.append_nil] at hk
 have up0 : a0.size≤1048576:=by omega
 have up1 : a1.size≤1048576:=by omega
 have ql2 : pv2.loc.size≤100000000:=by omega
 have qd2 : pv2.dom.size≤100000000:=by omega
 clear hA0 hval0
 refine (wFirst a0 a1 pv2 W up0 up1 ql2 qd2 htab).mono fun e W' ⟨he,bel⟩=>?_
 subst he
 exact ⟨_,rfl,_,_,_,[],_,[],hW',trodAll_mk1 (shut_bool Tryz.underlying4 _),(trodAll_cons_mk (shut_string Tryz.underlying9 ws0) (trodAll_cons_mk (shut_string Tryz.underlying9 ws1) (trodAll_cons_mk (Below.trod laidOut (by kernel_rfl) (of_decide_eq_true (by kernel_rfl)) k2 bel lt2) trodAll_mk0))),rfl,bel.frame _,fun h=>by cases h⟩
end Go.Proofs.YtghnopkgcgfcpaaGreatDoor.Path
