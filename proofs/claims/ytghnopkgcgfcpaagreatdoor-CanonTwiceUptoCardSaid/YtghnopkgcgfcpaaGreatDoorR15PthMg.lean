/-
  MERGED by mergefill.py: R15Pth.
-/
import Derived.Test.YtghnopkgcgfcpaaGreatDoorR15InMg
import Derived.Test.YtghnopkgcgfcpaaGreatDoorCanNewMg
set_option maxHeartbeats 16000000
set_option maxRecDepth 100000
namespace Go.Proofs.YtghnopkgcgfcpaaGreatDoor.Path
open Go.RowKit Base
theorem str_yes {s : ByteArray} (h : s.size=0) : s.toList.isEmpty=true∧s.toList=[]:=by
 obtain rfl:=str_empty h
 exact ⟨by rw [ByteArray.toList_eq]; rfl,by rw [ByteArray.toList_eq]⟩
def AskS (W : World) (P b : Nat) (l d : ByteArray) (v : Value) (w' : World) : Prop:=Below W.heap.size W w'∧w'.cell? ⟨P,1,none⟩=some (.string l)∧w'.cell? ⟨P,2,none⟩=some (.string d)∧w'.cell? ⟨b,1,none⟩=some v
theorem AskS.drew {W w' : World} {P b : Nat} {l d : ByteArray} {v : Value} (h : AskS W P b l d v w') : AskS W P b l d v w'.drew:=⟨h.1.drew,h.2⟩
theorem AskS.on {W w' w2 : World} {P b : Nat} {l d : ByteArray} {v : Value} (h : AskS W P b l d v w') (hb : Below w'.heap.size w' w2) : AskS W P b l d v w2 :=
 ⟨h.1.trans (hb.mono h.1.size),cell_on h.2.1 hb,cell_on h.2.2.1 hb,cell_on h.2.2.2 hb⟩
def namedG (host : ByteArray) (Ts : List (List Table.KV)) (p : PV) : PV :=
 if (askR Ts (fullR host p).loc (fullR host p).dom).2=true then (if (valG ⟨(askR Ts (fullR host p).loc (fullR host p).dom).1.toArray⟩).2.1=true then ⟨false,(fullR host p).loc,(valG ⟨(askR Ts (fullR host p).loc (fullR host p).dom).1.toArray⟩).1.dom,false⟩ else (valG ⟨(askR Ts (fullR host p).loc (fullR host p).dom).1.toArray⟩).1) else fullR host p
theorem named_same (host : ByteArray) (Ts : List (List Table.KV)) (p : PV) : namedG host Ts p=calledR litL locF host Ts p:=by
 unfold namedG calledR
 rw [(val_same _ _).2]
def canonG (host : ByteArray) (Ts : List (List Table.KV)) (p : PV) : PV :=
 if rightG p ≠ 0∨p.null=true∨p.lit=true then p else if rightG (namedG host Ts p) ≠ 0 then p else namedG host Ts p
theorem canon_same (host : ByteArray) (Ts : List (List Table.KV)) (p : PV) : canonG host Ts p=canonR litL locF host Ts p:=by
 unfold canonG canonR
 rw [named_same,right_eq,right_eq]
 by_cases h : p.null=true∨p.lit=true∨rightG p ≠ 0
 ·rw [if_pos h,if_pos (by rcases h with h | h | h; exact Or.inr (Or.inl h); exact Or.inr (Or.inr h); exact Or.inl h)]
 ·rw [if_neg h,if_neg (fun x=>h (by rcases x with x | x | x; exact Or.inr (Or.inr x); exact Or.inl x; exact Or.inr (Or.inl x)))]
theorem val_le (v : ByteArray) : (valG v).1.loc.size≤v.size + 60∧(valG v).1.dom.size≤v.size + 60:=by
 unfold valG
 split
 ·have h:=dom_le (v.extract 1 v.size)
  rw [ByteArray.size_extract] at h
  generalize (domG (v.extract 1 v.size))=r at h ⊢
  exact ⟨Nat.zero_le _,Nat.le_trans h (by omega)⟩
 ·exact box_le v
theorem rPathG (b : Nat) (host : ByteArray) (Ts : List (List Table.KV)) (p : PV) (w : World) (hC : CanonG w b host Ts)
  (hl : p.loc.size≤900000000) (hd : p.dom.size≤900000000) (hh : host.size≤900000000)
  (hV : (askR Ts (fullR host p).loc (fullR host p).dom).2=true→(askR Ts (fullR host p).loc (fullR host p).dom).1.length≤900000000∧(valG ⟨(askR Ts (fullR host p).loc (fullR host p).dom).1.toArray⟩).2.2=true) :
  Calls Tryz.prog 10 #[.pointer (some ⟨b,0,none⟩),p.val] w (PvEnd w (canonG host Ts p)):=by
 obtain ⟨D,hD⟩ : ∃ D,D=canonG host Ts p:=⟨_,rfl⟩
 rw [← hD]
 obtain ⟨A,c,qs,hcb,hrow,htab,htq,hfew⟩:=hC.box
 obtain ⟨x0,x1,_⟩:=cbox_cells hcb
 have hbw:=heap_lt hcb
 have HA:=Lib.hid (fun (l d : ByteArray) (W : World) (hb : Below w.heap.size w W) (h1 : l.size≤1000000000) (h2 : d.size≤1000000000)=>Table.rAskA A c qs l d W (hrow.on hb) (htab.on hb) (by omega) (by omega) (by omega))
 have HQs:=Lib.hid htq
 have HR:=Lib.hid (fun (W : World)=>rRightG p W (by omega) (by omega))
 have HX0:=Lib.hid x0
 have HX1:=Lib.hid x1
 clear hcb hrow htab htq hC x0 x1
 unfold canonG at hD
 obtain ⟨n0,l0,d0,t0⟩:=p
 have hl : l0.size≤900000000:=hl
 have hd : d0.size≤900000000:=hd
 show Calls Tryz.prog 10 #[.pointer (some ⟨b,0,none⟩),.agg #[.bool n0,.string l0,.string d0,.bool t0]] w (PvEnd w D)
 generalize hrp : rightG ⟨n0,l0,d0,t0⟩=rp at hD HR
 have HR : Hid (∀ W,Calls Tryz.prog 11 #[.agg #[.bool n0,.string l0,.string d0,.bool t0]] W fun e w'=>e=.returned (.int .i64 rp)∧Below W.heap.size W w'):=HR
 have HD:=Lib.hid hD
 have HV:=Lib.hid hV
 clear hD hV hrp
 go_enter Tryz.func10,Tryz.ntmps10
 go_upto_region 1 with fail
 generalize hX : ((w.alloc (Obj.cells #[Value.bool n0,Value.string l0,Value.string d0,Value.bool t0] 26)).alloc (Obj.cells #[Value.bool false,Value.string ⟨#[]⟩,Value.string ⟨#[]⟩,Value.bool false] 26))=X
 obtain ⟨hbx,hpx,hzx⟩:=two_paths w n0 l0 d0 t0 hX
 have HBX:=Lib.hid hbx
 have HPX:=Lib.hid hpx
 have HZX:=Lib.hid hzx
 obtain ⟨c0,c1,c2,c3,f0,f1,f2,f3⟩:=four_cells hpx
 clear hbx hpx hzx hX
 go_wp2_with (first | (go_at_call 11; refine (HR.out _).mono ?_; rintro ee w2 ⟨rfl,hb⟩; refine Hid.out ?_) | fail)
 refine Lib.hid ?_
 have HB2:=Lib.hid (HBX.out.trans (hb.mono HBX.out.size))
 have HP2:=Lib.hid (HPX.out.on hb)
 have HZ2:=Lib.hid (HZX.out.on hb)
 clear hb c0 c1 c2 c3 f0 f1 f2 f3 HPX HZX HBX
 obtain ⟨c0,c1,c2,c3,f0,f1,f2,f3⟩:=four_cells HP2.out
 obtain ⟨y0,y1,y2,y3,g0,g1,g2,g3⟩:=four_cells HZ2.out
 have hcase : ((rp != 0)=true∨(rp=0∧(n0=true∨(n0=false∧t0=true))))∨(rp=0∧n0=false∧t0=false):=by
  by_cases h : rp=0
  ·cases n0 <;> cases t0 <;> simp [h]
  ·left; left; rw [bne_iff_ne]; exact h
 rcases hcase with hcase | ⟨rfl,rfl,rfl⟩
 ·have HT : Hid (D=⟨n0,l0,d0,t0⟩):=by
   show _=_
   have e:=HD.out
   rw [if_pos] at e
   ·exact e
   ·rcases hcase with h | ⟨_,h | ⟨_,h⟩⟩
    ·left; rw [bne_iff_ne] at h; exact h
    ·exact Or.inr (Or.inl h)
    ·exact Or.inr (Or.inr h)
  clear HD HV HA
  rcases hcase with q1 | ⟨rfl,rfl | ⟨rfl,rfl⟩⟩
  ·go_wp2
   refine bodyPost_ret (results_one_path (p:=⟨n0,l0,d0,t0⟩) Tryz.results10 rfl (path_four HZ2.out ⟨n0,l0,d0,t0⟩)) rfl ?_
   rw [HT.out]
   exact ⟨rfl,below_four _ (by omega) HB2.out _ _ _ _⟩
  ·go_wp2
   refine bodyPost_ret (results_one_path (p:=⟨true,l0,d0,t0⟩) Tryz.results10 rfl (path_four HZ2.out ⟨true,l0,d0,t0⟩)) rfl ?_
   rw [HT.out]
   exact ⟨rfl,below_four _ (by omega) HB2.out _ _ _ _⟩
  ·go_wp2
   refine bodyPost_ret (results_one_path (p:=⟨false,l0,d0,true⟩) Tryz.results10 rfl (path_four HZ2.out ⟨false,l0,d0,true⟩)) rfl ?_
   rw [HT.out]
   exact ⟨rfl,below_four _ (by omega) HB2.out _ _ _ _⟩
 ·have HD1 : Hid (D=if rightG (namedG host Ts ⟨false,l0,d0,false⟩) ≠ 0 then ⟨false,l0,d0,false⟩ else namedG host Ts ⟨false,l0,d0,false⟩):=by have e:=HD.out; rw [if_neg (by simp)] at e; exact e
  clear HD
  have hP:=heap_lt HP2.out
  have hZ:=heap_lt HZ2.out
  by_cases h0 : d0.size=0
  ·obtain ⟨he1,he2⟩:=str_yes h0
   have hfull : fullR host ⟨false,l0,d0,false⟩=⟨false,l0,host,false⟩:=by unfold fullR; rw [if_pos h0]
   have hnm : namedG host Ts ⟨false,l0,d0,false⟩=if (askR Ts l0 host).2=true then (if (valG ⟨(askR Ts l0 host).1.toArray⟩).2.1=true then ⟨false,l0,(valG ⟨(askR Ts l0 host).1.toArray⟩).1.dom,false⟩ else (valG ⟨(askR Ts l0 host).1.toArray⟩).1) else ⟨false,l0,host,false⟩:=by unfold namedG; rw [hfull]
   have HD2:=HD1.out
   have HV2:=HV.out
   rw [hfull] at HV2
   rw [hnm] at HD2
   have HA1:=Lib.hid (fun (W : World) (hb : Below w.heap.size w W)=>HA.out l0 host W hb (by omega) (by omega))
   have HA2 : Hid (∀ W,Below w.heap.size w W→Calls Tryz.prog 12 #[.slice A qs.length c,.int .i64 1,.string l0,.string host] W fun e w'=>e=.returned (.tuple #[.string ⟨(askR Ts l0 host).1.toArray⟩,.bool (askR Ts l0 host).2])∧Below W.heap.size W w'):=fun W hb=>by
    have e:=HA1.out W hb
    rw [HQs.out] at e
    exact e
   have HV3 : (askR Ts l0 host).2=true→(askR Ts l0 host).1.length≤900000000∧(valG ⟨(askR Ts l0 host).1.toArray⟩).2.2=true:=HV2
   have HD3 : D=if rightG (if (askR Ts l0 host).2=true then (if (valG ⟨(askR Ts l0 host).1.toArray⟩).2.1=true then ⟨false,l0,(valG ⟨(askR Ts l0 host).1.toArray⟩).1.dom,false⟩ else (valG ⟨(askR Ts l0 host).1.toArray⟩).1) else ⟨false,l0,host,false⟩) ≠ 0 then ⟨false,l0,d0,false⟩ else (if (askR Ts l0 host).2=true then (if (valG ⟨(askR Ts l0 host).1.toArray⟩).2.1=true then ⟨false,l0,(valG ⟨(askR Ts l0 host).1.toArray⟩).1.dom,false⟩ else (valG ⟨(askR Ts l0 host).1.toArray⟩).1) else ⟨false,l0,host,false⟩):=HD2
   clear HD1 HV HA HA1 HD2 HV2 hfull hnm
   generalize askR Ts l0 host=an at HA2 HV3 HD3
   obtain ⟨vl,is⟩:=an
   have HD4:=Lib.hid HD3
   have HV4:=Lib.hid HV3
   clear HD3 HV3
   have k0 : w2.cell? ⟨b,0,none⟩=some (.string host):=cell_on HX0.out HB2.out
   have k1 : w2.cell? ⟨b,1,none⟩=some (.slice A qs.length c):=cell_on HX1.out HB2.out
   have nb0 : b < w2.heap.size:=Nat.lt_of_lt_of_le hbw HB2.out.size
   have nb1 : ¬ b=w2.heap.size:=by omega
   have nb2 : ¬ w2.heap.size=b:=by omega
   go_upto_region 7 with fail
   generalize hX3 : w2.alloc (Obj.cells #[Value.bool false,Value.string l0,Value.string host,Value.bool false] 26)=X3
   have hq3 : PathAt X3 w2.heap.size ⟨false,l0,host,false⟩:=by rw [← hX3]; exact (MapKept.heap_alloc w2 _).1
   have hb3 : Below w2.heap.size w2 X3:=by rw [← hX3]; exact Below.alloc1 w2 _
   have HB3:=Lib.hid (HB2.out.trans (hb3.mono HB2.out.size))
   have HP3:=Lib.hid (HP2.out.on hb3)
   have HZ3:=Lib.hid (HZ2.out.on hb3)
   have HQ3:=Lib.hid hq3
   have m1 : X3.cell? ⟨b,1,none⟩=some (.slice A qs.length c):=cell_on k1 hb3
   clear c0 c1 c2 c3 f0 f1 f2 f3 y0 y1 y2 y3 g0 g1 g2 g3 k0 k1  hb3 hX3
   obtain ⟨c0,c1,c2,c3,f0,f1,f2,f3⟩:=four_cells hq3
   have HS0 : Hid (AskS X3 w2.heap.size b l0 host (.slice A qs.length c) X3):=⟨Below.refl _ _,c1,c2,m1⟩
   clear hq3 c0 c3 f0 f1 f2 f3
   go_region_held3 (fun w'=>Below X3.heap.size X3 w'∧w'.cell? ⟨w2.heap.size,1,none⟩=some (.string l0)∧w'.cell? ⟨w2.heap.size,2,none⟩=some (.string host)∧w'.cell? ⟨b,1,none⟩=some (.slice A qs.length c))
    (first | exact AskS.drew HS0.out | exact AskS.on (by assumption) hb | fail)
    (first | (go_at_call 12; refine (HA2.out _ (HB3.out.trans ((by assumption : AskS X3 w2.heap.size b l0 host (.slice A qs.length c) _).1.mono HB3.out.size))).mono ?_; rintro e wn ⟨rfl,hb⟩) | fail)
   have hh2 : AskS X3 w2.heap.size b l0 host (.slice A qs.length c) wn:=by assumption
   have HBn:=Lib.hid (HB3.out.trans (hh2.1.mono HB3.out.size))
   have HPn:=Lib.hid (HP3.out.on hh2.1)
   have HZn:=Lib.hid (HZ3.out.on hh2.1)
   have HQn:=Lib.hid (HQ3.out.on hh2.1)
   have hQw : w.heap.size≤w2.heap.size:=HB2.out.size
   clear hh2 HS0 HA2 hb m1 HB3 HP3 HZ3 HQ3 HB2 HP2 HZ2
   obtain ⟨c0,c1,c2,c3,f0,f1,f2,f3⟩:=four_cells HQn.out
   cases is with
   | false =>
    have HT : Hid (D=if rightG ⟨false,l0,host,false⟩ ≠ 0 then ⟨false,l0,d0,false⟩ else ⟨false,l0,host,false⟩):=HD4.out
    clear HD4 HV4
    have CR:=Lib.hid (fun W=>rRightG ⟨false,l0,host,false⟩ W (show l0.size≤1000000000 by omega) (show host.size≤1000000000 by omega))
    generalize rightG ⟨false,l0,host,false⟩=rq at CR HT
    have CR2 : Hid (∀ W,Calls Tryz.prog 11 #[.agg #[.bool false,.string l0,.string host,.bool false]] W fun e w'=>e=.returned (.int .i64 rq)∧Below W.heap.size W w'):=CR
    clear CR
    go_wp2_with (first | (go_at_call 11; refine (CR2.out _).mono ?_; rintro ee w6 ⟨rfl,hb⟩; refine Hid.out ?_) | fail)
    refine Lib.hid ?_
    have HB6:=Lib.hid (HBn.out.trans (hb.mono HBn.out.size))
    have HP6:=Lib.hid (HPn.out.on hb)
    have HZ6:=Lib.hid (HZn.out.on hb)
    have HQ6:=Lib.hid (HQn.out.on hb)
    clear hb c0 c1 c2 c3 f0 f1 f2 f3
    obtain ⟨c0,c1,c2,c3,f0,f1,f2,f3⟩:=four_cells HQ6.out
    obtain ⟨y0,y1,y2,y3,g0,g1,g2,g3⟩:=four_cells HZ6.out
    obtain ⟨z0,z1,z2,z3,r0,r1,r2,r3⟩:=four_cells HP6.out
    by_cases hrq : rq=0
    ·subst hrq
     have HT2 : Hid (D=⟨false,l0,host,false⟩):=by have e:=HT.out; rw [if_neg (by simp)] at e; exact e
     clear HT
     go_wp2
     refine bodyPost_ret (results_one_path (p:=⟨false,l0,host,false⟩) Tryz.results10 rfl (path_four HZ6.out ⟨false,l0,host,false⟩)) rfl ?_
     rw [HT2.out]
     exact ⟨rfl,below_four _ (by omega) HB6.out _ _ _ _⟩
    ·have e1 : (rq != 0)=true:=by rw [bne_iff_ne]; exact hrq
     have HT2 : Hid (D=⟨false,l0,d0,false⟩):=by have e:=HT.out; rw [if_pos hrq] at e; exact e
     clear HT hrq
     go_wp2
     refine bodyPost_ret (results_one_path (p:=⟨false,l0,d0,false⟩) Tryz.results10 rfl (path_four HZ6.out ⟨false,l0,d0,false⟩)) rfl ?_
     rw [HT2.out]
     exact ⟨rfl,below_four _ (by omega) HB6.out _ _ _ _⟩
   | true =>
    have HD5 : Hid (D=if rightG (if (valG ⟨vl.toArray⟩).2.1=true then ⟨false,l0,(valG ⟨vl.toArray⟩).1.dom,false⟩ else (valG ⟨vl.toArray⟩).1) ≠ 0 then ⟨false,l0,d0,false⟩ else (if (valG ⟨vl.toArray⟩).2.1=true then ⟨false,l0,(valG ⟨vl.toArray⟩).1.dom,false⟩ else (valG ⟨vl.toArray⟩).1)):=HD4.out
    obtain ⟨hvl,hvok⟩:=HV4.out rfl
    have hvs : (⟨vl.toArray⟩ : ByteArray).size≤900000000:=by rw [← str_len]; exact hvl
    have CV:=Lib.hid (fun W=>rValue ⟨vl.toArray⟩ W hvs)
    have hvle:=val_le ⟨vl.toArray⟩
    clear HD4 HV4 hvl
    generalize (⟨vl.toArray⟩ : ByteArray)=vx at HD5 hvok hvs CV hvle
    generalize valG vx=r at HD5 hvok CV hvle
    obtain ⟨⟨n,l,d,t⟩,at_,ok⟩:=r
    have hvok : ok=true:=hvok
    subst hvok
    have hl9 : l.size≤vx.size + 60:=hvle.1
    have hd9 : d.size≤vx.size + 60:=hvle.2
    have CV2 : Hid (∀ W,Calls Tryz.prog 19 #[.string vx] W fun e w'=>e=.returned (.tuple #[.agg #[.bool n,.string l,.string d,.bool t],.bool at_,.bool true])∧Below W.heap.size W w'):=CV
    clear CV hvle
    go_wp2_with (first | (go_at_call 19; refine (CV2.out _).mono ?_; rintro ee w5 ⟨rfl,hb⟩; refine Hid.out ?_) | fail)
    refine Lib.hid ?_
    have HB5:=Lib.hid (HBn.out.trans (hb.mono HBn.out.size))
    have HP5:=Lib.hid (HPn.out.on hb)
    have HZ5:=Lib.hid (HZn.out.on hb)
    have HQ5:=Lib.hid (HQn.out.on hb)
    have hlt5:=heap_lt HQ5.out
    have ne1 : ¬ w5.heap.size=w2.heap.size:=by omega
    have ne2 : ¬ w2.heap.size=w5.heap.size:=by omega
    clear hb c0 c1 c2 c3 f0 f1 f2 f3 HBn HPn HZn HQn
    obtain ⟨c0,c1,c2,c3,f0,f1,f2,f3⟩:=four_cells HQ5.out
    have hKP : ∀ v j,(w5.setCell ⟨w2.heap.size,j,none⟩ v).heap[w.heap.size]?=w5.heap[w.heap.size]?:=fun v j=>(KeepX.set w2.heap.size w5 j v).block _ (heap_lt HP5.out) (by omega)
    have HKP:=Lib.hid hKP
    clear hKP CV2
    cases at_ with
    | true =>
     have HT : Hid (D=if rightG ⟨false,l0,d,false⟩ ≠ 0 then ⟨false,l0,d0,false⟩ else ⟨false,l0,d,false⟩):=HD5.out
     clear HD5
     have CR:=Lib.hid (fun W=>rRightG ⟨false,l0,d,false⟩ W (show l0.size≤1000000000 by omega) (show d.size≤1000000000 by omega))
     generalize rightG ⟨false,l0,d,false⟩=rq at CR HT
     have CR2 : Hid (∀ W,Calls Tryz.prog 11 #[.agg #[.bool false,.string l0,.string d,.bool false]] W fun e w'=>e=.returned (.int .i64 rq)∧Below W.heap.size W w'):=CR
     clear CR
     go_wp2_with (first | (go_at_call 11; refine (CR2.out _).mono ?_; rintro ee w6 ⟨rfl,hb⟩; refine Hid.out ?_) | fail)
     refine Lib.hid ?_
     have HB6:=Lib.hid ((below_step (HB5.out.setCell (p:=⟨w2.heap.size,2,none⟩) hQw (.string d)) (boxO n l d t)).trans (hb.mono (below_step (HB5.out.setCell (p:=⟨w2.heap.size,2,none⟩) hQw (.string d)) (boxO n l d t)).size))
     have HP6:=Lib.hid ((path_alloc (w:=w5.setCell ⟨w2.heap.size,2,none⟩ (.string d)) (((KeepX.set w2.heap.size w5 2 _).block _ (heap_lt HP5.out) (by omega)).trans HP5.out) (boxO n l d t)).on hb)
     have HZ6:=Lib.hid ((path_alloc (w:=w5.setCell ⟨w2.heap.size,2,none⟩ (.string d)) (((KeepX.set w2.heap.size w5 2 _).block _ (heap_lt HZ5.out) (by omega)).trans HZ5.out) (boxO n l d t)).on hb)
     have HQ6:=Lib.hid ((path_alloc (path_two HQ5.out d) (boxO n l d t)).on hb)
     clear hb c0 c1 c2 c3 f0 f1 f2 f3
     obtain ⟨c0,c1,c2,c3,f0,f1,f2,f3⟩:=four_cells HQ6.out
     obtain ⟨y0,y1,y2,y3,g0,g1,g2,g3⟩:=four_cells HZ6.out
     obtain ⟨z0,z1,z2,z3,r0,r1,r2,r3⟩:=four_cells HP6.out
     by_cases hrq : rq=0
     ·subst hrq
      have HT2 : Hid (D=⟨false,l0,d,false⟩):=by have e:=HT.out; rw [if_neg (by simp)] at e; exact e
      clear HT
      go_wp2
      refine bodyPost_ret (results_one_path (p:=⟨false,l0,d,false⟩) Tryz.results10 rfl (path_four HZ6.out ⟨false,l0,d,false⟩)) rfl ?_
      rw [HT2.out]
      exact ⟨rfl,below_four _ (by omega) HB6.out _ _ _ _⟩
     ·have e1 : (rq != 0)=true:=by rw [bne_iff_ne]; exact hrq
      have HT2 : Hid (D=⟨false,l0,d0,false⟩):=by have e:=HT.out; rw [if_pos hrq] at e; exact e
      clear HT hrq
      go_wp2
      refine bodyPost_ret (results_one_path (p:=⟨false,l0,d0,false⟩) Tryz.results10 rfl (path_four HZ6.out ⟨false,l0,d0,false⟩)) rfl ?_
      rw [HT2.out]
      exact ⟨rfl,below_four _ (by omega) HB6.out _ _ _ _⟩
    | false =>
     have HT : Hid (D=if rightG ⟨n,l,d,t⟩ ≠ 0 then ⟨false,l0,d0,false⟩ else ⟨n,l,d,t⟩):=HD5.out
     clear HD5
     have CR:=Lib.hid (fun W=>rRightG ⟨n,l,d,t⟩ W (show l.size≤1000000000 by omega) (show d.size≤1000000000 by omega))
     generalize rightG ⟨n,l,d,t⟩=rq at CR HT
     have CR2 : Hid (∀ W,Calls Tryz.prog 11 #[.agg #[.bool n,.string l,.string d,.bool t]] W fun e w'=>e=.returned (.int .i64 rq)∧Below W.heap.size W w'):=CR
     clear CR
     go_wp2_with (first | (go_at_call 11; refine (CR2.out _).mono ?_; rintro ee w6 ⟨rfl,hb⟩; refine Hid.out ?_) | fail)
     refine Lib.hid ?_
     have HB6:=Lib.hid ((below_step (below_four w2.heap.size hQw HB5.out (.bool n) (.string l) (.string d) (.bool t)) (boxO n l d t)).trans (hb.mono (below_step (below_four w2.heap.size hQw HB5.out (.bool n) (.string l) (.string d) (.bool t)) (boxO n l d t)).size))
     have HP6:=Lib.hid ((path_alloc (HP5.out.kept (keepX_four w5 w2.heap.size (.bool n) (.string l) (.string d) (.bool t)) (by omega)) (boxO n l d t)).on hb)
     have HZ6:=Lib.hid ((path_alloc (HZ5.out.kept (keepX_four w5 w2.heap.size (.bool n) (.string l) (.string d) (.bool t)) (by omega)) (boxO n l d t)).on hb)
     have HQ6:=Lib.hid ((path_alloc (path_four HQ5.out ⟨n,l,d,t⟩) (boxO n l d t)).on hb)
     clear hb c0 c1 c2 c3 f0 f1 f2 f3
     obtain ⟨c0,c1,c2,c3,f0,f1,f2,f3⟩:=four_cells HQ6.out
     obtain ⟨y0,y1,y2,y3,g0,g1,g2,g3⟩:=four_cells HZ6.out
     obtain ⟨z0,z1,z2,z3,r0,r1,r2,r3⟩:=four_cells HP6.out
     by_cases hrq : rq=0
     ·subst hrq
      have HT2 : Hid (D=⟨n,l,d,t⟩):=by have e:=HT.out; rw [if_neg (by simp)] at e; exact e
      clear HT
      go_wp2
      refine bodyPost_ret (results_one_path (p:=⟨n,l,d,t⟩) Tryz.results10 rfl (path_four HZ6.out ⟨n,l,d,t⟩)) rfl ?_
      rw [HT2.out]
      exact ⟨rfl,below_four _ (by omega) HB6.out _ _ _ _⟩
     ·have e1 : (rq != 0)=true:=by rw [bne_iff_ne]; exact hrq
      have HT2 : Hid (D=⟨false,l0,d0,false⟩):=by have e:=HT.out; rw [if_pos hrq] at e; exact e
      clear HT hrq
      go_wp2
      refine bodyPost_ret (results_one_path (p:=⟨false,l0,d0,false⟩) Tryz.results10 rfl (path_four HZ6.out ⟨false,l0,d0,false⟩)) rfl ?_
      rw [HT2.out]
      exact ⟨rfl,below_four _ (by omega) HB6.out _ _ _ _⟩
  ·obtain ⟨hn1,hn2⟩:=str_ne h0
   have hfull : fullR host ⟨false,l0,d0,false⟩=⟨false,l0,d0,false⟩:=by unfold fullR; rw [if_neg h0]
   have hnm : namedG host Ts ⟨false,l0,d0,false⟩=if (askR Ts l0 d0).2=true then (if (valG ⟨(askR Ts l0 d0).1.toArray⟩).2.1=true then ⟨false,l0,(valG ⟨(askR Ts l0 d0).1.toArray⟩).1.dom,false⟩ else (valG ⟨(askR Ts l0 d0).1.toArray⟩).1) else ⟨false,l0,d0,false⟩:=by unfold namedG; rw [hfull]
   have HD2:=HD1.out
   have HV2:=HV.out
   rw [hfull] at HV2
   rw [hnm] at HD2
   have HA1:=Lib.hid (fun (W : World) (hb : Below w.heap.size w W)=>HA.out l0 d0 W hb (by omega) (by omega))
   have HA2 : Hid (∀ W,Below w.heap.size w W→Calls Tryz.prog 12 #[.slice A qs.length c,.int .i64 1,.string l0,.string d0] W fun e w'=>e=.returned (.tuple #[.string ⟨(askR Ts l0 d0).1.toArray⟩,.bool (askR Ts l0 d0).2])∧Below W.heap.size W w'):=fun W hb=>by
    have e:=HA1.out W hb
    rw [HQs.out] at e
    exact e
   have HV3 : (askR Ts l0 d0).2=true→(askR Ts l0 d0).1.length≤900000000∧(valG ⟨(askR Ts l0 d0).1.toArray⟩).2.2=true:=HV2
   have HD3 : D=if rightG (if (askR Ts l0 d0).2=true then (if (valG ⟨(askR Ts l0 d0).1.toArray⟩).2.1=true then ⟨false,l0,(valG ⟨(askR Ts l0 d0).1.toArray⟩).1.dom,false⟩ else (valG ⟨(askR Ts l0 d0).1.toArray⟩).1) else ⟨false,l0,d0,false⟩) ≠ 0 then ⟨false,l0,d0,false⟩ else (if (askR Ts l0 d0).2=true then (if (valG ⟨(askR Ts l0 d0).1.toArray⟩).2.1=true then ⟨false,l0,(valG ⟨(askR Ts l0 d0).1.toArray⟩).1.dom,false⟩ else (valG ⟨(askR Ts l0 d0).1.toArray⟩).1) else ⟨false,l0,d0,false⟩):=HD2
   clear HD1 HV HA HA1 HD2 HV2 hfull hnm
   generalize askR Ts l0 d0=an at HA2 HV3 HD3
   obtain ⟨vl,is⟩:=an
   have HD4:=Lib.hid HD3
   have HV4:=Lib.hid HV3
   clear HD3 HV3
   have k0 : w2.cell? ⟨b,0,none⟩=some (.string host):=cell_on HX0.out HB2.out
   have k1 : w2.cell? ⟨b,1,none⟩=some (.slice A qs.length c):=cell_on HX1.out HB2.out
   have nb0 : b < w2.heap.size:=Nat.lt_of_lt_of_le hbw HB2.out.size
   have nb1 : ¬ b=w2.heap.size:=by omega
   have nb2 : ¬ w2.heap.size=b:=by omega
   go_upto_region 7 with fail
   generalize hX3 : w2.alloc (Obj.cells #[Value.bool false,Value.string l0,Value.string d0,Value.bool false] 26)=X3
   have hq3 : PathAt X3 w2.heap.size ⟨false,l0,d0,false⟩:=by rw [← hX3]; exact (MapKept.heap_alloc w2 _).1
   have hb3 : Below w2.heap.size w2 X3:=by rw [← hX3]; exact Below.alloc1 w2 _
   have HB3:=Lib.hid (HB2.out.trans (hb3.mono HB2.out.size))
   have HP3:=Lib.hid (HP2.out.on hb3)
   have HZ3:=Lib.hid (HZ2.out.on hb3)
   have HQ3:=Lib.hid hq3
   have m1 : X3.cell? ⟨b,1,none⟩=some (.slice A qs.length c):=cell_on k1 hb3
   clear c0 c1 c2 c3 f0 f1 f2 f3 y0 y1 y2 y3 g0 g1 g2 g3 k0 k1  hb3 hX3
   obtain ⟨c0,c1,c2,c3,f0,f1,f2,f3⟩:=four_cells hq3
   have HS0 : Hid (AskS X3 w2.heap.size b l0 d0 (.slice A qs.length c) X3):=⟨Below.refl _ _,c1,c2,m1⟩
   clear hq3 c0 c3 f0 f1 f2 f3
   go_region_held3 (fun w'=>Below X3.heap.size X3 w'∧w'.cell? ⟨w2.heap.size,1,none⟩=some (.string l0)∧w'.cell? ⟨w2.heap.size,2,none⟩=some (.string d0)∧w'.cell? ⟨b,1,none⟩=some (.slice A qs.length c))
    (first | exact AskS.drew HS0.out | exact AskS.on (by assumption) hb | fail)
    (first | (go_at_call 12; refine (HA2.out _ (HB3.out.trans ((by assumption : AskS X3 w2.heap.size b l0 d0 (.slice A qs.length c) _).1.mono HB3.out.size))).mono ?_; rintro e wn ⟨rfl,hb⟩) | fail)
   have hh2 : AskS X3 w2.heap.size b l0 d0 (.slice A qs.length c) wn:=by assumption
   have HBn:=Lib.hid (HB3.out.trans (hh2.1.mono HB3.out.size))
   have HPn:=Lib.hid (HP3.out.on hh2.1)
   have HZn:=Lib.hid (HZ3.out.on hh2.1)
   have HQn:=Lib.hid (HQ3.out.on hh2.1)
   have hQw : w.heap.size≤w2.heap.size:=HB2.out.size
   clear hh2 HS0 HA2 hb m1 HB3 HP3 HZ3 HQ3 HB2 HP2 HZ2
   obtain ⟨c0,c1,c2,c3,f0,f1,f2,f3⟩:=four_cells HQn.out
   cases is with
   | false =>
    have HT : Hid (D=if rightG ⟨false,l0,d0,false⟩ ≠ 0 then ⟨false,l0,d0,false⟩ else ⟨false,l0,d0,false⟩):=HD4.out
    clear HD4 HV4
    have CR:=Lib.hid (fun W=>rRightG ⟨false,l0,d0,false⟩ W (show l0.size≤1000000000 by omega) (show d0.size≤1000000000 by omega))
    generalize rightG ⟨false,l0,d0,false⟩=rq at CR HT
    have CR2 : Hid (∀ W,Calls Tryz.prog 11 #[.agg #[.bool false,.string l0,.string d0,.bool false]] W fun e w'=>e=.returned (.int .i64 rq)∧Below W.heap.size W w'):=CR
    clear CR
    go_wp2_with (first | (go_at_call 11; refine (CR2.out _).mono ?_; rintro ee w6 ⟨rfl,hb⟩; refine Hid.out ?_) | fail)
    refine Lib.hid ?_
    have HB6:=Lib.hid (HBn.out.trans (hb.mono HBn.out.size))
    have HP6:=Lib.hid (HPn.out.on hb)
    have HZ6:=Lib.hid (HZn.out.on hb)
    have HQ6:=Lib.hid (HQn.out.on hb)
    clear hb c0 c1 c2 c3 f0 f1 f2 f3
    obtain ⟨c0,c1,c2,c3,f0,f1,f2,f3⟩:=four_cells HQ6.out
    obtain ⟨y0,y1,y2,y3,g0,g1,g2,g3⟩:=four_cells HZ6.out
    obtain ⟨z0,z1,z2,z3,r0,r1,r2,r3⟩:=four_cells HP6.out
    by_cases hrq : rq=0
    ·subst hrq
     have HT2 : Hid (D=⟨false,l0,d0,false⟩):=by have e:=HT.out; rw [if_neg (by simp)] at e; exact e
     clear HT
     go_wp2
     refine bodyPost_ret (results_one_path (p:=⟨false,l0,d0,false⟩) Tryz.results10 rfl (path_four HZ6.out ⟨false,l0,d0,false⟩)) rfl ?_
     rw [HT2.out]
     exact ⟨rfl,below_four _ (by omega) HB6.out _ _ _ _⟩
    ·have e1 : (rq != 0)=true:=by rw [bne_iff_ne]; exact hrq
     have HT2 : Hid (D=⟨false,l0,d0,false⟩):=by have e:=HT.out; rw [if_pos hrq] at e; exact e
     clear HT hrq
     go_wp2
     refine bodyPost_ret (results_one_path (p:=⟨false,l0,d0,false⟩) Tryz.results10 rfl (path_four HZ6.out ⟨false,l0,d0,false⟩)) rfl ?_
     rw [HT2.out]
     exact ⟨rfl,below_four _ (by omega) HB6.out _ _ _ _⟩
   | true =>
    have HD5 : Hid (D=if rightG (if (valG ⟨vl.toArray⟩).2.1=true then ⟨false,l0,(valG ⟨vl.toArray⟩).1.dom,false⟩ else (valG ⟨vl.toArray⟩).1) ≠ 0 then ⟨false,l0,d0,false⟩ else (if (valG ⟨vl.toArray⟩).2.1=true then ⟨false,l0,(valG ⟨vl.toArray⟩).1.dom,false⟩ else (valG ⟨vl.toArray⟩).1)):=HD4.out
    obtain ⟨hvl,hvok⟩:=HV4.out rfl
    have hvs : (⟨vl.toArray⟩ : ByteArray).size≤900000000:=by rw [← str_len]; exact hvl
    have CV:=Lib.hid (fun W=>rValue ⟨vl.toArray⟩ W hvs)
    have hvle:=val_le ⟨vl.toArray⟩
    clear HD4 HV4 hvl
    generalize (⟨vl.toArray⟩ : ByteArray)=vx at HD5 hvok hvs CV hvle
    generalize valG vx=r at HD5 hvok CV hvle
    obtain ⟨⟨n,l,d,t⟩,at_,ok⟩:=r
    have hvok : ok=true:=hvok
    subst hvok
    have hl9 : l.size≤vx.size + 60:=hvle.1
    have hd9 : d.size≤vx.size + 60:=hvle.2
    have CV2 : Hid (∀ W,Calls Tryz.prog 19 #[.string vx] W fun e w'=>e=.returned (.tuple #[.agg #[.bool n,.string l,.string d,.bool t],.bool at_,.bool true])∧Below W.heap.size W w'):=CV
    clear CV hvle
    go_wp2_with (first | (go_at_call 19; refine (CV2.out _).mono ?_; rintro ee w5 ⟨rfl,hb⟩; refine Hid.out ?_) | fail)
    refine Lib.hid ?_
    have HB5:=Lib.hid (HBn.out.trans (hb.mono HBn.out.size))
    have HP5:=Lib.hid (HPn.out.on hb)
    have HZ5:=Lib.hid (HZn.out.on hb)
    have HQ5:=Lib.hid (HQn.out.on hb)
    have hlt5:=heap_lt HQ5.out
    have ne1 : ¬ w5.heap.size=w2.heap.size:=by omega
    have ne2 : ¬ w2.heap.size=w5.heap.size:=by omega
    clear hb c0 c1 c2 c3 f0 f1 f2 f3 HBn HPn HZn HQn
    obtain ⟨c0,c1,c2,c3,f0,f1,f2,f3⟩:=four_cells HQ5.out
    have hKP : ∀ v j,(w5.setCell ⟨w2.heap.size,j,none⟩ v).heap[w.heap.size]?=w5.heap[w.heap.size]?:=fun v j=>(KeepX.set w2.heap.size w5 j v).block _ (heap_lt HP5.out) (by omega)
    have HKP:=Lib.hid hKP
    clear hKP CV2
    cases at_ with
    | true =>
     have HT : Hid (D=if rightG ⟨false,l0,d,false⟩ ≠ 0 then ⟨false,l0,d0,false⟩ else ⟨false,l0,d,false⟩):=HD5.out
     clear HD5
     have CR:=Lib.hid (fun W=>rRightG ⟨false,l0,d,false⟩ W (show l0.size≤1000000000 by omega) (show d.size≤1000000000 by omega))
     generalize rightG ⟨false,l0,d,false⟩=rq at CR HT
     have CR2 : Hid (∀ W,Calls Tryz.prog 11 #[.agg #[.bool false,.string l0,.string d,.bool false]] W fun e w'=>e=.returned (.int .i64 rq)∧Below W.heap.size W w'):=CR
     clear CR
     go_wp2_with (first | (go_at_call 11; refine (CR2.out _).mono ?_; rintro ee w6 ⟨rfl,hb⟩; refine Hid.out ?_) | fail)
     refine Lib.hid ?_
     have HB6:=Lib.hid ((below_step (HB5.out.setCell (p:=⟨w2.heap.size,2,none⟩) hQw (.string d)) (boxO n l d t)).trans (hb.mono (below_step (HB5.out.setCell (p:=⟨w2.heap.size,2,none⟩) hQw (.string d)) (boxO n l d t)).size))
     have HP6:=Lib.hid ((path_alloc (w:=w5.setCell ⟨w2.heap.size,2,none⟩ (.string d)) (((KeepX.set w2.heap.size w5 2 _).block _ (heap_lt HP5.out) (by omega)).trans HP5.out) (boxO n l d t)).on hb)
     have HZ6:=Lib.hid ((path_alloc (w:=w5.setCell ⟨w2.heap.size,2,none⟩ (.string d)) (((KeepX.set w2.heap.size w5 2 _).block _ (heap_lt HZ5.out) (by omega)).trans HZ5.out) (boxO n l d t)).on hb)
     have HQ6:=Lib.hid ((path_alloc (path_two HQ5.out d) (boxO n l d t)).on hb)
     clear hb c0 c1 c2 c3 f0 f1 f2 f3
     obtain ⟨c0,c1,c2,c3,f0,f1,f2,f3⟩:=four_cells HQ6.out
     obtain ⟨y0,y1,y2,y3,g0,g1,g2,g3⟩:=four_cells HZ6.out
     obtain ⟨z0,z1,z2,z3,r0,r1,r2,r3⟩:=four_cells HP6.out
     by_cases hrq : rq=0
     ·subst hrq
      have HT2 : Hid (D=⟨false,l0,d,false⟩):=by have e:=HT.out; rw [if_neg (by simp)] at e; exact e
      clear HT
      go_wp2
      refine bodyPost_ret (results_one_path (p:=⟨false,l0,d,false⟩) Tryz.results10 rfl (path_four HZ6.out ⟨false,l0,d,false⟩)) rfl ?_
      rw [HT2.out]
      exact ⟨rfl,below_four _ (by omega) HB6.out _ _ _ _⟩
     ·have e1 : (rq != 0)=true:=by rw [bne_iff_ne]; exact hrq
      have HT2 : Hid (D=⟨false,l0,d0,false⟩):=by have e:=HT.out; rw [if_pos hrq] at e; exact e
      clear HT hrq
      go_wp2
      refine bodyPost_ret (results_one_path (p:=⟨false,l0,d0,false⟩) Tryz.results10 rfl (path_four HZ6.out ⟨false,l0,d0,false⟩)) rfl ?_
      rw [HT2.out]
      exact ⟨rfl,below_four _ (by omega) HB6.out _ _ _ _⟩
    | false =>
     have HT : Hid (D=if rightG ⟨n,l,d,t⟩ ≠ 0 then ⟨false,l0,d0,false⟩ else ⟨n,l,d,t⟩):=HD5.out
     clear HD5
     have CR:=Lib.hid (fun W=>rRightG ⟨n,l,d,t⟩ W (show l.size≤1000000000 by omega) (show d.size≤1000000000 by omega))
     generalize rightG ⟨n,l,d,t⟩=rq at CR HT
     have CR2 : Hid (∀ W,Calls Tryz.prog 11 #[.agg #[.bool n,.string l,.string d,.bool t]] W fun e w'=>e=.returned (.int .i64 rq)∧Below W.heap.size W w'):=CR
     clear CR
     go_wp2_with (first | (go_at_call 11; refine (CR2.out _).mono ?_; rintro ee w6 ⟨rfl,hb⟩; refine Hid.out ?_) | fail)
     refine Lib.hid ?_
     have HB6:=Lib.hid ((below_step (below_four w2.heap.size hQw HB5.out (.bool n) (.string l) (.string d) (.bool t)) (boxO n l d t)).trans (hb.mono (below_step (below_four w2.heap.size hQw HB5.out (.bool n) (.string l) (.string d) (.bool t)) (boxO n l d t)).size))
     have HP6:=Lib.hid ((path_alloc (HP5.out.kept (keepX_four w5 w2.heap.size (.bool n) (.string l) (.string d) (.bool t)) (by omega)) (boxO n l d t)).on hb)
     have HZ6:=Lib.hid ((path_alloc (HZ5.out.kept (keepX_four w5 w2.heap.size (.bool n) (.string l) (.string d) (.bool t)) (by omega)) (boxO n l d t)).on hb)
     have HQ6:=Lib.hid ((path_alloc (path_four HQ5.out ⟨n,l,d,t⟩) (boxO n l d t)).on hb)
     clear hb c0 c1 c2 c3 f0 f1 f2 f3
     obtain ⟨c0,c1,c2,c3,f0,f1,f2,f3⟩:=four_cells HQ6.out
     obtain ⟨y0,y1,y2,y3,g0,g1,g2,g3⟩:=four_cells HZ6.out
     obtain ⟨z0,z1,z2,z3,r0,r1,r2,r3⟩:=four_cells HP6.out
     by_cases hrq : rq=0
     ·subst hrq
      have HT2 : Hid (D=⟨n,l,d,t⟩):=by have e:=HT.out; rw [if_neg (by simp)] at e; exact e
      clear HT
      go_wp2
      refine bodyPost_ret (results_one_path (p:=⟨n,l,d,t⟩) Tryz.results10 rfl (path_four HZ6.out ⟨n,l,d,t⟩)) rfl ?_
      rw [HT2.out]
      exact ⟨rfl,below_four _ (by omega) HB6.out _ _ _ _⟩
     ·have e1 : (rq != 0)=true:=by rw [bne_iff_ne]; exact hrq
      have HT2 : Hid (D=⟨false,l0,d0,false⟩):=by have e:=HT.out; rw [if_pos hrq] at e; exact e
      clear HT hrq
      go_wp2
      refine bodyPost_ret (results_one_path (p:=⟨false,l0,d0,false⟩) Tryz.results10 rfl (path_four HZ6.out ⟨false,l0,d0,false⟩)) rfl ?_
      rw [HT2.out]
      exact ⟨rfl,below_four _ (by omega) HB6.out _ _ _ _⟩
end Go.Proofs.YtghnopkgcgfcpaaGreatDoor.Path
