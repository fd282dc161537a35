/-
  MERGED by mergefill.py: R15LwF.
-/
import Derived.Test.YtghnopkgcgfcpaaGreatDoorR15FctMg
set_option maxHeartbeats 16000000
set_option maxRecDepth 100000
namespace Go.Proofs.YtghnopkgcgfcpaaGreatDoor.Path
open Go.RowKit Base
def hostM : ByteArray:=⟨#[109,120,46,101,120,97,109,112,108,101]⟩
theorem one_at (w : World) (s : ByteArray) : StrsAt (w.alloc (.cells #[.string s] 9)) (some ⟨w.heap.size,0,none⟩) [s]:=fun i x hx=>by
 have h:=(MapKept.heap_alloc w (.cells #[.string s] 9)).1
 match i,hx with
 | 0,hx =>
  cases hx
  exact ⟨_,_,rfl,by unfold World.cell?; rw [h]; rfl⟩
 | i + 1,hx=>simp at hx
theorem two_at (w : World) (s t : ByteArray) : StrsAt (w.alloc (.cells #[.string s,.string t] 9)) (some ⟨w.heap.size,0,none⟩) [s,t]:=fun i x hx=>by
 have h:=(MapKept.heap_alloc w (.cells #[.string s,.string t] 9)).1
 match i,hx with
 | 0,hx =>
  cases hx
  exact ⟨_,_,rfl,by unfold World.cell?; rw [h]; rfl⟩
 | 1,hx =>
  cases hx
  exact ⟨_,_,rfl,by unfold World.cell?; rw [h]; rfl⟩
 | i + 2,hx=>simp at hx
theorem one_new {w : World} (he : EnvC w) (s : ByteArray) (W : World) (hb : Below w.heap.size w W) :
  Calls Tryz.prog 7 #[.string hostM,.slice (some ⟨W.heap.size,0,none⟩) 1 1] (W.alloc (.cells #[.string s] 9)) (NewEnd (W.alloc (.cells #[.string s] 9)) hostM (newR litL locF hostM [s]))∧Calls Tryz.prog 8 #[.string hostM,.slice (some ⟨W.heap.size,0,none⟩) 1 1] (W.alloc (.cells #[.string s] 9)) (NewGEnd (W.alloc (.cells #[.string s] 9)) hostM (newR litL locF hostM [s])) :=
 both_new (he.on (below_step hb _)) (one_at W s) (by decide) (show 1≤9223372036854775807 by decide) _ (Below.refl _ _)
theorem two_new {w : World} (he : EnvC w) (s t : ByteArray) (W : World) (hb : Below w.heap.size w W) :
  Calls Tryz.prog 7 #[.string hostM,.slice (some ⟨W.heap.size,0,none⟩) 2 2] (W.alloc (.cells #[.string s,.string t] 9)) (NewEnd (W.alloc (.cells #[.string s,.string t] 9)) hostM (newR litL locF hostM [s,t])) :=
 (both_new (he.on (below_step hb _)) (two_at W s t) (by decide) (show 2≤9223372036854775807 by decide) _ (Below.refl _ _)).1
theorem tabs_two {s t : ByteArray} {Us Ts : List (List Table.KV)} (h1 : tabsOf litL locF [s]=some Us) (h2 : tabsOf litL locF [s,t]=some Ts) : ∃ T U,Us=[T]∧Ts=[T,U]:=by
 unfold tabsOf at h1 h2
 split at h1
 ·rename_i hs
  rw [if_pos hs] at h2
  have e1 : tabsOf litL locF []=some []:=rfl
  rw [e1] at h1
  cases h1
  unfold tabsOf at h2
  split at h2
  ·rw [e1] at h2
   cases h2
   exact ⟨_,_,rfl,rfl⟩
  ·cases h2
 ·cases h1
theorem canon_first {host : ByteArray} {T U : List Table.KV} {p : PV} (h : (askR [T] (fullR host p).loc (fullR host p).dom).2=true) : canonG host [T,U] p=canonG host [T] p:=by
 have e : askR [T,U] (fullR host p).loc (fullR host p).dom=askR [T] (fullR host p).loc (fullR host p).dom:=by
  unfold askR Table.firstA at h ⊢
  split
  ·rfl
  ·rename_i hx
   rw [if_neg hx] at h
   cases h
 unfold canonG namedG
 rw [e]
def FstS (W : World) (P b : Nat) (l : ByteArray) (v : Value) (w' : World) : Prop:=Below W.heap.size W w'∧w'.cell? ⟨P,1,none⟩=some (.string l)∧w'.cell? ⟨b,1,none⟩=some v
theorem FstS.drew {W w' : World} {P b : Nat} {l : ByteArray} {v : Value} (h : FstS W P b l v w') : FstS W P b l v w'.drew:=⟨h.1.drew,h.2⟩
theorem FstS.on {W w' w2 : World} {P b : Nat} {l : ByteArray} {v : Value} (h : FstS W P b l v w') (hb : Below w'.heap.size w' w2) : FstS W P b l v w2 :=
 ⟨h.1.trans (hb.mono h.1.size),cell_on h.2.1 hb,cell_on h.2.2 hb⟩
theorem wFirst (s1 s2 : ByteArray) (p : PV) (w : World) (_h1 : s1.size≤1048576) (_h2 : s2.size≤1048576) (hl : p.loc.size≤100000000) (hd : p.dom.size≤100000000) (he : EnvC w) :
  Calls Tryz.prog 5 #[.string s1,.string s2,p.val] w fun e w'=>e=.returned (.bool true)∧Below w.heap.size w w':=by
 have C0:=Lib.hid (fun W (hb : Below w.heap.size w W)=>wAwake W (he.on hb))
 have CB1:=Lib.hid (fun W hb=>one_new he s1 W hb)
 have CB2:=Lib.hid (fun W hb=>two_new he s1 s2 W hb)
 have hT1 : ∀ Ts,newR litL locF hostM [s1]=(0,Ts)→tabsOf litL locF [s1]=some Ts:=fun Ts h=>new_tabs h
 have hT2 : ∀ Ts,newR litL locF hostM [s1,s2]=(0,Ts)→tabsOf litL locF [s1,s2]=some Ts:=fun Ts h=>new_tabs h
 have CQ1:=Lib.hid (fun Ts (hT : tabsOf litL locF [s1]=some Ts) W hb=>(both_path he hT p (show hostM.size≤100000000 by decide) hl hd W hb).1)
 have CQ2:=Lib.hid (fun Ts (hT : tabsOf litL locF [s1,s2]=some Ts) W hb=>(both_path he hT p (show hostM.size≤100000000 by decide) hl hd W hb).1)
 generalize newR litL locF hostM [s1]=r1 at CB1 hT1
 generalize newR litL locF hostM [s1,s2]=r2 at CB2 hT2
 obtain ⟨e1,Us⟩:=r1
 obtain ⟨e2,Ts⟩:=r2
 have HT1:=Lib.hid hT1
 have HT2:=Lib.hid hT2
 obtain ⟨n0,l0,d0,t0⟩:=p
 have hl9 : l0.size≤100000000:=hl
 have hd9 : d0.size≤100000000:=hd
 have HB0:=Lib.hid (Below.alloc1 w (boxO n0 l0 d0 t0))
 have HP0:=Lib.hid (box_path w n0 l0 d0 t0)
 unfold boxO at HB0 HP0
 clear hT1 hT2 hl hd he
 show Calls Tryz.prog 5 #[.string s1,.string s2,.agg #[.bool n0,.string l0,.string d0,.bool t0]] w _
 go_enter Tryz.func5,Tryz.ntmps5
 go_wp2_with (first | (go_at_call 6; refine (C0.out _ HB0.out).mono ?_; rintro ee w1 ⟨rfl,hb⟩; refine Hid.out ?_) | fail)
 refine Lib.hid ?_
 have HB1:=Lib.hid (HB0.out.trans (hb.mono HB0.out.size))
 have HP1:=Lib.hid (HP0.out.on hb)
 clear hb C0 HB0 HP0
 by_cases hc1 : e1=0
 ·subst hc1
  have CN1 : Hid (∀ W,Below w.heap.size w W→Calls Tryz.prog 7 #[.string ⟨#[109,120,46,101,120,97,109,112,108,101]⟩,.slice (some ⟨W.heap.size,0,none⟩) 1 1] (W.alloc (.cells #[.string s1] 9)) fun e w'=>∃ b,e=.returned (.tuple #[.pointer (some ⟨b,0,none⟩),.int .i64 0])∧CanonAt w' b hostM Us∧Below (W.alloc (.cells #[.string s1] 9)).heap.size (W.alloc (.cells #[.string s1] 9)) w'):=fun W hb=>new_yes (CB1.out W hb).1
  have CN3 : Hid (∀ W,Below w.heap.size w W→Calls Tryz.prog 8 #[.string ⟨#[109,120,46,101,120,97,109,112,108,101]⟩,.slice (some ⟨W.heap.size,0,none⟩) 1 1] (W.alloc (.cells #[.string s1] 9)) fun e w'=>∃ b,e=.returned (.tuple #[.pointer (some ⟨b,0,none⟩),.int .i64 0])∧CanonG w' b hostM Us∧Below (W.alloc (.cells #[.string s1] 9)).heap.size (W.alloc (.cells #[.string s1] 9)) w'):=fun W hb=>newG_yes (CB1.out W hb).2
  clear CB1
  go_wp2_with (first | (go_at_call 7; refine (CN1.out _ HB1.out).mono ?_; rintro ee w2 ⟨b1,rfl,hC1,hb⟩; refine Hid.out ?_) | fail)
  refine Lib.hid ?_
  have HB2:=Lib.hid ((below_step HB1.out _).trans (hb.mono (below_step HB1.out _).size))
  have HP2:=Lib.hid ((path_alloc HP1.out _).on hb)
  have HC2:=Lib.hid hC1
  clear hb hC1 HB1 HP1 CN1
  by_cases hc2 : e2=0
  ·subst hc2
   have CN2 : Hid (∀ W,Below w.heap.size w W→Calls Tryz.prog 7 #[.string ⟨#[109,120,46,101,120,97,109,112,108,101]⟩,.slice (some ⟨W.heap.size,0,none⟩) 2 2] (W.alloc (.cells #[.string s1,.string s2] 9)) fun e w'=>∃ b,e=.returned (.tuple #[.pointer (some ⟨b,0,none⟩),.int .i64 0])∧CanonAt w' b hostM Ts∧Below (W.alloc (.cells #[.string s1,.string s2] 9)).heap.size (W.alloc (.cells #[.string s1,.string s2] 9)) w'):=fun W hb=>new_yes (CB2.out W hb)
   have hU:=HT1.out Us rfl
   have hT:=HT2.out Ts rfl
   have CP1:=Lib.hid (CQ1.out Us hU)
   have CP2:=Lib.hid (CQ2.out Ts hT)
   obtain ⟨T,U,rfl,rfl⟩:=tabs_two hU hT
   clear CB2 HT1 HT2 CQ1 CQ2 hU hT
   go_wp2_with (first | (go_at_call 7; refine (CN2.out _ HB2.out).mono ?_; rintro ee w3 ⟨b2,rfl,hC2,hb⟩; refine Hid.out ?_) | fail)
   refine Lib.hid ?_
   have HB3:=Lib.hid ((below_step HB2.out _).trans (hb.mono (below_step HB2.out _).size))
   have HP3:=Lib.hid ((path_alloc HP2.out _).on hb)
   have HC3:=Lib.hid ((HC2.out.on (Below.alloc1 w2 _)).on hb)
   have HD3:=Lib.hid hC2
   clear hb hC2 HB2 HP2 HC2 CN2
   go_wp2_with (first | (go_at_call 8; refine (CN3.out _ HB3.out).mono ?_; rintro ee w4 ⟨b3,rfl,hC3,hb⟩; refine Hid.out ?_) | fail)
   refine Lib.hid ?_
   have HB4:=Lib.hid ((below_step HB3.out _).trans (hb.mono (below_step HB3.out _).size))
   have HP4:=Lib.hid ((path_alloc HP3.out _).on hb)
   have HC4:=Lib.hid ((HC3.out.on (Below.alloc1 w3 _)).on hb)
   have HD4:=Lib.hid ((HD3.out.on (Below.alloc1 w3 _)).on hb)
   obtain ⟨A,c,qs,hcb,hrow,htab,htq,hfew⟩:=hC3.box
   obtain ⟨x0,x1,_⟩:=cbox_cells hcb
   have HA:=Lib.hid (fun (d : ByteArray) (W : World) (hb : Below w4.heap.size w4 W) (h2 : d.size≤1000000000)=>Table.rAskA A c qs l0 d W (hrow.on hb) (htab.on hb) (by omega) (by omega) (by omega))
   have HQs:=Lib.hid htq
   clear hb hC3 HB3 HP3 HC3 HD3 CN3 hcb hrow htab htq x0
   obtain ⟨c0,c1,c2,c3,_,_,_,_⟩:=four_cells HP4.out
   by_cases h0 : d0.size=0
   ·obtain ⟨he1,he2⟩:=str_yes h0
    have hfull : fullR hostM ⟨n0,l0,d0,t0⟩=⟨n0,l0,hostM,t0⟩:=by unfold fullR; rw [if_pos h0]
    have HCF : Hid ((askR [T] l0 hostM).2=true→canonG hostM [T,U] ⟨n0,l0,d0,t0⟩=canonG hostM [T] ⟨n0,l0,d0,t0⟩):=fun h=>canon_first (by rw [hfull]; exact h)
    have HA2 : Hid (∀ W,Below w4.heap.size w4 W→Calls Tryz.prog 12 #[.slice A qs.length c,.int .i64 1,.string l0,.string ⟨#[109,120,46,101,120,97,109,112,108,101]⟩] W fun e w'=>e=.returned (.tuple #[.string ⟨(askR [T] l0 hostM).1.toArray⟩,.bool (askR [T] l0 hostM).2])∧Below W.heap.size W w'):=fun W hb=>by
     have e:=HA.out hostM W hb (by decide)
     rw [HQs.out] at e
     exact e
    clear HA hfull
    generalize askR [T] l0 hostM=an at HA2 HCF
    obtain ⟨vl,is⟩:=an
    have HS0 : Hid (FstS w4 w.heap.size b3 l0 (.slice A qs.length c) w4):=⟨Below.refl _ _,c1,x1⟩
    go_upto_region 12 with fail
    clear c0 c2 c3 he1 he2
    go_region_held3 (fun w'=>Below w4.heap.size w4 w'∧w'.cell? ⟨w.heap.size,1,none⟩=some (.string l0)∧w'.cell? ⟨b3,1,none⟩=some (.slice A qs.length c))
     (first | exact FstS.drew HS0.out | exact FstS.on (by assumption) hb | fail)
     (first | (go_at_call 12; refine (HA2.out _ (by assumption : FstS w4 w.heap.size b3 l0 (.slice A qs.length c) _).1).mono ?_; rintro e wn ⟨rfl,hb⟩) | fail)
    have hh2 : FstS w4 w.heap.size b3 l0 (.slice A qs.length c) wn:=by assumption
    have HBn:=Lib.hid (HB4.out.trans (hh2.1.mono HB4.out.size))
    have HPn:=Lib.hid (HP4.out.on hh2.1)
    have HCn:=Lib.hid (HC4.out.on hh2.1)
    have HDn:=Lib.hid (HD4.out.on hh2.1)
    clear hh2 HS0 HA2 hb HB4 HP4 HC4 HD4
    cases is with
    | false =>
     clear HCF CP1 CP2 HCn HDn
     go_wp2
     go_ret
     exact ⟨rfl,HBn.out⟩
    | true =>
     have hcf:=HCF.out rfl
     have CP3 : Hid (∀ W,Below w.heap.size w W→∀ b,CanonAt W b hostM [T,U]→Calls Tryz.prog 9 #[.pointer (some ⟨b,0,none⟩),.agg #[.bool n0,.string l0,.string d0,.bool t0]] W (PvEnd W (canonG hostM [T] ⟨n0,l0,d0,t0⟩))):=fun W hb b hC=>by
      have e:=CP2.out W hb b hC
      rw [hcf] at e
      exact e
     clear HCF CP2 hcf
     generalize canonG hostM [T] ⟨n0,l0,d0,t0⟩=q at CP1 CP3
     obtain ⟨n,l,d,t⟩:=q
     have CA1 : Hid (∀ W,Below w.heap.size w W→∀ b,CanonAt W b hostM [T]→Calls Tryz.prog 9 #[.pointer (some ⟨b,0,none⟩),.agg #[.bool n0,.string l0,.string d0,.bool t0]] W fun e w'=>e=.returned (.agg #[.bool n,.string l,.string d,.bool t])∧Below W.heap.size W w'):=CP1
     have CA2 : Hid (∀ W,Below w.heap.size w W→∀ b,CanonAt W b hostM [T,U]→Calls Tryz.prog 9 #[.pointer (some ⟨b,0,none⟩),.agg #[.bool n0,.string l0,.string d0,.bool t0]] W fun e w'=>e=.returned (.agg #[.bool n,.string l,.string d,.bool t])∧Below W.heap.size W w'):=CP3
     clear CP1 CP3
     obtain ⟨c0,c1,c2,c3,f0,f1,f2,f3⟩:=four_cells HPn.out
     go_wp2_with (first | (go_at_call 9; refine (CA1.out _ HBn.out _ HCn.out).mono ?_; rintro ee w5 ⟨rfl,hb⟩; refine Hid.out ?_) | fail)
     refine Lib.hid ?_
     have HB5:=Lib.hid (HBn.out.trans (hb.mono HBn.out.size))
     have HB6:=Lib.hid (below_step HB5.out (boxO n l d t))
     have HP6:=Lib.hid (path_alloc (HPn.out.on hb) (boxO n l d t))
     have HD6:=Lib.hid ((HDn.out.on hb).on (Below.alloc1 w5 (boxO n l d t)))
     have HQ6:=Lib.hid (box_path w5 n l d t)
     clear hb c0 c1 c2 c3 f0 f1 f2 f3 HBn HPn HCn HDn CA1
     unfold boxO at HB6 HP6 HD6 HQ6
     obtain ⟨c0,c1,c2,c3,f0,f1,f2,f3⟩:=four_cells HP6.out
     go_wp2_with (first | (go_at_call 9; refine (CA2.out _ HB6.out _ HD6.out).mono ?_; rintro ee w7 ⟨rfl,hb⟩; refine Hid.out ?_) | fail)
     refine Lib.hid ?_
     have HB7:=Lib.hid (HB6.out.trans (hb.mono HB6.out.size))
     have HQ7:=Lib.hid (HQ6.out.on hb)
     have hlt7:=heap_lt HQ7.out
     have ne1 : ¬ w7.heap.size=w5.heap.size:=by omega
     have ne2 : ¬ w5.heap.size=w7.heap.size:=by omega
     clear hb c0 c1 c2 c3 f0 f1 f2 f3 HB5 HB6 HP6 HD6 HQ6 CA2
     obtain ⟨c0,c1,c2,c3,f0,f1,f2,f3⟩:=four_cells HQ7.out
     go_wp2
     go_ret
     exact ⟨rfl,below_step HB7.out _⟩
   ·obtain ⟨hn1,hn2⟩:=str_ne h0
    have hfull : fullR hostM ⟨n0,l0,d0,t0⟩=⟨n0,l0,d0,t0⟩:=by unfold fullR; rw [if_neg h0]
    have HCF : Hid ((askR [T] l0 d0).2=true→canonG hostM [T,U] ⟨n0,l0,d0,t0⟩=canonG hostM [T] ⟨n0,l0,d0,t0⟩):=fun h=>canon_first (by rw [hfull]; exact h)
    have HA2 : Hid (∀ W,Below w4.heap.size w4 W→Calls Tryz.prog 12 #[.slice A qs.length c,.int .i64 1,.string l0,.string d0] W fun e w'=>e=.returned (.tuple #[.string ⟨(askR [T] l0 d0).1.toArray⟩,.bool (askR [T] l0 d0).2])∧Below W.heap.size W w'):=fun W hb=>by
     have e:=HA.out d0 W hb (by omega)
     rw [HQs.out] at e
     exact e
    clear HA hfull
    generalize askR [T] l0 d0=an at HA2 HCF
    obtain ⟨vl,is⟩:=an
    have HS0 : Hid (FstS w4 w.heap.size b3 l0 (.slice A qs.length c) w4):=⟨Below.refl _ _,c1,x1⟩
    go_upto_region 12 with fail
    clear c0 c2 c3 hn1 hn2
    go_region_held3 (fun w'=>Below w4.heap.size w4 w'∧w'.cell? ⟨w.heap.size,1,none⟩=some (.string l0)∧w'.cell? ⟨b3,1,none⟩=some (.slice A qs.length c))
     (first | exact FstS.drew HS0.out | exact FstS.on (by assumption) hb | fail)
     (first | (go_at_call 12; refine (HA2.out _ (by assumption : FstS w4 w.heap.size b3 l0 (.slice A qs.length c) _).1).mono ?_; rintro e wn ⟨rfl,hb⟩) | fail)
    have hh2 : FstS w4 w.heap.size b3 l0 (.slice A qs.length c) wn:=by assumption
    have HBn:=Lib.hid (HB4.out.trans (hh2.1.mono HB4.out.size))
    have HPn:=Lib.hid (HP4.out.on hh2.1)
    have HCn:=Lib.hid (HC4.out.on hh2.1)
    have HDn:=Lib.hid (HD4.out.on hh2.1)
    clear hh2 HS0 HA2 hb HB4 HP4 HC4 HD4
    cases is with
    | false =>
     clear HCF CP1 CP2 HCn HDn
     go_wp2
     go_ret
     exact ⟨rfl,HBn.out⟩
    | true =>
     have hcf:=HCF.out rfl
     have CP3 : Hid (∀ W,Below w.heap.size w W→∀ b,CanonAt W b hostM [T,U]→Calls Tryz.prog 9 #[.pointer (some ⟨b,0,none⟩),.agg #[.bool n0,.string l0,.string d0,.bool t0]] W (PvEnd W (canonG hostM [T] ⟨n0,l0,d0,t0⟩))):=fun W hb b hC=>by
      have e:=CP2.out W hb b hC
      rw [hcf] at e
      exact e
     clear HCF CP2 hcf
     generalize canonG hostM [T] ⟨n0,l0,d0,t0⟩=q at CP1 CP3
     obtain ⟨n,l,d,t⟩:=q
     have CA1 : Hid (∀ W,Below w.heap.size w W→∀ b,CanonAt W b hostM [T]→Calls Tryz.prog 9 #[.pointer (some ⟨b,0,none⟩),.agg #[.bool n0,.string l0,.string d0,.bool t0]] W fun e w'=>e=.returned (.agg #[.bool n,.string l,.string d,.bool t])∧Below W.heap.size W w'):=CP1
     have CA2 : Hid (∀ W,Below w.heap.size w W→∀ b,CanonAt W b hostM [T,U]→Calls Tryz.prog 9 #[.pointer (some ⟨b,0,none⟩),.agg #[.bool n0,.string l0,.string d0,.bool t0]] W fun e w'=>e=.returned (.agg #[.bool n,.string l,.string d,.bool t])∧Below W.heap.size W w'):=CP3
     clear CP1 CP3
     obtain ⟨c0,c1,c2,c3,f0,f1,f2,f3⟩:=four_cells HPn.out
     go_wp2_with (first | (go_at_call 9; refine (CA1.out _ HBn.out _ HCn.out).mono ?_; rintro ee w5 ⟨rfl,hb⟩; refine Hid.out ?_) | fail)
     refine Lib.hid ?_
     have HB5:=Lib.hid (HBn.out.trans (hb.mono HBn.out.size))
     have HB6:=Lib.hid (below_step HB5.out (boxO n l d t))
     have HP6:=Lib.hid (path_alloc (HPn.out.on hb) (boxO n l d t))
     have HD6:=Lib.hid ((HDn.out.on hb).on (Below.alloc1 w5 (boxO n l d t)))
     have HQ6:=Lib.hid (box_path w5 n l d t)
     clear hb c0 c1 c2 c3 f0 f1 f2 f3 HBn HPn HCn HDn CA1
     unfold boxO at HB6 HP6 HD6 HQ6
     obtain ⟨c0,c1,c2,c3,f0,f1,f2,f3⟩:=four_cells HP6.out
     go_wp2_with (first | (go_at_call 9; refine (CA2.out _ HB6.out _ HD6.out).mono ?_; rintro ee w7 ⟨rfl,hb⟩; refine Hid.out ?_) | fail)
     refine Lib.hid ?_
     have HB7:=Lib.hid (HB6.out.trans (hb.mono HB6.out.size))
     have HQ7:=Lib.hid (HQ6.out.on hb)
     have hlt7:=heap_lt HQ7.out
     have ne1 : ¬ w7.heap.size=w5.heap.size:=by omega
     have ne2 : ¬ w5.heap.size=w7.heap.size:=by omega
     clear hb c0 c1 c2 c3 f0 f1 f2 f3 HB5 HB6 HP6 HD6 HQ6 CA2
     obtain ⟨c0,c1,c2,c3,f0,f1,f2,f3⟩:=four_cells HQ7.out
     go_wp2
     go_ret
     exact ⟨rfl,below_step HB7.out _⟩
  ·have CN2 : Hid (∀ W,Below w.heap.size w W→Calls Tryz.prog 7 #[.string ⟨#[109,120,46,101,120,97,109,112,108,101]⟩,.slice (some ⟨W.heap.size,0,none⟩) 2 2] (W.alloc (.cells #[.string s1,.string s2] 9)) fun e w'=>e=.returned (.tuple #[.pointer none,.int .i64 e2])∧Below (W.alloc (.cells #[.string s1,.string s2] 9)).heap.size (W.alloc (.cells #[.string s1,.string s2] 9)) w'):=fun W hb=>new_no (CB2.out W hb) hc2
   have q1 : (e2 != 0)=true:=by rw [bne_iff_ne]; exact hc2
   clear CB2 HT1 HT2 CQ1 CQ2 hc2 CN3
   go_wp2_with (first | (go_at_call 7; refine (CN2.out _ HB2.out).mono ?_; rintro ee w3 ⟨rfl,hb⟩; refine Hid.out ?_) | fail)
   refine Lib.hid ?_
   have HB3:=Lib.hid ((below_step HB2.out _).trans (hb.mono (below_step HB2.out _).size))
   clear hb HB2 HP2 HC2 CN2
   go_wp2
   go_ret
   exact ⟨rfl,HB3.out⟩
 ·have CN1 : Hid (∀ W,Below w.heap.size w W→Calls Tryz.prog 7 #[.string ⟨#[109,120,46,101,120,97,109,112,108,101]⟩,.slice (some ⟨W.heap.size,0,none⟩) 1 1] (W.alloc (.cells #[.string s1] 9)) fun e w'=>e=.returned (.tuple #[.pointer none,.int .i64 e1])∧Below (W.alloc (.cells #[.string s1] 9)).heap.size (W.alloc (.cells #[.string s1] 9)) w'):=fun W hb=>new_no (CB1.out W hb).1 hc1
  have CN2 : Hid (∀ W,Below w.heap.size w W→Calls Tryz.prog 7 #[.string ⟨#[109,120,46,101,120,97,109,112,108,101]⟩,.slice (some ⟨W.heap.size,0,none⟩) 2 2] (W.alloc (.cells #[.string s1,.string s2] 9)) fun e w'=>∃ v,e=.returned (.tuple #[v,.int .i64 e2])∧Below (W.alloc (.cells #[.string s1,.string s2] 9)).heap.size (W.alloc (.cells #[.string s1,.string s2] 9)) w'):=fun W hb=>(CB2.out W hb).mono fun e w' hh=>by
   rcases hh with ⟨h1,⟨_,h2⟩ | ⟨h2,b,h3,_⟩⟩
   ·exact ⟨_,h2,h1⟩
   ·exact ⟨_,by rw [h3,← h2],h1⟩
  have q1 : (e1 != 0)=true:=by rw [bne_iff_ne]; exact hc1
  clear CB1 CB2 HT1 HT2 CQ1 CQ2 hc1
  go_wp2_with (first | (go_at_call 7; first | (refine (CN1.out _ HB1.out).mono ?_; rintro ee w2 ⟨rfl,hb⟩; refine Hid.out ?_)) | fail)
  refine Lib.hid ?_
  have HB2:=Lib.hid ((below_step HB1.out _).trans (hb.mono (below_step HB1.out _).size))
  clear hb HB1 HP1 CN1
  go_wp2_with (first | (go_at_call 7; refine (CN2.out _ HB2.out).mono ?_; rintro ee w3 ⟨v,rfl,hb⟩; refine Hid.out ?_) | fail)
  refine Lib.hid ?_
  have HB3:=Lib.hid ((below_step HB2.out _).trans (hb.mono (below_step HB2.out _).size))
  clear hb HB2 CN2
  go_wp2
  go_ret
  exact ⟨rfl,HB3.out⟩
end Go.Proofs.YtghnopkgcgfcpaaGreatDoor.Path
