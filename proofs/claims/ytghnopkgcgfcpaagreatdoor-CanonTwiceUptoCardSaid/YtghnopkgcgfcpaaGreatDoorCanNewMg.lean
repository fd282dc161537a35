/-
  MERGED by mergefill.py: CanNew, CanCal, CanPath, CanAwP, CanAw.
-/
import Derived.Test.YtghnopkgcgfcpaaGreatDoorCanRepMg
import Derived.Test.YtghnopkgcgfcpaaGreatDoorTabPrsMg
import Derived.Test.YtghnopkgcgfcpaaGreatDoorTabPStMg
import Derived.Deep.RegionHeld3
set_option maxHeartbeats 16000000
set_option maxRecDepth 100000
namespace Go.Proofs.YtghnopkgcgfcpaaGreatDoor.Path
open Go.RowKit Base
abbrev LitF:=ByteArray→Nat→Bool × Nat × ByteArray
def tabsOf (L : LitF) (f : ByteArray→ByteArray) : List ByteArray→Option (List (List Table.KV))
 | []=>some []
 | s :: r=>if (Table.parseOf s.data.toList).2.1=0∧valsB L f (Table.parseOf s.data.toList).1=true then (tabsOf L f r).map (fun l=>(Table.parseOf s.data.toList).1 :: l) else none
def newR (L : LitF) (f : ByteArray→ByteArray) (host : ByteArray) (Xs : List ByteArray) : Int × List (List Table.KV) :=
 if domR L host=(host,false,0)∧Xs.length≤8 then (match tabsOf L f Xs with | some Ts=>(0,Ts) | none=>(150,[])) else (1,[])
structure CanonAt (w : World) (b : Nat) (host : ByteArray) (Ts : List (List Table.KV)) : Prop where
 box : ∃ cb,w.heap[b]?=some (.cells #[.string host,.pointer (some ⟨cb,0,none⟩)] 56 (0,0))∧Table.ChainAt w cb Ts
 good : ∀ T ∈ Ts,Table.Good T
 few : Ts.length≤8
def NewEnd (w : World) (host : ByteArray) (r : Int × List (List Table.KV)) (e : Ending) (w' : World) : Prop :=
 Below w.heap.size w w'∧((r.1 ≠ 0∧e=.returned (.tuple #[.pointer none,.int .i64 r.1]))∨(r.1=0∧∃ b,e=.returned (.tuple #[.pointer (some ⟨b,0,none⟩),.int .i64 0])∧CanonAt w' b host r.2∧w.heap.size≤b))
theorem tabs_snoc (L : LitF) (f : ByteArray→ByteArray) (s : ByteArray) : ∀ (Xs : List ByteArray) (Ts : List (List Table.KV)),tabsOf L f Xs=some Ts→tabsOf L f (Xs++[s])=if (Table.parseOf s.data.toList).2.1=0∧valsB L f (Table.parseOf s.data.toList).1=true then some (Ts++[(Table.parseOf s.data.toList).1]) else none
 | [],Ts,h=>by
  cases h
  show tabsOf L f (s :: [])=_
  unfold tabsOf
  split <;> rfl
 | x :: r,Ts,h=>by
  unfold tabsOf at h
  show tabsOf L f (x :: (r++[s]))=_
  unfold tabsOf
  split at h
  ·rename_i hx
   rw [if_pos hx]
   cases hr : tabsOf L f r with
   | none=>rw [hr] at h; cases h
   | some l =>
    rw [hr] at h
    cases h
    rw [tabs_snoc L f s r l hr]
    split <;> rfl
  ·cases h
theorem tabs_none (L : LitF) (f : ByteArray→ByteArray) : ∀ (Xs Ys : List ByteArray),tabsOf L f Xs=none→tabsOf L f (Xs++Ys)=none
 | [],_,h=>by cases h
 | x :: r,Ys,h=>by
  unfold tabsOf at h
  show tabsOf L f (x :: (r++Ys))=_
  unfold tabsOf
  split at h
  ·rename_i hx
   rw [if_pos hx]
   cases hr : tabsOf L f r with
   | none=>rw [tabs_none L f r Ys hr]; rfl
   | some l=>rw [hr] at h; cases h
  ·rename_i hx
   rw [if_neg hx]
theorem tabs_bad {L : LitF} {f : ByteArray→ByteArray} {Xs : List ByteArray} {k : Nat} {s : ByteArray} {Ts : List (List Table.KV)} (hk : Xs[k]?=some s) (h : tabsOf L f (Xs.take k)=some Ts) (hb : ¬ ((Table.parseOf s.data.toList).2.1=0∧valsB L f (Table.parseOf s.data.toList).1=true)) : tabsOf L f Xs=none:=by
 have e1 : Xs.take (k + 1)=Xs.take k++[s]:=by rw [List.take_add_one,hk]; rfl
 have e2:=tabs_snoc L f s (Xs.take k) Ts h
 rw [if_neg hb,← e1] at e2
 have e3:=tabs_none L f (Xs.take (k + 1)) (Xs.drop (k + 1)) e2
 rwa [List.take_append_drop] at e3
theorem tabs_next {L : LitF} {f : ByteArray→ByteArray} {Xs : List ByteArray} {k : Nat} {s : ByteArray} {Ts : List (List Table.KV)} (hk : Xs[k]?=some s) (h : tabsOf L f (Xs.take k)=some Ts) (h1 : (Table.parseOf s.data.toList).2.1=0) (h2 : valsB L f (Table.parseOf s.data.toList).1=true) : tabsOf L f (Xs.take (k + 1))=some (Ts++[(Table.parseOf s.data.toList).1]):=by
 have e1 : Xs.take (k + 1)=Xs.take k++[s]:=by rw [List.take_add_one,hk]; rfl
 rw [e1,tabs_snoc L f s (Xs.take k) Ts h,if_pos ⟨h1,h2⟩]
def pvT (q : Tri) : Table.PV:=some (q.pb,q.sv)
theorem vals_tri (Es : List Tri) : Table.valsOf (Es.map pvT)=Es.map Tri.sv:=by
 unfold Table.valsOf
 induction Es with
 | nil=>rfl
 | cons q r ih=>simp only [List.map_cons]; rw [List.filterMap_cons]; simp only [pvT,id,List.map_cons]; exact congrArg _ ih
theorem NInv.join {w wr : World} {la : Option Addr} {lc : Nat} {Es : List Tri} (h : NInv w wr (.slice la Es.length lc) Es) (hn : Es.length≤8) :
  Calls Tryz.prog 16 #[.slice la Es.length lc] wr fun e w'=>e=.returned (.pointer (some ⟨wr.heap.size,0,none⟩))∧Table.ChainAt w' wr.heap.size (Es.map Tri.tab)∧Below wr.heap.size wr w':=by
 have hl : (Es.map pvT).length=Es.length:=List.length_map _
 have hj:=Table.pJoin wr la lc (Es.map pvT) (fun i o ho=>?_) (fun b sv hm=>?_) (by omega)
 ·rw [hl] at hj
  refine hj.mono fun e w' hh=>?_
  obtain ⟨cv,h1,h2⟩:=hh
  rw [vals_tri] at h2
  refine ⟨h1,⟨cv,h2.box,?_⟩,h2.below⟩
  have hr:=h2.row
  rw [List.length_map] at hr
  rcases hr.2 with ⟨hv,hn0⟩ | ⟨g,cap,cur,hv,_,hb,hc1,_⟩
  ·exact Or.inl ⟨List.eq_nil_of_length_eq_zero (by rw [List.length_map]; exact hn0),none,0,hv⟩
  ·subst hv
   refine Or.inr ⟨g,cap,by rw [List.length_map],by rw [List.length_map]; exact hc1,fun i T hT=>?_⟩
   rw [List.getElem?_map] at hT
   cases hq : Es[i]? with
   | none=>rw [hq] at hT; cases hT
   | some q =>
    rw [hq] at hT
    cases hT
    have hi : i < Es.length:=(List.getElem?_eq_some_iff.1 hq).1
    have hc:=World.ownsRow.cellAt hr i (by omega)
    rw [List.getElem?_map,hq] at hc
    exact ⟨q.sv,hc,(h.tabs q (List.mem_of_getElem? hq)).1.pr.on h2.below⟩
 ·have hil : i < Es.length:=by have:=(List.getElem?_eq_some_iff.1 ho).1; omega
  rcases h.row.2 with ⟨_,hn0⟩ | ⟨g,cap,cur,he,_,hb,_⟩
  ·omega
  ·injection he with he1 _ _
   subst he1
   refine ⟨g,rfl,heap_lt hb,?_⟩
   have hc:=World.ownsRow.cellAt h.row i (by omega)
   rw [hc,List.getElem?_map]
   rw [List.getElem?_map] at ho
   cases hx : Es[i]? with
   | none=>rw [hx] at ho; cases ho
   | some y=>rw [hx] at ho; cases ho; rfl
 ·obtain ⟨q,ho1,ho2⟩:=List.mem_map.1 hm
  have e : (q.pb,q.sv)=(b,sv):=Option.some.inj ho2
  cases e
  have hc:=(h.tabs q ho1).1
  obtain ⟨a,c,he,_⟩:=hc.pr.form
  exact ⟨hc.p,by rw [he]; rfl⟩
theorem pNew {w0 : World} {L : LitF} {f : ByteArray→ByteArray} (hL : LitOk w0 L) (hf : FormOk f) (host : ByteArray) (A : Option Addr) (c : Nat) (Xs : List ByteArray) (w : World) (hE : Below w0.heap.size w0 w) (hm : Table.MaxOk w)
  (hh : host.size≤1000000000) (hX : ∀ (i : Nat) (s : ByteArray),Xs[i]?=some s→∃ g o,A=some ⟨g,o,none⟩∧w.cell? ⟨g,o + i,none⟩=some (.string s)) (hXl : Xs.length≤9223372036854775807)
  (hV : ∀ s ∈ Xs,∀ p ∈ (Table.parseOf s.data.toList).1,ValOk L ⟨p.2.toArray⟩) :
  Calls Tryz.prog 7 #[.string host,.slice A Xs.length c] w (NewEnd w host (newR L f host Xs)):=by
 obtain ⟨D,hD⟩ : ∃ D,D=newR L f host Xs:=⟨_,rfl⟩
 rw [← hD]
 have HD:=Lib.hid hD
 have C0:=Lib.hid (pDomainP hL host w hE (by omega))
 have HX:=Lib.hid hX
 have HM:=Lib.hid hm
 have CP:=Lib.hid (fun (s : ByteArray) (W : World) (hb : Below w.heap.size w W)=>Table.pParse Table.idxOk s W (hm.on hb))
 have CV:=Lib.hid (fun (b : Nat) (T : List Table.KV) (W : World) (hb : Below w.heap.size w W) (hT : Table.TabAt 105 W b T) (hn : T.length≤1000000) (hv : ∀ p ∈ T,ValOk L ⟨p.2.toArray⟩)=>pRightVals hL hf b T W (hE.trans (hb.mono hE.size)) hT hn hv)
 have HV:=Lib.hid hV
 clear hL hf hE hm hX hV hD
 unfold newR at HD
 generalize hdr : domR L host=dr at C0 HD
 obtain ⟨dd,lit,code⟩:=dr
 have C0 : Hid (Calls Tryz.prog 13 #[.string host] w fun e w'=>e=.returned (.tuple #[.string dd,.bool lit,.int .i64 code])∧Below w.heap.size w w'):=C0
 by_cases hok : ((dd,lit,code) : ByteArray × Bool × Int)=(host,false,0)∧Xs.length≤8
 ·obtain ⟨he,h8⟩:=hok
  cases he
  have HD2 : Hid (D=match tabsOf L f Xs with | some Ts=>(0,Ts) | none=>(150,[])):=by have e:=HD.out; rw [if_pos ⟨rfl,h8⟩] at e; exact e
  have i8 : ¬ (8 : Int) < (Xs.length : Int):=by omega
  clear HD hdr
  go_enter Tryz.func7,Tryz.ntmps7
  go_wp2_with (first | (go_at_call 13; refine C0.out.mono ?_; rintro ee w1 ⟨rfl,hb⟩; refine Hid.out ?_) | fail)
  refine Lib.hid ?_
  have HN0:=Lib.hid ((NInv.start w).on hb)
  clear hb
  go_wp2
  go_loopw [9,37] (fun lv i wx=>∃ (k : Nat) (la : Option Addr) (lc : Nat) (Es : List Tri),k≤Xs.length∧i=.int .i64 (k : Int)∧lv=.slice la Es.length lc∧Es.length=k∧Hid (NInv w wx (.slice la Es.length lc) Es)∧Hid (tabsOf L f (Xs.take k)=some (Es.map Tri.tab))) (fun _ i _=>Xs.length - (intOf i).toNat)
  case atStart=>exact ⟨0,none,0,[],by omega,rfl,rfl,rfl,HN0,rfl⟩
  case round =>
   clear HN0
   obtain ⟨k,la,lc,Es,hk,rfl,rfl,hEk,hI,hT⟩:=hrel
   have HEk : Hid (Es.length=k):=hEk
   have HI:=Lib.hid hI.out
   have HTb:=Lib.hid hT.out
   clear hEk hI hT
   by_cases hlt : k < Xs.length
   ·have i1 : (k : Int) < (Xs.length : Int):=by omega
    have i0 : (0 : Int)≤(k : Int):=by omega
    have hget : Xs[k]?=some Xs[k]:=List.getElem?_eq_getElem hlt
    have hmem : Xs[k] ∈ Xs:=List.getElem_mem hlt
    obtain ⟨g,o,rfl,hc⟩:=HX.out k _ hget
    have hc:=cell_on hc HI.out.below
    have CP1:=Lib.hid (CP.out Xs[k] wr HI.out.below)
    have HBad:=Lib.hid (fun hb=>tabs_bad (L:=L) (f:=f) hget HTb.out hb)
    have HNext:=Lib.hid (fun h1 h2=>tabs_next (L:=L) (f:=f) hget HTb.out h1 h2)
    have HVx:=Lib.hid (HV.out _ hmem)
    have HGd:=Lib.hid (Table.parse_good Xs[k].data.toList)
    clear hget hmem
    generalize Xs[k]=s at hc CP1 HBad HNext HVx HGd
    generalize Table.parseOf s.data.toList=pa at CP1 HBad HNext HVx HGd
    obtain ⟨T,fc,fl⟩:=pa
    by_cases hfc : fc=0
    ·subst hfc
     have CP2 : Hid (Calls Tryz.prog 14 #[.string s] wr fun e w'=>∃ b,e=.returned (.tuple #[.pointer (some ⟨b,0,none⟩),.agg #[.int .i64 0,.int .i64 0]])∧Table.TabNew 105 wr w' b T∧Below wr.heap.size wr w'):=CP1.out.mono fun e w' hh=>by
      rcases hh with ⟨h1,⟨_,b,h3,h4⟩ | ⟨h2,_⟩⟩
      ·exact ⟨b,h3,h4,h1⟩
      ·exact absurd rfl h2
     have HG : Hid (Table.Good T):=HGd.out rfl
     clear CP1 HGd
     go_wp2_with (first | (go_at_call 14; refine CP2.out.mono ?_; rintro ee w2 ⟨b,rfl,hn,hb⟩; refine Hid.out ?_) | fail)
     refine Lib.hid ?_
     obtain ⟨q,rfl,rfl,hq⟩:=HI.out.read hb hn HG.out
     have HQ2:=Lib.hid (hq.on (Below.alloc1 w2 (.cells #[.int .i64 0,.int .i64 0] 49)))
     have CV1 : Hid (Calls Tryz.prog 15 #[.pointer (some ⟨q.pb,0,none⟩)] (w2.alloc (.cells #[.int .i64 0,.int .i64 0] 49)) fun e w'=>e=.returned (.bool (valsB L f q.tab))∧Below (w2.alloc (.cells #[.int .i64 0,.int .i64 0] 49)).heap.size (w2.alloc (.cells #[.int .i64 0,.int .i64 0] 49)) w') :=
      CV.out q.pb q.tab _ HQ2.out.inv.below ⟨q.sv,HQ2.out.tab.p,HQ2.out.tab.pr⟩ (Nat.le_trans HG.out.few (by omega)) HVx.out
     clear hq hn hb HVx HI
     generalize hvb : valsB L f q.tab=vb at CV1
     go_wp2_with (first | (go_at_call 15; refine CV1.out.mono ?_; rintro ee w3 ⟨rfl,hb⟩; refine Hid.out ?_) | fail)
     refine Lib.hid ?_
     have HQ3:=Lib.hid (HQ2.out.on hb)
     clear hb
     cases vb with
     | false =>
      have HT2 : Hid (D=(150,[])):=by
       have e:=HD2.out
       rw [HBad.out (fun hh=>by rw [hvb] at hh; exact absurd hh.2 (by simp))] at e
       exact e
      have HB3:=Lib.hid HQ3.out.inv.below
      clear HBad HNext hvb HQ2 CV1
      go_wp2
      go_ret2
      exact ⟨HB3.out,Or.inl ⟨by rw [HT2.out]; decide,by rw [HT2.out]; rfl⟩⟩
     | true =>
      have HTn : Hid (tabsOf L f (Xs.take (k + 1))=some (Es.map Tri.tab++[q.tab])):=HNext.out trivial hvb
      clear HBad HNext hvb HQ2 CV1
      go_wp2_with (first | (at_builtin; refine wp_addT rfl _ _ rfl HQ3.out (by have:=HEk.out; omega) rfl rfl rfl ?_; intro v4 w4 h4; refine Hid.out ?_) | fail)
      refine Lib.hid ?_
      obtain ⟨la2,lc2,rfl,_⟩:=row_form h4.row
      have HI4:=Lib.hid h4
      clear h4 HQ3
      go_wp2
      exact ⟨⟨k + 1,la2,lc2,Es++[q],by omega,by go_num,rfl,by rw [List.length_append]; have:=HEk.out; simp; exact this,HI4.out,by rw [HTn.out,List.map_append]; rfl⟩,by simp [intOf]; omega⟩
    ·have CP2 : Hid (Calls Tryz.prog 14 #[.string s] wr fun e w'=>e=.returned (.tuple #[.pointer none,.agg #[.int .i64 (fc : Int),.int .i64 (fl : Int)]])∧Below wr.heap.size wr w'):=CP1.out.mono fun e w' hh=>by
      rcases hh with ⟨h1,⟨h2,_⟩ | ⟨_,h3⟩⟩
      ·exact absurd h2 hfc
      ·exact ⟨h3,h1⟩
     have HT2 : Hid (D=(150,[])):=by
      have e:=HD2.out
      rw [HBad.out (fun hh=>hfc hh.1)] at e
      exact e
     have e1 : ((fc : Int) != 0)=true:=by rw [bne_iff_ne]; omega
     have HB0:=Lib.hid HI.out.below
     clear CP1 HBad HNext HVx HGd hfc HI
     go_wp2_with (first | (go_at_call 14; refine CP2.out.mono ?_; rintro ee w2 ⟨rfl,hb⟩; refine Hid.out ?_) | fail)
     refine Lib.hid ?_
     have HB2:=Lib.hid (HB0.out.trans (hb.mono HB0.out.size))
     clear hb
     go_wp2
     go_ret2
     exact ⟨below_step HB2.out _,Or.inl ⟨by rw [HT2.out]; decide,by rw [HT2.out]; rfl⟩⟩
   ·have i1 : ¬ (k : Int) < (Xs.length : Int):=by omega
    have HT2 : Hid (D=(0,Es.map Tri.tab)):=by
     have e:=HD2.out
     have e2:=HTb.out
     rw [List.take_of_length_le (by omega)] at e2
     rw [e2] at e
     exact e
    have CJ:=Lib.hid (HI.out.join (by have:=HEk.out; omega))
    have HGd : Hid (∀ T ∈ Es.map Tri.tab,Table.Good T):=fun T hT=>by
     obtain ⟨q,hq,rfl⟩:=List.mem_map.1 hT
     exact (HI.out.tabs q hq).1.good
    have HB0:=Lib.hid HI.out.below
    have h8e : Es.length≤8:=by have:=HEk.out; omega
    clear HI HTb HEk
    go_wp2_with (first | (go_at_call 16; refine CJ.out.mono ?_; rintro ee w2 ⟨rfl,hch,hb⟩; refine Hid.out ?_) | fail)
    refine Lib.hid ?_
    have HB2:=Lib.hid (HB0.out.trans (hb.mono HB0.out.size))
    have HCh:=Lib.hid hch
    clear hch hb
    go_wp2
    go_ret2
    refine ⟨below_step HB2.out _,Or.inr ⟨by rw [HT2.out],_,rfl,⟨⟨_,(MapKept.heap_alloc _ _).1,by rw [HT2.out]; exact HCh.out.on (Below.alloc1 _ _)⟩,by rw [HT2.out]; exact HGd.out,by rw [HT2.out]; show (Es.map Tri.tab).length≤8; rw [List.length_map]; exact h8e⟩,HB2.out.size⟩⟩
 ·have HT2 : Hid (D=(1,[])):=by have e:=HD.out; rw [if_neg hok] at e; exact e
  clear HD hdr
  have fin : ∀ w',Below w.heap.size w w'→NewEnd w host D (.returned (.tuple #[.pointer none,.int .i64 1])) w':=fun w' hb=>⟨hb,Or.inl ⟨by rw [HT2.out]; decide,by rw [HT2.out]⟩⟩
  have HFin:=Lib.hid fin
  clear fin
  by_cases hc : code=0
  ·subst hc
   cases lit with
   | true =>
    clear hok
    go_enter Tryz.func7,Tryz.ntmps7
    go_wp2_with (first | (go_at_call 13; refine C0.out.mono ?_; rintro ee w1 ⟨rfl,hb⟩; refine Hid.out ?_) | fail)
    refine Lib.hid ?_
    have HB1:=Lib.hid hb
    clear hb
    go_wp2
    go_ret2
    exact HFin.out _ HB1.out
   | false =>
    by_cases hd : dd=host
    ·subst hd
     have i8 : (8 : Int) < (Xs.length : Int):=by
      have : ¬ Xs.length≤8:=fun h=>hok ⟨rfl,h⟩
      omega
     clear hok
     go_enter Tryz.func7,Tryz.ntmps7
     go_wp2_with (first | (go_at_call 13; refine C0.out.mono ?_; rintro ee w1 ⟨rfl,hb⟩; refine Hid.out ?_) | fail)
     refine Lib.hid ?_
     have HB1:=Lib.hid hb
     clear hb
     go_wp2
     go_ret2
     exact HFin.out _ HB1.out
    ·have hne:=bytes_ne hd
     clear hok hd
     go_enter Tryz.func7,Tryz.ntmps7
     go_wp2_with (first | (go_at_call 13; refine C0.out.mono ?_; rintro ee w1 ⟨rfl,hb⟩; refine Hid.out ?_) | fail)
     refine Lib.hid ?_
     have HB1:=Lib.hid hb
     clear hb
     go_wp2
     go_ret2
     exact HFin.out _ HB1.out
  ·have e1 : (code != 0)=true:=by rw [bne_iff_ne]; exact hc
   clear hok hc
   go_enter Tryz.func7,Tryz.ntmps7
   go_wp2_with (first | (go_at_call 13; refine C0.out.mono ?_; rintro ee w1 ⟨rfl,hb⟩; refine Hid.out ?_) | fail)
   refine Lib.hid ?_
   have HB1:=Lib.hid hb
   clear hb
   go_wp2
   go_ret2
   exact HFin.out _ HB1.out
end Go.Proofs.YtghnopkgcgfcpaaGreatDoor.Path
set_option maxHeartbeats 16000000
set_option maxRecDepth 100000
namespace Go.Proofs.YtghnopkgcgfcpaaGreatDoor.Path
open Go.RowKit Base
def askR (Ts : List (List Table.KV)) (l d : ByteArray) : Table.Ans:=Table.firstA (fun T=>Table.addrA T l.data.toList d.data.toList) Ts
def fullR (host : ByteArray) (p : PV) : PV:=if p.dom.size=0 then ⟨p.null,p.loc,host,p.lit⟩ else p
def calledR (L : LitF) (f : ByteArray→ByteArray) (host : ByteArray) (Ts : List (List Table.KV)) (p : PV) : PV :=
 if (askR Ts (fullR host p).loc (fullR host p).dom).2=true then (repR L f (fullR host p).loc ⟨(askR Ts (fullR host p).loc (fullR host p).dom).1.toArray⟩).1 else fullR host p
def PvEnd (w : World) (q : PV) (e : Ending) (w' : World) : Prop:=e=.returned q.val∧Below w.heap.size w w'
theorem results_one_path {w : World} {fn : Func} {tmps : Array Value} {i b : Nat} {p : PV} (hr : fn.results=#[ResultVar.cell i 26]) (h1 : tmps.getD i undef=.pointer (some ⟨b,0,none⟩)) (hat : PathAt w b p) :
  (results fn tmps).run Tryz.prog w=.ok p.val w:=by
 have hl:=run_loadVar_row (P:=Tryz.prog) w b 26 26 p.cells.toArray (0,0) _ hat Tryz.underlying26 rfl (by kernel_rfl)
 unfold results
 rw [hr]
 rw [Array.getD_eq_getD_getElem?] at h1
 simp [h1,hl,asAddr,PV.val]
theorem path_two {w : World} {b : Nat} {p : PV} (h : PathAt w b p) (d : ByteArray) : PathAt (w.setCell ⟨b,2,none⟩ (.string d)) b ⟨p.null,p.loc,d,p.lit⟩:=by
 unfold PathAt; rw [heap_setCell_any w b 2 _ _ _ _ h]; rfl
theorem two_paths (w : World) (n : Bool) (l d : ByteArray) (t : Bool) {X : World} (hX : ((w.alloc (Obj.cells #[Value.bool n,Value.string l,Value.string d,Value.bool t] 26)).alloc (Obj.cells #[Value.bool false,Value.string ⟨#[]⟩,Value.string ⟨#[]⟩,Value.bool false] 26))=X) :
  Below w.heap.size w X∧PathAt X w.heap.size ⟨n,l,d,t⟩∧PathAt X (w.heap.size + 1) PV.zero:=by
 subst hX
 have HB0:=Below.alloc1 w (Obj.cells #[Value.bool n,Value.string l,Value.string d,Value.bool t] 26)
 have HP:=(MapKept.heap_alloc w (Obj.cells #[Value.bool n,Value.string l,Value.string d,Value.bool t] 26)).1
 refine ⟨below_step HB0 _,path_alloc (p:=⟨n,l,d,t⟩) HP _,?_⟩
 have e:=(MapKept.heap_alloc (w.alloc (Obj.cells #[Value.bool n,Value.string l,Value.string d,Value.bool t] 26)) (Obj.cells #[Value.bool false,Value.string ⟨#[]⟩,Value.string ⟨#[]⟩,Value.bool false] 26)).1
 rw [alloc_size] at e
 exact e
def CalS (W : World) (P b cb : Nat) (l d : ByteArray) (w' : World) : Prop:=Below W.heap.size W w'∧w'.cell? ⟨P,1,none⟩=some (.string l)∧w'.cell? ⟨P,2,none⟩=some (.string d)∧w'.cell? ⟨b,1,none⟩=some (.pointer (some ⟨cb,0,none⟩))
theorem CalS.drew {W w' : World} {P b cb : Nat} {l d : ByteArray} (h : CalS W P b cb l d w') : CalS W P b cb l d w'.drew:=⟨h.1.drew,h.2⟩
theorem CalS.on {W w' w2 : World} {P b cb : Nat} {l d : ByteArray} (h : CalS W P b cb l d w') (hb : Below w'.heap.size w' w2) : CalS W P b cb l d w2 :=
 ⟨h.1.trans (hb.mono h.1.size),cell_on h.2.1 hb,cell_on h.2.2.1 hb,cell_on h.2.2.2 hb⟩
theorem pCalled {w0 : World} {L : LitF} {f : ByteArray→ByteArray} (hL : LitOk w0 L) (hf : FormOk f) (b : Nat) (host : ByteArray) (Ts : List (List Table.KV)) (p : PV) (w : World) (hE : Below w0.heap.size w0 w) (hC : CanonAt w b host Ts)
  (hl : p.loc.size≤1000000000) (hd : p.dom.size≤1000000000) (hh : host.size≤1000000000) (hV : (askR Ts (fullR host p).loc (fullR host p).dom).2=true→ValOk L ⟨(askR Ts (fullR host p).loc (fullR host p).dom).1.toArray⟩) :
  Calls Tryz.prog 22 #[.pointer (some ⟨b,0,none⟩),p.val] w (PvEnd w (calledR L f host Ts p)):=by
 obtain ⟨D,hD⟩ : ∃ D,D=calledR L f host Ts p:=⟨_,rfl⟩
 rw [← hD]
 obtain ⟨⟨cb,hbx,hch⟩,hgood,hfew⟩:=hC
 obtain ⟨x0,x1,_,_⟩:=two_cells hbx
 have HE0 : Hid (∀ w',Below w.heap.size w w'→Below w0.heap.size w0 w'):=fun w' h=>hE.trans (h.mono hE.size)
 have HBX:=Lib.hid hbx
 have hbw:=heap_lt hbx
 have HA:=Lib.hid (fun (l d : ByteArray) (W : World) (hb : Below w.heap.size w W) (h1 : l.size≤1000000000) (h2 : d.size≤1000000000)=>Table.pCA cb Ts l d W (hch.on hb) (by omega) hgood (by omega) (by omega))
 have HR:=Lib.hid (fun (q : PV) (v : ByteArray) (W : World) (hb : Below w.heap.size w W) (hv : ValOk L v)=>pReplaced hL hf q v W (hE.trans (hb.mono hE.size)) hv)
 clear hbx hch hgood hE hL hf
 unfold calledR at hD
 obtain ⟨n0,l0,d0,t0⟩:=p
 have hl : l0.size≤1000000000:=hl
 have hd : d0.size≤1000000000:=hd
 show Calls Tryz.prog 22 #[.pointer (some ⟨b,0,none⟩),.agg #[.bool n0,.string l0,.string d0,.bool t0]] w (PvEnd w D)
 by_cases h0 : d0.size=0
 ·obtain rfl:=str_empty h0
  have hfull : fullR host ⟨n0,l0,⟨#[]⟩,t0⟩=⟨n0,l0,host,t0⟩:=rfl
  rw [hfull] at hD hV
  go_enter Tryz.func22,Tryz.ntmps22
  go_upto_region 3 with fail
  generalize hX : ((w.alloc (Obj.cells #[Value.bool n0,Value.string l0,Value.string host,Value.bool t0] 26)).alloc (Obj.cells #[Value.bool false,Value.string ⟨#[]⟩,Value.string ⟨#[]⟩,Value.bool false] 26))=X
  obtain ⟨hbx,hpx,hzx⟩:=two_paths w n0 l0 host t0 hX
  have HBX1:=Lib.hid hbx
  have HPX:=Lib.hid hpx
  have HZX:=Lib.hid hzx
  have k1 : X.cell? ⟨b,1,none⟩=some (.pointer (some ⟨cb,0,none⟩)):=cell_on x1 hbx
  obtain ⟨c0,c1,c2,c3,f0,f1,f2,f3⟩:=four_cells hpx
  have HS0 : Hid (CalS X w.heap.size b cb l0 host X):=⟨Below.refl _ _,c1,c2,k1⟩
  clear hbx hpx hzx hX c0 c3 f0 f1 f2 f3
  have HA1:=Lib.hid (fun (W : World) (hb : CalS X w.heap.size b cb l0 host W)=>HA.out l0 host W (HBX1.out.trans (hb.1.mono HBX1.out.size)) (by omega) (by omega))
  have HR1:=Lib.hid (fun (q : PV) (W : World) (hb : Below w.heap.size w W) (hv : (askR Ts l0 host).2=true)=>HR.out q ⟨(askR Ts l0 host).1.toArray⟩ W hb (hV hv))
  have HD1 : Hid (D=if (askR Ts l0 host).2=true then (repR L f l0 ⟨(askR Ts l0 host).1.toArray⟩).1 else ⟨n0,l0,host,t0⟩):=hD
  clear hD hV HR HA
  have HA2 : Hid (∀ W,CalS X w.heap.size b cb l0 host W→Calls Tryz.prog 54 #[.pointer (some ⟨cb,0,none⟩),.string l0,.string host] W fun e w'=>e=.returned (.tuple #[.string ⟨(askR Ts l0 host).1.toArray⟩,.bool (askR Ts l0 host).2])∧Below W.heap.size W w'):=HA1.out
  generalize askR Ts l0 host=an at HA2 HR1 HD1
  obtain ⟨vl,is⟩:=an
  clear HA1
  go_region_held3 (fun w'=>Below X.heap.size X w'∧w'.cell? ⟨w.heap.size,1,none⟩=some (.string l0)∧w'.cell? ⟨w.heap.size,2,none⟩=some (.string host)∧w'.cell? ⟨b,1,none⟩=some (.pointer (some ⟨cb,0,none⟩)))
   (first | exact CalS.drew HS0.out | exact CalS.on (by assumption) hb | fail)
   (first | (go_at_call 54; refine (HA2.out _ (by assumption)).mono ?_; rintro e wn ⟨rfl,hb⟩) | fail)
  have hh : CalS X w.heap.size b cb l0 host wn:=by assumption
  have HBn : Hid (Below w.heap.size w wn):=HBX1.out.trans (hh.1.mono HBX1.out.size)
  have p1 : PathAt wn w.heap.size ⟨n0,l0,host,t0⟩:=(hh.1.block _ (heap_lt HPX.out)).trans HPX.out
  have z1 : PathAt wn (w.heap.size + 1) PV.zero:=(hh.1.block _ (heap_lt HZX.out)).trans HZX.out
  have HZn:=Lib.hid z1
  obtain ⟨c0,c1,c2,c3,f0,f1,f2,f3⟩:=four_cells p1
  obtain ⟨y0,y1,y2,y3,g0,g1,g2,g3⟩:=four_cells z1
  clear hh HPX HZX HS0 HA2 p1 z1 hb k1
  cases is with
  | false =>
   have HT : Hid (D=⟨n0,l0,host,t0⟩):=HD1.out
   clear HR1 HD1
   go_wp2
   refine bodyPost_ret (results_one_path (p:=⟨n0,l0,host,t0⟩) Tryz.results22 rfl (path_four HZn.out ⟨n0,l0,host,t0⟩)) rfl ?_
   rw [HT.out]
   exact ⟨rfl,below_four _ (by omega) HBn.out _ _ _ _⟩
  | true =>
   have HT : Hid (D=(repR L f l0 ⟨vl.toArray⟩).1):=HD1.out
   have C2 : Hid (Calls Tryz.prog 44 #[.agg #[.bool n0,.string l0,.string host,.bool t0],.string ⟨vl.toArray⟩] wn (RepEnd wn (repR L f l0 ⟨vl.toArray⟩))):=HR1.out ⟨n0,l0,host,t0⟩ wn HBn.out rfl
   clear HR1 HD1
   generalize repR L f l0 ⟨vl.toArray⟩=r at C2 HT
   obtain ⟨⟨n,l,d,t⟩,bb⟩:=r
   have C2 : Hid (Calls Tryz.prog 44 #[.agg #[.bool n0,.string l0,.string host,.bool t0],.string ⟨vl.toArray⟩] wn fun e w'=>e=.returned (.tuple #[.agg #[.bool n,.string l,.string d,.bool t],.bool bb])∧Below wn.heap.size wn w'):=C2
   have HT : Hid (D=⟨n,l,d,t⟩):=HT
   go_wp2_with (first | (go_at_call 44; refine C2.out.mono ?_; rintro ee w5 ⟨rfl,hb⟩; refine Hid.out ?_) | fail)
   refine Lib.hid ?_
   have HB5 : Hid (Below w.heap.size w w5):=HBn.out.trans (hb.mono HBn.out.size)
   have z5:=HZn.out.on hb
   have HZ5:=Lib.hid z5
   have hlt5:=heap_lt z5
   have ne1 : ¬ w5.heap.size=w.heap.size + 1:=by omega
   have ne2 : ¬ w.heap.size + 1=w5.heap.size:=by omega
   clear c0 c1 c2 c3 f0 f1 f2 f3 y0 y1 y2 y3 g0 g1 g2 g3
   obtain ⟨y0,y1,y2,y3,g0,g1,g2,g3⟩:=four_cells z5
   clear hb z5 C2 HBn HZn
   go_wp2
   refine bodyPost_ret (results_one_path (p:=⟨n,l,d,t⟩) Tryz.results22 rfl (path_alloc (path_four HZ5.out ⟨n,l,d,t⟩) _)) rfl ?_
   rw [HT.out]
   exact ⟨rfl,below_step (below_four _ (by omega) HB5.out _ _ _ _) _⟩
 ·obtain ⟨hn1,hn2⟩:=str_ne h0
  have hfull : fullR host ⟨n0,l0,d0,t0⟩=⟨n0,l0,d0,t0⟩:=by unfold fullR; rw [if_neg h0]
  rw [hfull] at hD hV
  clear h0
  go_enter Tryz.func22,Tryz.ntmps22
  go_upto_region 3 with fail
  generalize hX : ((w.alloc (Obj.cells #[Value.bool n0,Value.string l0,Value.string d0,Value.bool t0] 26)).alloc (Obj.cells #[Value.bool false,Value.string ⟨#[]⟩,Value.string ⟨#[]⟩,Value.bool false] 26))=X
  obtain ⟨hbx,hpx,hzx⟩:=two_paths w n0 l0 d0 t0 hX
  have HBX1:=Lib.hid hbx
  have HPX:=Lib.hid hpx
  have HZX:=Lib.hid hzx
  have k1 : X.cell? ⟨b,1,none⟩=some (.pointer (some ⟨cb,0,none⟩)):=cell_on x1 hbx
  obtain ⟨c0,c1,c2,c3,f0,f1,f2,f3⟩:=four_cells hpx
  have HS0 : Hid (CalS X w.heap.size b cb l0 d0 X):=⟨Below.refl _ _,c1,c2,k1⟩
  clear hbx hpx hzx hX c0 c3 f0 f1 f2 f3
  have HA1:=Lib.hid (fun (W : World) (hb : CalS X w.heap.size b cb l0 d0 W)=>HA.out l0 d0 W (HBX1.out.trans (hb.1.mono HBX1.out.size)) (by omega) (by omega))
  have HR1:=Lib.hid (fun (q : PV) (W : World) (hb : Below w.heap.size w W) (hv : (askR Ts l0 d0).2=true)=>HR.out q ⟨(askR Ts l0 d0).1.toArray⟩ W hb (hV hv))
  have HD1 : Hid (D=if (askR Ts l0 d0).2=true then (repR L f l0 ⟨(askR Ts l0 d0).1.toArray⟩).1 else ⟨n0,l0,d0,t0⟩):=hD
  clear hD hV HR HA
  have HA2 : Hid (∀ W,CalS X w.heap.size b cb l0 d0 W→Calls Tryz.prog 54 #[.pointer (some ⟨cb,0,none⟩),.string l0,.string d0] W fun e w'=>e=.returned (.tuple #[.string ⟨(askR Ts l0 d0).1.toArray⟩,.bool (askR Ts l0 d0).2])∧Below W.heap.size W w'):=HA1.out
  generalize askR Ts l0 d0=an at HA2 HR1 HD1
  obtain ⟨vl,is⟩:=an
  clear HA1
  go_region_held3 (fun w'=>Below X.heap.size X w'∧w'.cell? ⟨w.heap.size,1,none⟩=some (.string l0)∧w'.cell? ⟨w.heap.size,2,none⟩=some (.string d0)∧w'.cell? ⟨b,1,none⟩=some (.pointer (some ⟨cb,0,none⟩)))
   (first | exact CalS.drew HS0.out | exact CalS.on (by assumption) hb | fail)
   (first | (go_at_call 54; refine (HA2.out _ (by assumption)).mono ?_; rintro e wn ⟨rfl,hb⟩) | fail)
  have hh : CalS X w.heap.size b cb l0 d0 wn:=by assumption
  have HBn : Hid (Below w.heap.size w wn):=HBX1.out.trans (hh.1.mono HBX1.out.size)
  have p1 : PathAt wn w.heap.size ⟨n0,l0,d0,t0⟩:=(hh.1.block _ (heap_lt HPX.out)).trans HPX.out
  have z1 : PathAt wn (w.heap.size + 1) PV.zero:=(hh.1.block _ (heap_lt HZX.out)).trans HZX.out
  have HZn:=Lib.hid z1
  obtain ⟨c0,c1,c2,c3,f0,f1,f2,f3⟩:=four_cells p1
  obtain ⟨y0,y1,y2,y3,g0,g1,g2,g3⟩:=four_cells z1
  clear hh HPX HZX HS0 HA2 p1 z1 hb k1
  cases is with
  | false =>
   have HT : Hid (D=⟨n0,l0,d0,t0⟩):=HD1.out
   clear HR1 HD1
   go_wp2
   refine bodyPost_ret (results_one_path (p:=⟨n0,l0,d0,t0⟩) Tryz.results22 rfl (path_four HZn.out ⟨n0,l0,d0,t0⟩)) rfl ?_
   rw [HT.out]
   exact ⟨rfl,below_four _ (by omega) HBn.out _ _ _ _⟩
  | true =>
   have HT : Hid (D=(repR L f l0 ⟨vl.toArray⟩).1):=HD1.out
   have C2 : Hid (Calls Tryz.prog 44 #[.agg #[.bool n0,.string l0,.string d0,.bool t0],.string ⟨vl.toArray⟩] wn (RepEnd wn (repR L f l0 ⟨vl.toArray⟩))):=HR1.out ⟨n0,l0,d0,t0⟩ wn HBn.out rfl
   clear HR1 HD1
   generalize repR L f l0 ⟨vl.toArray⟩=r at C2 HT
   obtain ⟨⟨n,l,d,t⟩,bb⟩:=r
   have C2 : Hid (Calls Tryz.prog 44 #[.agg #[.bool n0,.string l0,.string d0,.bool t0],.string ⟨vl.toArray⟩] wn fun e w'=>e=.returned (.tuple #[.agg #[.bool n,.string l,.string d,.bool t],.bool bb])∧Below wn.heap.size wn w'):=C2
   have HT : Hid (D=⟨n,l,d,t⟩):=HT
   go_wp2_with (first | (go_at_call 44; refine C2.out.mono ?_; rintro ee w5 ⟨rfl,hb⟩; refine Hid.out ?_) | fail)
   refine Lib.hid ?_
   have HB5 : Hid (Below w.heap.size w w5):=HBn.out.trans (hb.mono HBn.out.size)
   have z5:=HZn.out.on hb
   have HZ5:=Lib.hid z5
   have hlt5:=heap_lt z5
   have ne1 : ¬ w5.heap.size=w.heap.size + 1:=by omega
   have ne2 : ¬ w.heap.size + 1=w5.heap.size:=by omega
   clear c0 c1 c2 c3 f0 f1 f2 f3 y0 y1 y2 y3 g0 g1 g2 g3
   obtain ⟨y0,y1,y2,y3,g0,g1,g2,g3⟩:=four_cells z5
   clear hb z5 C2 HBn HZn
   go_wp2
   refine bodyPost_ret (results_one_path (p:=⟨n,l,d,t⟩) Tryz.results22 rfl (path_alloc (path_four HZ5.out ⟨n,l,d,t⟩) _)) rfl ?_
   rw [HT.out]
   exact ⟨rfl,below_step (below_four _ (by omega) HB5.out _ _ _ _) _⟩
end Go.Proofs.YtghnopkgcgfcpaaGreatDoor.Path
set_option maxHeartbeats 16000000
set_option maxRecDepth 100000
namespace Go.Proofs.YtghnopkgcgfcpaaGreatDoor.Path
open Go.RowKit Base
def canonR (L : LitF) (f : ByteArray→ByteArray) (host : ByteArray) (Ts : List (List Table.KV)) (p : PV) : PV :=
 if p.null=true∨p.lit=true∨rightR L f p ≠ 0 then p else if rightR L f (calledR L f host Ts p) ≠ 0 then p else calledR L f host Ts p
def CloS (W : World) (P : Nat) (p : PV) (w' : World) : Prop:=(Below W.heap.size W w'∧W.heap.size≤P∧PathAt w' P p∧PathAt w' (P + 1) PV.zero)∧w'.cell? ⟨P,1,none⟩=some (.string p.loc)∧w'.cell? ⟨P,2,none⟩=some (.string p.dom)∧w'.frozen? ⟨P,1,none⟩=false∧w'.frozen? ⟨P,2,none⟩=false
theorem CloS.of {W w' : World} {P : Nat} {p : PV} (hb : Below W.heap.size W w') (hP : W.heap.size≤P) (h : PathAt w' P p) (hz : PathAt w' (P + 1) PV.zero) : CloS W P p w':=by
 obtain ⟨_,c1,c2,_,_,f1,f2,_⟩:=four_cells h
 exact ⟨⟨hb,hP,h,hz⟩,c1,c2,f1,f2⟩
theorem CloS.drew {W w' : World} {P : Nat} {p : PV} (h : CloS W P p w') : CloS W P p w'.drew:=⟨⟨h.1.1.drew,h.1.2.1,h.1.2.2⟩,h.2⟩
theorem CloS.on {W w' w2 : World} {P : Nat} {p : PV} (h : CloS W P p w') (hb : Below w'.heap.size w' w2) : CloS W P p w2:=CloS.of (h.1.1.trans (hb.mono h.1.1.size)) h.1.2.1 (h.1.2.2.1.on hb) (h.1.2.2.2.on hb)
theorem CloS.set1 {W w' : World} {P : Nat} {p : PV} (h : CloS W P p w') : CloS W P p (w'.setCell ⟨P,1,none⟩ (.string p.loc)):=CloS.of (h.1.1.setCell (p:=⟨P,1,none⟩) h.1.2.1 _) h.1.2.1 (path_one h.1.2.2.1 p.loc) (((KeepX.set P w' 1 _).block _ (heap_lt h.1.2.2.2) (by omega)).trans h.1.2.2.2)
theorem CloS.set2 {W w' : World} {P : Nat} {p : PV} (h : CloS W P p w') : CloS W P p (w'.setCell ⟨P,2,none⟩ (.string p.dom)):=CloS.of (h.1.1.setCell (p:=⟨P,2,none⟩) h.1.2.1 _) h.1.2.1 (path_two h.1.2.2.1 p.dom) (((KeepX.set P w' 2 _).block _ (heap_lt h.1.2.2.2) (by omega)).trans h.1.2.2.2)
theorem pPathC {w0 : World} {L : LitF} {f : ByteArray→ByteArray} (hL : LitOk w0 L) (hf : FormOk f) (b : Nat) (host : ByteArray) (Ts : List (List Table.KV)) (p : PV) (w : World) (hE : Below w0.heap.size w0 w) (hC : CanonAt w b host Ts)
  (hl : p.loc.size≤1000000000) (hd : p.dom.size≤1000000000) (hh : host.size≤1000000000) (hV : (askR Ts (fullR host p).loc (fullR host p).dom).2=true→ValOk L ⟨(askR Ts (fullR host p).loc (fullR host p).dom).1.toArray⟩)
  (hql : (calledR L f host Ts p).loc.size≤1000000000) (hqd : (calledR L f host Ts p).dom.size≤1000000000) :
  Calls Tryz.prog 9 #[.pointer (some ⟨b,0,none⟩),p.val] w (PvEnd w (canonR L f host Ts p)):=by
 obtain ⟨D,hD⟩ : ∃ D,D=canonR L f host Ts p:=⟨_,rfl⟩
 rw [← hD]
 have hCon : ∀ W,Below w.heap.size w W→CanonAt W b host Ts:=fun W hb=>by
  obtain ⟨⟨cb,hbx,hch⟩,hgood,hfew⟩:=hC
  exact ⟨⟨cb,(hb.block _ (heap_lt hbx)).trans hbx,hch.on hb⟩,hgood,hfew⟩
 have HR:=Lib.hid (fun (W : World) (hb : Below w.heap.size w W)=>pRight hL hf p W (hE.trans (hb.mono hE.size)) hl hd)
 have HCa:=Lib.hid (fun (W : World) (hb : Below w.heap.size w W)=>pCalled hL hf b host Ts p W (hE.trans (hb.mono hE.size)) (hCon W hb) hl hd hh hV)
 have HRq:=Lib.hid (fun (W : World) (hb : Below w.heap.size w W)=>pRight hL hf (calledR L f host Ts p) W (hE.trans (hb.mono hE.size)) hql hqd)
 have HD : Hid (D=if p.null=true∨p.lit=true∨rightR L f p ≠ 0 then p else if rightR L f (calledR L f host Ts p) ≠ 0 then p else calledR L f host Ts p):=hD
 have HCl:=Lib.hid (fun (s : ByteArray) (w3 : World) (h : Hid (s.size≤1000000000))=>pClone s w3 (by have:=h.out; omega))
 have HZ1 : Hid (p.loc.size≤1000000000):=hl
 have HZ2 : Hid (p.dom.size≤1000000000):=hd
 clear hD hE hL hf hC hCon hV hl hd hql hqd
 generalize rightR L f (calledR L f host Ts p)=rq at HRq HD
 generalize calledR L f host Ts p=q at HCa HRq HD
 generalize rightR L f p=rp at HR HD
 obtain ⟨n0,l0,d0,t0⟩:=p
 obtain ⟨n,l,d,t⟩:=q
 have HZ1 : Hid (l0.size≤1000000000):=HZ1
 have HZ2 : Hid (d0.size≤1000000000):=HZ2
 show Calls Tryz.prog 9 #[.pointer (some ⟨b,0,none⟩),.agg #[.bool n0,.string l0,.string d0,.bool t0]] w (PvEnd w D)
 have HR : Hid (∀ W,Below w.heap.size w W→Calls Tryz.prog 21 #[.agg #[.bool n0,.string l0,.string d0,.bool t0]] W fun e w'=>e=.returned (.int .i64 rp)∧Below W.heap.size W w'):=HR
 have HRq : Hid (∀ W,Below w.heap.size w W→Calls Tryz.prog 21 #[.agg #[.bool n,.string l,.string d,.bool t]] W fun e w'=>e=.returned (.int .i64 rq)∧Below W.heap.size W w'):=HRq
 have HCa : Hid (∀ W,Below w.heap.size w W→Calls Tryz.prog 22 #[.pointer (some ⟨b,0,none⟩),.agg #[.bool n0,.string l0,.string d0,.bool t0]] W fun e w'=>e=.returned (.agg #[.bool n,.string l,.string d,.bool t])∧Below W.heap.size W w'):=HCa
 have HCl : Hid (∀ (s : ByteArray) (w3 : World),Hid (s.size≤1000000000)→Calls Tryz.prog 20 #[.string s] w3 fun e w'=>e=.returned (.string s)∧Below w3.heap.size w3 w'):=HCl
 have HD : Hid (D=if n0=true∨t0=true∨rp ≠ 0 then ⟨n0,l0,d0,t0⟩ else if rq ≠ 0 then ⟨n0,l0,d0,t0⟩ else ⟨n,l,d,t⟩):=HD
 go_enter Tryz.func9,Tryz.ntmps9
 go_upto_region 1 with fail
 generalize hX : ((w.alloc (Obj.cells #[Value.bool n0,Value.string l0,Value.string d0,Value.bool t0] 26)).alloc (Obj.cells #[Value.bool false,Value.string ⟨#[]⟩,Value.string ⟨#[]⟩,Value.bool false] 26))=X
 obtain ⟨hbx,hpx,hzx⟩:=two_paths w n0 l0 d0 t0 hX
 have hs0 : CloS w w.heap.size ⟨n0,l0,d0,t0⟩ X:=CloS.of hbx (Nat.le_refl _) hpx hzx
 have HS0:=Lib.hid hs0
 obtain ⟨_,c1,c2,f1,f2⟩:=hs0
 clear hbx hpx hzx hX
 go_region_held3 (fun w'=>(Below w.heap.size w w'∧w.heap.size≤w.heap.size∧PathAt w' w.heap.size ⟨n0,l0,d0,t0⟩∧PathAt w' (w.heap.size + 1) PV.zero)∧w'.cell? ⟨w.heap.size,1,none⟩=some (.string l0)∧w'.cell? ⟨w.heap.size,2,none⟩=some (.string d0)∧w'.frozen? ⟨w.heap.size,1,none⟩=false∧w'.frozen? ⟨w.heap.size,2,none⟩=false)
  (first | exact CloS.drew HS0.out | exact CloS.on (by assumption) hb | exact CloS.set1 (by assumption) | exact CloS.set2 (by assumption) | fail)
  (first | (go_at_call 20; refine (HCl.out _ _ (by first | exact HZ1 | exact HZ2)).mono ?_; rintro e wz ⟨rfl,hb⟩) | fail)
 have hh : CloS w w.heap.size ⟨n0,l0,d0,t0⟩ ((wz.setCell ⟨w.heap.size,1,none⟩ (.string l0)).setCell ⟨w.heap.size,2,none⟩ (.string d0)):=by first | assumption | exact CloS.set2 (by assumption) | exact CloS.set2 (CloS.set1 (by assumption))
 generalize ((wz.setCell ⟨w.heap.size,1,none⟩ (.string l0)).setCell ⟨w.heap.size,2,none⟩ (.string d0))=wx at hh ⊢
 obtain ⟨⟨hbx,_,hpx,hzx⟩,_⟩:=hh
 have HB0:=Lib.hid hbx
 have HP0:=Lib.hid hpx
 have HZ0:=Lib.hid hzx
 obtain ⟨p0,p1,p2,p3,r0,r1,r2,r3⟩:=four_cells hpx
 obtain ⟨y0,y1,y2,y3,g0,g1,g2,g3⟩:=four_cells hzx
 clear hbx hpx hzx HS0 HCl HZ1 HZ2 hb c1 c2 f1 f2
 cases n0 with
 | true =>
  have HT : Hid (D=⟨true,l0,d0,t0⟩):=by have e:=HD.out; rw [if_pos (Or.inl rfl)] at e; exact e
  clear HD HR HCa HRq
  go_wp2
  refine bodyPost_ret (results_one_path (p:=⟨true,l0,d0,t0⟩) Tryz.results9 rfl (path_four HZ0.out ⟨true,l0,d0,t0⟩)) rfl ?_
  rw [HT.out]
  exact ⟨rfl,below_four _ (by omega) HB0.out _ _ _ _⟩
 | false =>
  cases t0 with
  | true =>
   have HT : Hid (D=⟨false,l0,d0,true⟩):=by have e:=HD.out; rw [if_pos (Or.inr (Or.inl rfl))] at e; exact e
   clear HD HR HCa HRq
   go_wp2
   refine bodyPost_ret (results_one_path (p:=⟨false,l0,d0,true⟩) Tryz.results9 rfl (path_four HZ0.out ⟨false,l0,d0,true⟩)) rfl ?_
   rw [HT.out]
   exact ⟨rfl,below_four _ (by omega) HB0.out _ _ _ _⟩
  | false =>
   go_wp2_with (first | (go_at_call 21; refine (HR.out _ HB0.out).mono ?_; rintro ee w2 ⟨rfl,hb⟩; refine Hid.out ?_) | fail)
   refine Lib.hid ?_
   have HB2 : Hid (Below w.heap.size w w2):=HB0.out.trans (hb.mono HB0.out.size)
   have p2':=HP0.out.on hb
   have z2':=HZ0.out.on hb
   have HP2:=Lib.hid p2'
   have HZ2:=Lib.hid z2'
   clear p0 p1 p2 p3 r0 r1 r2 r3 y0 y1 y2 y3 g0 g1 g2 g3
   obtain ⟨p0,p1,p2,p3,r0,r1,r2,r3⟩:=four_cells p2'
   obtain ⟨y0,y1,y2,y3,g0,g1,g2,g3⟩:=four_cells z2'
   clear hb p2' z2' HB0 HP0 HZ0
   by_cases hrp : rp=0
   ·subst hrp
    have HD2 : Hid (D=if rq ≠ 0 then ⟨false,l0,d0,false⟩ else ⟨n,l,d,t⟩):=by have e:=HD.out; rw [if_neg (by simp)] at e; exact e
    clear HD HR
    go_wp2_with (first | (go_at_call 22; refine (HCa.out _ HB2.out).mono ?_; rintro ee w3 ⟨rfl,hb⟩; refine Hid.out ?_) | fail)
    refine Lib.hid ?_
    have HB3 : Hid (Below w.heap.size w w3):=HB2.out.trans (hb.mono HB2.out.size)
    have HBq:=Lib.hid (below_step HB3.out (Obj.cells #[Value.bool n,Value.string l,Value.string d,Value.bool t] 26))
    have p3':=HP2.out.on hb
    have z3':=HZ2.out.on hb
    have hqa : PathAt (w3.alloc (Obj.cells #[Value.bool n,Value.string l,Value.string d,Value.bool t] 26)) w3.heap.size ⟨n,l,d,t⟩:=(MapKept.heap_alloc w3 _).1
    have HP3:=Lib.hid (path_alloc p3' (Obj.cells #[Value.bool n,Value.string l,Value.string d,Value.bool t] 26))
    have HZ3:=Lib.hid (path_alloc z3' (Obj.cells #[Value.bool n,Value.string l,Value.string d,Value.bool t] 26))
    have HQ3:=Lib.hid hqa
    clear p0 p1 p2 p3 r0 r1 r2 r3 y0 y1 y2 y3 g0 g1 g2 g3 hb p3' z3' hqa HB2 HP2 HZ2 HCa
    go_wp2_with (first | (go_at_call 21; refine (HRq.out _ HBq.out).mono ?_; rintro ee w4 ⟨rfl,hb⟩; refine Hid.out ?_) | fail)
    refine Lib.hid ?_
    have HB4 : Hid (Below w.heap.size w w4):=HBq.out.trans (hb.mono HBq.out.size)
    have p4':=HP3.out.on hb
    have z4':=HZ3.out.on hb
    have q4':=HQ3.out.on hb
    have HZ4:=Lib.hid z4'
    obtain ⟨p0,p1,p2,p3,r0,r1,r2,r3⟩:=four_cells p4'
    obtain ⟨y0,y1,y2,y3,g0,g1,g2,g3⟩:=four_cells z4'
    obtain ⟨q0,q1,q2,q3,s0,s1,s2,s3⟩:=four_cells q4'
    clear hb p4' z4' q4' HBq HP3 HZ3 HQ3 HB3 HRq
    by_cases hrq : rq=0
    ·subst hrq
     have HT : Hid (D=⟨n,l,d,t⟩):=by have e:=HD2.out; rw [if_neg (by simp)] at e; exact e
     clear HD2
     go_wp2
     refine bodyPost_ret (results_one_path (p:=⟨n,l,d,t⟩) Tryz.results9 rfl (path_four HZ4.out ⟨n,l,d,t⟩)) rfl ?_
     rw [HT.out]
     exact ⟨rfl,below_four _ (by omega) HB4.out _ _ _ _⟩
    ·have e1 : (rq != 0)=true:=by rw [bne_iff_ne]; exact hrq
     have HT : Hid (D=⟨false,l0,d0,false⟩):=by have e:=HD2.out; rw [if_pos hrq] at e; exact e
     clear HD2 hrq
     go_wp2
     refine bodyPost_ret (results_one_path (p:=⟨false,l0,d0,false⟩) Tryz.results9 rfl (path_four HZ4.out ⟨false,l0,d0,false⟩)) rfl ?_
     rw [HT.out]
     exact ⟨rfl,below_four _ (by omega) HB4.out _ _ _ _⟩
   ·have e1 : (rp != 0)=true:=by rw [bne_iff_ne]; exact hrp
    have HT : Hid (D=⟨false,l0,d0,false⟩):=by have e:=HD.out; rw [if_pos (Or.inr (Or.inr hrp))] at e; exact e
    clear HD HCa HRq hrp
    go_wp2
    refine bodyPost_ret (results_one_path (p:=⟨false,l0,d0,false⟩) Tryz.results9 rfl (path_four HZ2.out ⟨false,l0,d0,false⟩)) rfl ?_
    rw [HT.out]
    exact ⟨rfl,below_four _ (by omega) HB2.out _ _ _ _⟩
end Go.Proofs.YtghnopkgcgfcpaaGreatDoor.Path
namespace Go.Proofs.YtghnopkgcgfcpaaGreatDoor.Path
open Go.RowKit Base
def hostA : ByteArray:=⟨#[109,120,46,101,120,97,109,112,108,101]⟩
def textA : ByteArray:=⟨#[97,64,120,46,101,120,97,109,112,108,101,32,98,64,121,46,101,120,97,109,112,108,101,10]⟩
def keyA : List UInt8:=[97,64,120,46,101,120,97,109,112,108,101]
def valA : List UInt8:=[98,64,121,46,101,120,97,109,112,108,101]
def fromA : PV:=⟨false,⟨#[97]⟩,⟨#[120,46,101,120,97,109,112,108,101]⟩,false⟩
def toA : PV:=⟨false,⟨#[98]⟩,⟨#[121,46,101,120,97,109,112,108,101]⟩,false⟩
theorem dom_host : domR litL hostA=(hostA,false,0):=by kernel_rfl
theorem parse_text : Table.parseOf textA.data.toList=([(keyA,valA)],0,25):=by kernel_rfl
theorem rep_val (l : ByteArray) : repR litL locF l ⟨valA.toArray⟩=(toA,true):=by kernel_rfl
theorem vals_a : valsB litL locF [(keyA,valA)]=true:=by
 show ((repR litL locF ⟨#[]⟩ ⟨valA.toArray⟩).2 && true)=true
 rw [rep_val]; rfl
theorem new_a : newR litL locF hostA [textA]=(0,[[(keyA,valA)]]):=by
 unfold newR
 rw [if_pos ⟨dom_host,by decide⟩]
 have e : tabsOf litL locF [textA]=some [[(keyA,valA)]]:=by
  unfold tabsOf
  rw [parse_text,if_pos ⟨rfl,vals_a⟩]
  rfl
 rw [e]
theorem full_a : fullR hostA fromA=fromA:=by kernel_rfl
theorem ask_a : askR [[(keyA,valA)]] fromA.loc fromA.dom=(valA,true):=by kernel_rfl
theorem called_a : calledR litL locF hostA [[(keyA,valA)]] fromA=toA:=by
 unfold calledR
 rw [full_a,ask_a,if_pos rfl,rep_val]
theorem right_from : rightR litL locF fromA=0:=by kernel_rfl
theorem right_to : rightR litL locF toA=0:=by kernel_rfl
theorem canon_a : canonR litL locF hostA [[(keyA,valA)]] fromA=toA:=by
 unfold canonR
 rw [if_neg (by rw [right_from]; decide),called_a,if_neg (by rw [right_to]; decide)]
theorem tak_a : tak litL ⟨valA.toArray⟩=(true,toA):=by kernel_rfl
theorem val_a : ValOk litL ⟨valA.toArray⟩:=⟨by decide,by rw [tak_a]; decide,by rw [tak_a]; decide⟩
end Go.Proofs.YtghnopkgcgfcpaaGreatDoor.Path
set_option maxHeartbeats 16000000
set_option maxRecDepth 100000
namespace Go.Proofs.YtghnopkgcgfcpaaGreatDoor.Path
open Go.RowKit Base
structure EnvC (w : World) : Prop where
 lit : EnvL w
 max : Table.MaxOk w
theorem EnvC.on {w w' : World} (h : EnvC w) (hb : Below w.heap.size w w') : EnvC w':=⟨h.lit.on hb,h.max.on hb⟩
theorem new_a_calls (w : World) (he : EnvC w) : Calls Tryz.prog 7 #[.string hostA,.slice (some ⟨w.heap.size,0,none⟩) 1 1] (w.alloc (.cells #[.string textA] 9)) fun e w'=>∃ b,e=.returned (.tuple #[.pointer (some ⟨b,0,none⟩),.int .i64 0])∧CanonAt w' b hostA [[(keyA,valA)]]∧Below w.heap.size w w':=by
 have hb:=Below.alloc1 w (.cells #[.string textA] 9)
 have hp:=(MapKept.heap_alloc w (.cells #[.string textA] 9)).1
 have hn:=pNew (lit_ok he.lit) locF_ok hostA (some ⟨w.heap.size,0,none⟩) 1 [textA] _ hb (he.max.on hb) (by decide) (fun i s hs=>by
  have hi : i=0:=by
   have:=(List.getElem?_eq_some_iff.1 hs).1
   simp at this; exact this
  subst hi
  cases hs
  exact ⟨w.heap.size,0,rfl,by unfold World.cell?; rw [hp]; rfl⟩) (by decide) (fun s hs p hp=>by
  rw [List.mem_singleton.1 hs,parse_text] at hp
  rw [List.mem_singleton.1 hp]
  exact val_a)
 rw [new_a] at hn
 refine hn.mono fun e w' hh=>?_
 rcases hh with ⟨h1,⟨h2,_⟩ | ⟨_,b,h3,h4,_⟩⟩
 ·exact absurd rfl h2
 ·exact ⟨b,h3,h4,hb.trans (h1.mono hb.size)⟩
theorem path_a_calls (w0 w : World) (he : EnvC w0) (hb : Below w0.heap.size w0 w) (b : Nat) (hC : CanonAt w b hostA [[(keyA,valA)]]) : Calls Tryz.prog 9 #[.pointer (some ⟨b,0,none⟩),fromA.val] w fun e w'=>e=.returned toA.val∧Below w.heap.size w w':=by
 have h:=pPathC (lit_ok he.lit) locF_ok b hostA [[(keyA,valA)]] fromA w hb hC (by decide) (by decide) (by decide) (fun _=>by rw [full_a,ask_a]; exact val_a) (by rw [called_a]; decide) (by rw [called_a]; decide)
 rw [canon_a] at h
 exact h
theorem wAwake (w : World) (he : EnvC w) : Calls Tryz.prog 6 #[] w fun e w'=>e=.returned (.bool true)∧Below w.heap.size w w':=by
 have C1 : Hid (Calls Tryz.prog 7 #[.string ⟨#[109,120,46,101,120,97,109,112,108,101]⟩,.slice (some ⟨w.heap.size,0,none⟩) 1 1] (w.alloc (.cells #[.string ⟨#[97,64,120,46,101,120,97,109,112,108,101,32,98,64,121,46,101,120,97,109,112,108,101,10]⟩] 9)) fun e w'=>∃ b,e=.returned (.tuple #[.pointer (some ⟨b,0,none⟩),.int .i64 0])∧CanonAt w' b hostA [[(keyA,valA)]]∧Below w.heap.size w w'):=new_a_calls w he
 have C2 : Hid (∀ (b : Nat) (W : World),Below w.heap.size w W→CanonAt W b hostA [[(keyA,valA)]]→Calls Tryz.prog 9 #[.pointer (some ⟨b,0,none⟩),.agg #[.bool false,.string ⟨#[97]⟩,.string ⟨#[120,46,101,120,97,109,112,108,101]⟩,.bool false]] W fun e w'=>e=.returned (.agg #[.bool false,.string ⟨#[98]⟩,.string ⟨#[121,46,101,120,97,109,112,108,101]⟩,.bool false])∧Below W.heap.size W w'):=fun b W hb hC=>path_a_calls w W he hb b hC
 clear he
 go_enter Tryz.func6,Tryz.ntmps6
 go_wp2_with (first | (go_at_call 7; refine C1.out.mono ?_; rintro ee w1 ⟨b,rfl,hC,hb⟩; refine Hid.out ?_) | fail)
 refine Lib.hid ?_
 have HB1:=Lib.hid hb
 have C3:=Lib.hid (C2.out b w1 hb hC)
 clear hb hC C1 C2
 go_wp2_with (first | (go_at_call 9; refine C3.out.mono ?_; rintro ee w2 ⟨rfl,hb⟩; refine Hid.out ?_) | fail)
 refine Lib.hid ?_
 have HB2 : Hid (Below w.heap.size w w2):=HB1.out.trans (hb.mono HB1.out.size)
 clear hb C3
 go_wp2
 go_ret
 exact ⟨rfl,below_step HB2.out _⟩
end Go.Proofs.YtghnopkgcgfcpaaGreatDoor.Path
