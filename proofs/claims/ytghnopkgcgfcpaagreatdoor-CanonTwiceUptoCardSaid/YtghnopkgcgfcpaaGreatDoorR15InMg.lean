/-
  MERGED by mergefill.py: R15In, R15Val, R15Vlw, R15New.
-/
import Derived.Test.YtghnopkgcgfcpaaGreatDoorCanNewMg
import Derived.Test.YtghnopkgcgfcpaaGreatDoorTabOffMg
import Derived.Test.YtghnopkgcgfcpaaGreatDoorR9BoxMg
import Derived.Test.YtghnopkgcgfcpaaGreatDoorCanRepMg
import Derived.Test.YtghnopkgcgfcpaaGreatDoorR9MbxMg
import Derived.Test.YtghnopkgcgfcpaaGreatDoorTabRParMg
namespace Go.Proofs.YtghnopkgcgfcpaaGreatDoor.Path
open Go.RowKit Base
structure TrjAt (w : World) (q : Tri) : Prop where
 p : w.heap[q.pb]?=some (.cells #[q.sv] 62 (0,0))
 pr : Table.Rows2 w q.sv q.tab
 good : Table.Good q.tab
theorem TrjAt.on {w w' : World} {q : Tri} (h : TrjAt w q) (hb : Below w.heap.size w w') : TrjAt w' q :=
 ⟨(hb.block _ (heap_lt h.p)).trans h.p,h.pr.on hb,h.good⟩
structure GRow (w wr : World) (B : Nat) (lv : Value) (Es : List Tri) : Prop where
 below : Below w.heap.size w wr
 low : w.heap.size≤B
 lt : B < wr.heap.size
 row : wr.ownsRow w.heap.size 57 1 lv Es.length (Es.map triV)
 off : ∀ g,lv.ownBlock=some g→g ≠ B
 tabs : ∀ q ∈ Es,TrjAt wr q∧(∀ g,lv.ownBlock=some g→q.tab ≠ []→q.sv.ownBlock ≠ some g)∧q.pb ≠ B∧q.sv.ownBlock ≠ some B
def CBox (w : World) (B : Nat) (host : ByteArray) (lv : Value) : Prop:=w.heap[B]?=some (.cells #[.string host,lv] 42 (0,0))
structure GInv (w wr : World) (B : Nat) (host : ByteArray) (lv : Value) (Es : List Tri) : Prop where
 r : GRow w wr B lv Es
 box : CBox wr B host lv
theorem GRow.on {w wr w' : World} {B : Nat} {lv : Value} {Es : List Tri} (h : GRow w wr B lv Es) (hb : Below wr.heap.size wr w') : GRow w w' B lv Es :=
 ⟨h.below.trans (hb.mono h.below.size),h.low,Nat.lt_of_lt_of_le h.lt hb.size,Table.row_kept h.row fun b hx=>hb.block b (World.ownsRow.lt h.row b hx).2,h.off,fun q hq=>⟨(h.tabs q hq).1.on hb,(h.tabs q hq).2⟩⟩
theorem GInv.on {w wr w' : World} {B : Nat} {host : ByteArray} {lv : Value} {Es : List Tri} (h : GInv w wr B host lv Es) (hb : Below wr.heap.size wr w') : GInv w w' B host lv Es :=
 ⟨h.r.on hb,(hb.block _ h.r.lt).trans h.box⟩
theorem GRow.ne {w wr : World} {B : Nat} {lv : Value} {Es : List Tri} (h : GRow w wr B lv Es) {q : Tri} (hq : q ∈ Es) {g : Nat} (hg : lv.ownBlock=some g) : q.pb ≠ g:=by
 have hc:=(h.tabs q hq).1
 obtain ⟨cs,fz,h1⟩:=Table.row_type h.row hg
 exact fun e=>(by have:=hc.p; rw [e,h1] at this; cases this)
structure GTab (w wr : World) (B : Nat) (host : ByteArray) (lv : Value) (Es : List Tri) (q : Tri) : Prop where
 inv : GInv w wr B host lv Es
 tab : TrjAt wr q
 off : ∀ g,lv.ownBlock=some g→q.sv.ownBlock ≠ some g
 ne : ∀ g,lv.ownBlock=some g→q.pb ≠ g
 offB : q.sv.ownBlock ≠ some B
 neB : q.pb ≠ B
theorem GTab.on {w wr w' : World} {B : Nat} {host : ByteArray} {lv : Value} {Es : List Tri} {q : Tri} (h : GTab w wr B host lv Es q) (hb : Below wr.heap.size wr w') : GTab w w' B host lv Es q:=⟨h.inv.on hb,h.tab.on hb,h.off,h.ne,h.offB,h.neB⟩
theorem GInv.read {w wr w1 : World} {B : Nat} {host : ByteArray} {lv : Value} {Es : List Tri} (h : GInv w wr B host lv Es) (hb : Below wr.heap.size wr w1) {b : Nat} {T : List Table.KV} (hp : Table.TabNew 62 wr w1 b T) (hg : Table.Good T) : ∃ q : Tri,q.pb=b∧q.tab=T∧GTab w w1 B host lv Es q:=by
 obtain ⟨sv,p1,p2,p3,p4⟩:=hp
 refine ⟨⟨b,sv,T⟩,rfl,rfl,h.on hb,⟨p1,p2,hg⟩,fun g e=>?_,fun g e=>?_,p4 _ _ _ _ h.box (by decide),?_⟩
 ·obtain ⟨cs,fz,k1⟩:=Table.row_type h.r.row e
  exact p4 _ _ _ _ k1 (by decide)
 ·have:=(World.ownsRow.lt h.r.row g e).2
  show b ≠ g
  omega
 ·have:=h.r.lt
  show b ≠ B
  omega
theorem GTab.add {w wr w' : World} {B : Nat} {host : ByteArray} {lv v' : Value} {Es : List Tri} {q : Tri} (h : GTab w wr B host lv Es q) (hr : w'.ownsRow w.heap.size 57 1 v' (Es.length + 1) (Es.map triV++[triV q])) (hg : wr.grownBy w' lv.ownBlock) (ha : v'.ownBlock=lv.ownBlock∨v'.ownBlock=some wr.heap.size) : GRow w w' B v' (Es++[q])∧CBox w' B host lv:=by
 have hbl : Below w.heap.size w w':=h.inv.r.below.trans ((Below.refl _ _).grown hg h.inv.r.below.size (fun j hj=>(World.ownsRow.lt h.inv.r.row j hj).1))
 obtain ⟨_,_,_,hs,hbk⟩:=hg
 have key : ∀ p : Tri,TrjAt wr p→(∀ g,lv.ownBlock=some g→p.pb ≠ g)→(∀ g,lv.ownBlock=some g→p.tab ≠ []→p.sv.ownBlock ≠ some g)→p.pb ≠ B→p.sv.ownBlock ≠ some B→TrjAt w' p∧(∀ g,v'.ownBlock=some g→p.tab ≠ []→p.sv.ownBlock ≠ some g)∧p.pb ≠ B∧p.sv.ownBlock ≠ some B:=fun p hc hne ho n1 n2=>by
  refine ⟨⟨(hbk _ (heap_lt hc.p) (fun e=>hne _ e.symm rfl)).trans hc.p,rows_same hc.pr (fun g hT hb hlt=>hbk g hlt (fun e=>ho g e.symm hT hb)),hc.good⟩,fun g e hT=>?_,n1,n2⟩
  rcases ha with ha | ha
  ·exact ho g (by rw [← ha]; exact e) hT
  ·rw [ha] at e
   cases e
   exact fun e=>by have:=rows_low hc.pr hT e; omega
 refine ⟨⟨hbl,h.inv.r.low,Nat.lt_of_lt_of_le h.inv.r.lt hs,by rw [List.length_append,List.map_append]; exact hr,fun g e=>?_,fun p hp=>?_⟩,(hbk _ h.inv.r.lt (fun e=>h.inv.r.off _ e.symm rfl)).trans h.inv.box⟩
 ·rcases ha with ha | ha
  ·exact h.inv.r.off g (by rw [← ha]; exact e)
  ·rw [ha] at e
   cases e
   have:=h.inv.r.lt
   omega
 ·rcases List.mem_append.1 hp with hp | hp
  ·obtain ⟨a1,a2,a3,a4⟩:=h.inv.r.tabs p hp
   exact key p a1 (fun g e=>h.inv.r.ne hp e) a2 a3 a4
  ·rw [List.mem_singleton.1 hp]
   exact key q h.tab h.ne (fun g e _=>h.off g e) h.neB h.offB
theorem GRow.put {w w' : World} {B : Nat} {host : ByteArray} {lv v' : Value} {Es : List Tri} (h : GRow w w' B v' Es) (hb : CBox w' B host lv) : GInv w (w'.setCell ⟨B,1,none⟩ v') B host v' Es:=by
 have hk:=KeepX.set B w' 1 v'
 have h1:=heap_setCell_any w' B 1 _ _ _ v' hb
 refine ⟨⟨h.below.setCell (p:=⟨B,1,none⟩) h.low _,h.low,Nat.lt_of_lt_of_le h.lt hk.size,Table.row_kept h.row fun b hx=>hk.block b (World.ownsRow.lt h.row b hx).2 (h.off b hx),h.off,fun q hq=>?_⟩,?_⟩
 ·obtain ⟨a1,a2,a3,a4⟩:=h.tabs q hq
  exact ⟨⟨(hk.block _ (heap_lt a1.p) a3).trans a1.p,rows_same a1.pr (fun g _ hg hlt=>hk.block g hlt (fun e=>a4 (by rw [← e]; exact hg))),a1.good⟩,a2,a3,a4⟩
 ·unfold CBox
  rw [h1]
  congr 2
theorem cbox_cells {w : World} {B : Nat} {host : ByteArray} {lv : Value} (h : CBox w B host lv) : w.cell? ⟨B,0,none⟩=some (.string host)∧w.cell? ⟨B,1,none⟩=some lv∧w.frozen? ⟨B,1,none⟩=false:=by
 refine ⟨by unfold World.cell?; rw [show w.heap[B]?=_ from h]; rfl,by unfold World.cell?; rw [show w.heap[B]?=_ from h]; rfl,by simp [World.frozen?,show w.heap[B]?=_ from h]⟩
theorem info_ptrG : (Tryz.prog.info? 57).map (fun i=>(i.zero,i.size,i.bytes))=some (some (.pointer none),1,8):=by kernel_rfl
theorem wp_addG {w wr : World} {B : Nat} {host : ByteArray} {lv : Value} {Es : List Tri} {q : Tri} {ops : Array Oper} {rest : List Oper} {o : Oper} {a : Act} {Q : Exit→Act→World→Prop} (hgd : o.guard=none) (s y : Operand) (ho : o.op=.call { callee:=.builtin .append,args:=#[s,y],argTypes:=#[40,40] })
  (h : GTab w wr B host lv Es q) (hn : Es.length≤1000000) {nb : Nat} (hs : a.eval s=lv) (hx : a.eval y=.slice (some ⟨nb,0,none⟩) 1 1) (hnb : wr.heap.size=nb)
  (hK : ∀ v' w',GRow w w' B v' (Es++[q])→CBox w' B host lv→wpList Tryz.prog ops Q rest (a.put o.dst v') w') :
  wpList Tryz.prog ops Q (o :: rest) a (wr.alloc (.cells #[.pointer (some ⟨q.pb,0,none⟩)] 57)):=by
 subst hnb
 obtain ⟨i0,hi,hz0,hz1,hz2⟩:=info_parts info_ptrG
 have h1:=h.on (Below.alloc1 wr (.cells #[.pointer (some ⟨q.pb,0,none⟩)] 57))
 refine wpList_append_row _ hgd s y 40 ho w.heap.size 57 i0 (.pointer none) 8 Tryz.underlying40 hi hz0 hz1 hz2 rfl lv _ Es.length (Es.map triV) [triV q] hs hx h1.inv.r.row (vreads_one _ _ _) (fun u hu=>by rw [List.mem_singleton.1 hu]; rfl) (by rw [List.length_singleton]; omega) (by rw [List.length_singleton]; omega) h1.inv.r.below.size (fun v' w' o2 g2 a2=>?_)
 obtain ⟨r1,r2⟩:=h1.add o2 g2 a2
 exact hK v' w' r1 r2
structure CanonG (w : World) (b : Nat) (host : ByteArray) (Ts : List (List Table.KV)) : Prop where
 box : ∃ (A : Option Addr) (c : Nat) (qs : List Table.PT),CBox w b host (.slice A qs.length c)∧Table.PRow w A qs∧Table.PTabs 62 w qs∧Table.tabsOf qs=Ts∧qs.length≤8
theorem CanonG.on {w w' : World} {b : Nat} {host : ByteArray} {Ts : List (List Table.KV)} (h : CanonG w b host Ts) (hb : Below w.heap.size w w') : CanonG w' b host Ts:=by
 obtain ⟨A,c,qs,h1,h2,h3,h4,h5⟩:=h.box
 exact ⟨A,c,qs,(hb.block _ (heap_lt h1)).trans h1,h2.on hb,h3.on hb,h4,h5⟩
def ptT (q : Tri) : Table.PT:=some (q.pb,q.tab)
theorem pt_tri (Es : List Tri) : Table.tabsOf (Es.map ptT)=Es.map Tri.tab:=by
 unfold Table.tabsOf
 induction Es with
 | nil=>rfl
 | cons q r ih=>simp only [List.map_cons]; rw [List.filterMap_cons]; simp only [ptT,id,List.map_cons]; exact congrArg _ ih
theorem GInv.canon {w wr : World} {B : Nat} {host : ByteArray} {la : Option Addr} {lc : Nat} {Es : List Tri} (h : GInv w wr B host (.slice la Es.length lc) Es) (hn : Es.length≤8) : CanonG wr B host (Es.map Tri.tab):=by
 have hl : (Es.map ptT).length=Es.length:=List.length_map _
 refine ⟨la,lc,Es.map ptT,by rw [hl]; exact h.box,fun i o ho=>?_,fun b T hm=>?_,pt_tri Es,by rw [hl]; exact hn⟩
 ·have hil : i < Es.length:=by have:=(List.getElem?_eq_some_iff.1 ho).1; omega
  rcases h.r.row.2 with ⟨_,hn0⟩ | ⟨g,cap,cur,he,_,hb,_⟩
  ·omega
  ·injection he with he1 _ _
   subst he1
   refine ⟨g,rfl,heap_lt hb,?_⟩
   have hc:=World.ownsRow.cellAt h.r.row i (by omega)
   rw [hc,List.getElem?_map]
   rw [List.getElem?_map] at ho
   cases hq : Es[i]? with
   | none=>rw [hq] at ho; cases ho
   | some q=>rw [hq] at ho; cases ho; rfl
 ·obtain ⟨q,hq,e⟩:=List.mem_map.1 hm
  injection e with e
  injection e with e1 e2
  subst e1 e2
  obtain ⟨a1,_⟩:=h.r.tabs q hq
  exact ⟨⟨q.sv,a1.p,a1.pr⟩,a1.good⟩
end Go.Proofs.YtghnopkgcgfcpaaGreatDoor.Path
namespace Go.Proofs.YtghnopkgcgfcpaaGreatDoor.Path
open Go.RowKit Base
def valG (v : ByteArray) : PV × Bool × Bool :=
 if 0 < v.size∧(v.data.toList.getD 0 0).toNat=64 then (⟨false,⟨#[]⟩,(domG (v.extract 1 v.size)).1,false⟩,true,decide ((domG (v.extract 1 v.size)).2.2=0) && !(domG (v.extract 1 v.size)).2.1)
 else ((boxG v).1,false,decide ((boxG v).2=0) && (!(boxG v).1.null && decide ((boxG v).1.dom.size ≠ 0)))
theorem box_null (s : ByteArray) (h : (boxG s).1.null=true) : (boxG s).1.dom.size=0:=by
 unfold boxG at h ⊢
 split
 ·rfl
 ·rename_i h0
  rw [if_neg h0] at h
  split
  ·rfl
  ·rename_i h1
   rw [if_neg h1] at h
   split
   ·rfl
   ·rename_i h2
    rw [if_neg h2] at h
    exfalso
    have h : (mbG s).1.null=true:=h
    unfold mbG at h
    split at h
    ·cases h
    ·split at h
     ·split at h <;> cases h
     ·cases h
theorem trim_at (v : ByteArray) (h : 0 < v.size∧(v.data.toList.getD 0 0).toNat=64) : Lib.hasPrefix v.data.toList [64]=true∧(⟨(Lib.trimPrefix v.data.toList [64]).toArray⟩ : ByteArray)=v.extract 1 v.size:=by
 have hc:=drop_consD v h.1
 rw [List.drop_zero,UInt8.toNat_inj.1 (show (v.data.toList.getD 0 0).toNat=(64 : UInt8).toNat from h.2)] at hc
 constructor
 ·rw [hc]; rfl
 ·apply ba_ext
  rw [tail_list]
  show Lib.trimPrefix v.data.toList [64]=v.data.toList.drop 1
  rw [hc]; rfl
theorem trim_not (v : ByteArray) (h : ¬ (0 < v.size∧(v.data.toList.getD 0 0).toNat=64)) : ¬ Lib.hasPrefix v.data.toList [64]=true:=by
 intro hp
 apply h
 by_cases h0 : 0 < v.size
 ·have hc:=drop_consD v h0
  rw [List.drop_zero] at hc
  refine ⟨h0,?_⟩
  generalize v.data.toList.getD 0 0=x at hc
  rw [hc] at hp
  have : x=64:=by
   simp [Lib.hasPrefix] at hp
   exact hp.symm
  rw [this]; rfl
 ·have:=drop_nilD v (k:=0) (by omega)
  rw [List.drop_zero] at this
  rw [this] at hp
  cases hp
theorem val_same (l v : ByteArray) : (valG v).2.2=(repR litL locF l v).2∧(repR litL locF l v).1=if (valG v).2.1=true then ⟨false,l,(valG v).1.dom,false⟩ else (valG v).1:=by
 unfold valG repR
 by_cases h : 0 < v.size∧(v.data.toList.getD 0 0).toNat=64
 ·obtain ⟨h1,h2⟩:=trim_at v h
  rw [if_pos h,if_pos h1,h2,dom_same]
  exact ⟨rfl,by rw [if_pos rfl]⟩
 ·rw [if_neg h,if_neg (trim_not v h),← box_same]
  refine ⟨?_,rfl⟩
  have hn:=box_null v
  show (decide ((boxG v).2=0) && (!(boxG v).1.null && decide ((boxG v).1.dom.size ≠ 0)))=(decide ((boxG v).2=0) && decide ((boxG v).1.dom.size ≠ 0))
  cases hb : (boxG v).1.null with
  | false=>rfl
  | true=>rw [hn hb]; rfl
theorem box_le (s : ByteArray) : (boxG s).1.loc.size≤s.size + 60∧(boxG s).1.dom.size≤s.size + 60:=by
 unfold boxG
 split
 ·exact ⟨Nat.zero_le _,Nat.zero_le _⟩
 ·split
  ·exact ⟨Nat.zero_le _,Nat.zero_le _⟩
  ·split
   ·exact ⟨Nat.zero_le _,Nat.zero_le _⟩
   ·show (mbG s).1.loc.size≤s.size + 60∧(mbG s).1.dom.size≤s.size + 60
    unfold mbG
    split
    ·exact ⟨Nat.zero_le _,Nat.zero_le _⟩
    ·rename_i h0
     obtain ⟨h1,h2⟩:=off_le h0
     split
     ·split
      ·exact ⟨by show 10≤_; omega,Nat.zero_le _⟩
      ·exact ⟨Nat.zero_le _,Nat.zero_le _⟩
     ·have h3:=dom_le (cutG (s.extract ((offG s).2 + 1) s.size)).1
      have h4:=(cut_le (s.extract ((offG s).2 + 1) s.size)).1
      rw [ByteArray.size_extract] at h4
      generalize (cutG (s.extract ((offG s).2 + 1) s.size)).1=c at h3 h4 ⊢
      generalize domG c=r at h3 ⊢
      exact ⟨Nat.le_trans h1 (by omega),Nat.le_trans h3 (by omega)⟩
end Go.Proofs.YtghnopkgcgfcpaaGreatDoor.Path
set_option maxHeartbeats 16000000
set_option maxRecDepth 100000
namespace Go.Proofs.YtghnopkgcgfcpaaGreatDoor.Path
open Go.RowKit Base
def ValEnd (w : World) (r : PV × Bool × Bool) (e : Ending) (w' : World) : Prop:=e=.returned (.tuple #[r.1.val,.bool r.2.1,.bool r.2.2])∧Below w.heap.size w w'
theorem rValue (v : ByteArray) (w : World) (hv : v.size≤900000000) : Calls Tryz.prog 19 #[.string v] w (ValEnd w (valG v)):=by
 obtain ⟨D,hD⟩ : ∃ D,D=valG v:=⟨_,rfl⟩
 rw [← hD]
 have HD : Hid (D=if 0 < v.size∧(v.data.toList.getD 0 0).toNat=64 then (⟨false,⟨#[]⟩,(domG (v.extract 1 v.size)).1,false⟩,true,decide ((domG (v.extract 1 v.size)).2.2=0) && !(domG (v.extract 1 v.size)).2.1)
  else ((boxG v).1,false,decide ((boxG v).2=0) && (!(boxG v).1.null && decide ((boxG v).1.dom.size ≠ 0)))):=hD
 have hp:=(MapKept.heap_alloc w pathO).1
 have hp : PathAt (w.alloc pathO) w.heap.size PV.zero:=hp
 have HB0:=Below.alloc1 w pathO
 unfold pathO at hp HB0
 have HP0:=Lib.hid hp
 have HB0:=Lib.hid HB0
 clear hD hp
 by_cases hat : 0 < v.size∧(v.data.toList.getD 0 0).toNat=64
 ·have HT : Hid (D=(⟨false,⟨#[]⟩,(domG (v.extract 1 v.size)).1,false⟩,true,decide ((domG (v.extract 1 v.size)).2.2=0) && !(domG (v.extract 1 v.size)).2.1)):=by show _=_; rw [HD.out,if_pos hat]
  have C1:=Lib.hid (fun W=>rDomain (v.extract 1 v.size) W (by rw [ByteArray.size_extract]; omega))
  obtain ⟨h0,h64⟩:=hat
  rw [str_get v 0 h0] at h64
  have i0 : (0 : Int) < (v.size : Int):=by omega
  have i1 : 1≤v.size:=by omega
  clear HD
  generalize hx : v.extract 1 v.size=t at HT C1
  generalize domG t=r at HT C1
  obtain ⟨dd,lit,code⟩:=r
  have C1 : Hid (∀ W,Calls Tryz.prog 17 #[.string t] W fun e w'=>e=.returned (.tuple #[.string dd,.bool lit,.int .i64 code])∧Below W.heap.size W w'):=C1
  go_enter Tryz.func19,Tryz.ntmps19
  go_wp2_with (first | (go_at_call 17; refine (C1.out _).mono ?_; rintro ee w1 ⟨rfl,hb⟩; refine Hid.out ?_) | fail)
  refine Lib.hid ?_
  have HB1:=Lib.hid (HB0.out.trans (hb.mono HB0.out.size))
  have p1:=HP0.out.on hb
  have HP1:=Lib.hid p1
  obtain ⟨c0,c1,c2,c3,f0,f1,f2,f3⟩:=four_cells p1
  clear hb p1 h64
  by_cases hc : code=0
  ·subst hc
   go_wp2
   (try simp only [Exit.inBlock,Exit.then])
   refine bodyPost_ret (results_path3 Tryz.results19 rfl rfl rfl (path_four HP1.out ⟨false,⟨#[]⟩,dd,false⟩)) rfl ?_
   rw [HT.out]
   exact ⟨rfl,below_four _ (Nat.le_refl _) HB1.out _ _ _ _⟩
  ·have q : (code == 0)=false:=by rw [beq_eq_false_iff_ne]; exact hc
   have q2 : decide (code=0)=false:=decide_eq_false hc
   have HT2 : Hid (D=(⟨false,⟨#[]⟩,dd,false⟩,true,false)):=by show _=_; rw [HT.out]; simp only [q2,Bool.false_and]
   clear hc q2 HT
   go_wp2
   (try simp only [Exit.inBlock,Exit.then])
   refine bodyPost_ret (results_path3 Tryz.results19 rfl rfl rfl (path_four HP1.out ⟨false,⟨#[]⟩,dd,false⟩)) rfl ?_
   rw [HT2.out]
   exact ⟨rfl,below_four _ (Nat.le_refl _) HB1.out _ _ _ _⟩
 ·have HT : Hid (D=((boxG v).1,false,decide ((boxG v).2=0) && (!(boxG v).1.null && decide ((boxG v).1.dom.size ≠ 0)))):=by show _=_; rw [HD.out,if_neg hat]
  have C1:=Lib.hid (fun W=>rMbxG v W hv)
  have hcase : ((v.size : Int)≤0)∨((0 : Int) < (v.size : Int)∧∃ h : 0 < v.size,((v[0].toNat : Int) == 64)=false):=by
   rcases Nat.eq_zero_or_pos v.size with x | x
   ·left; omega
   ·right
    refine ⟨by omega,x,?_⟩
    rw [beq_eq_false_iff_ne]
    intro e
    apply hat
    refine ⟨x,?_⟩
    rw [str_get v 0 x]; omega
  clear HD hat
  generalize boxG v=r at HT C1
  obtain ⟨⟨n,l,d,t⟩,code⟩:=r
  have C2 : Hid (∀ W,Calls Tryz.prog 49 #[.string v] W fun e w'=>e=.returned (.tuple #[.agg #[.bool n,.string l,.string d,.bool t],.int .i64 code])∧Below W.heap.size W w'):=C1
  have HT1 : Hid (D=(⟨n,l,d,t⟩,false,decide (code=0) && (!n && decide (d.size ≠ 0)))):=HT
  clear HT C1
  rcases hcase with h1 | ⟨h1,h2,h3⟩
  case' inl =>
   have h2 : ¬ (0 : Int) < (v.size : Int):=by omega
   clear h1
  all_goals
   go_enter Tryz.func19,Tryz.ntmps19
   go_wp2_with (first | (go_at_call 49; refine (C2.out _).mono ?_; rintro ee w1 ⟨rfl,hb⟩; refine Hid.out ?_) | fail)
   refine Lib.hid ?_
   have HB1:=Lib.hid (HB0.out.trans (hb.mono HB0.out.size))
   have p1:=HP0.out.on hb
   have HP1:=Lib.hid p1
   have hlt1:=heap_lt p1
   have ne1 : ¬ w.heap.size=w1.heap.size:=by omega
   have ne2 : ¬ w1.heap.size=w.heap.size:=by omega
   obtain ⟨c0,c1,c2,c3,f0,f1,f2,f3⟩:=four_cells p1
   clear hb p1
   by_cases hc : code=0
   ·subst hc
    cases n with
    | true =>
     have HT2 : Hid (D=(⟨true,l,d,t⟩,false,false)):=HT1.out
     clear HT1
     go_wp2
     go_region
     go_wp2
     refine bodyPost_ret (results_path3 (p:=⟨true,l,d,t⟩) Tryz.results19 rfl rfl rfl (show PathAt (World.drew _) _ _ from path_alloc (path_four HP1.out ⟨true,l,d,t⟩) _)) rfl ?_
     rw [HT2.out]
     exact ⟨rfl,(below_step (below_four _ (Nat.le_refl _) HB1.out _ _ _ _) _).drew⟩
    | false =>
     by_cases hd : d.size=0
     ·obtain rfl:=str_empty hd
      have HT2 : Hid (D=(⟨false,l,⟨#[]⟩,t⟩,false,false)):=HT1.out
      clear hd HT1
      go_wp2
      go_region
      go_wp2
      refine bodyPost_ret (results_path3 (p:=⟨false,l,⟨#[]⟩,t⟩) Tryz.results19 rfl rfl rfl (show PathAt (World.drew _) _ _ from path_alloc (path_four HP1.out ⟨false,l,⟨#[]⟩,t⟩) _)) rfl ?_
      rw [HT2.out]
      exact ⟨rfl,(below_step (below_four _ (Nat.le_refl _) HB1.out _ _ _ _) _).drew⟩
     ·obtain ⟨hn1,hn2⟩:=str_ne hd
      have HT2 : Hid (D=(⟨false,l,d,t⟩,false,true)):=by have e:=HT1.out; rw [decide_eq_true hd] at e; exact e
      clear hd HT1
      go_wp2
      go_region
      go_wp2
      refine bodyPost_ret (results_path3 (p:=⟨false,l,d,t⟩) Tryz.results19 rfl rfl rfl (show PathAt (World.drew _) _ _ from path_alloc (path_four HP1.out ⟨false,l,d,t⟩) _)) rfl ?_
      rw [HT2.out]
      exact ⟨rfl,(below_step (below_four _ (Nat.le_refl _) HB1.out _ _ _ _) _).drew⟩
   ·have q : (code == 0)=false:=by rw [beq_eq_false_iff_ne]; exact hc
    have HT2 : Hid (D=(⟨n,l,d,t⟩,false,false)):=by have e:=HT1.out; rw [decide_eq_false hc] at e; exact e
    clear hc HT1
    go_wp2
    go_region
    go_wp2
    refine bodyPost_ret (results_path3 (p:=⟨n,l,d,t⟩) Tryz.results19 rfl rfl rfl (show PathAt (World.drew _) _ _ from path_alloc (path_four HP1.out ⟨n,l,d,t⟩) _)) rfl ?_
    rw [HT2.out]
    exact ⟨rfl,(below_step (below_four _ (Nat.le_refl _) HB1.out _ _ _ _) _).drew⟩
end Go.Proofs.YtghnopkgcgfcpaaGreatDoor.Path
set_option maxHeartbeats 16000000
set_option maxRecDepth 100000
namespace Go.Proofs.YtghnopkgcgfcpaaGreatDoor.Path
open Go.RowKit Base
def NewGEnd (w : World) (host : ByteArray) (r : Int × List (List Table.KV)) (e : Ending) (w' : World) : Prop :=
 Below w.heap.size w w'∧((r.1 ≠ 0∧e=.returned (.tuple #[.pointer none,.int .i64 r.1]))∨(r.1=0∧∃ b,e=.returned (.tuple #[.pointer (some ⟨b,0,none⟩),.int .i64 0])∧CanonG w' b host r.2))
theorem rNewG (host : ByteArray) (A : Option Addr) (c : Nat) (Xs : List ByteArray) (w : World)
  (hh : host.size≤900000000) (hX : ∀ (i : Nat) (s : ByteArray),Xs[i]?=some s→∃ g o,A=some ⟨g,o,none⟩∧w.cell? ⟨g,o + i,none⟩=some (.string s)) (hXl : Xs.length≤9223372036854775807)
  (hV : ∀ s ∈ Xs,∀ p ∈ (Table.parseOf s.data.toList).1,p.2.length≤900000000) :
  Calls Tryz.prog 8 #[.string host,.slice A Xs.length c] w (NewGEnd w host (newR litL locF host Xs)):=by
 obtain ⟨D,hD⟩ : ∃ D,D=newR litL locF host Xs:=⟨_,rfl⟩
 rw [← hD]
 have HD:=Lib.hid hD
 have C0:=Lib.hid (rDomain host w (by omega))
 have HX:=Lib.hid hX
 have CP:=Lib.hid (fun (s : ByteArray) (W : World)=>Table.rParse s W)
 have CV:=Lib.hid (fun (v : ByteArray) (W : World) (hv : v.size≤900000000)=>rValue v W hv)
 have HV:=Lib.hid hV
 clear hX hV hD
 unfold newR at HD
 rw [dom_same] at HD
 generalize hdr : domG host=dr at C0 HD
 obtain ⟨dd,lit,code⟩:=dr
 have C0 : Hid (Calls Tryz.prog 17 #[.string host] w fun e w'=>e=.returned (.tuple #[.string dd,.bool lit,.int .i64 code])∧Below w.heap.size w w'):=C0
 by_cases hok : ((dd,lit,code) : ByteArray × Bool × Int)=(host,false,0)∧Xs.length≤8
 ·obtain ⟨he,h8⟩:=hok
  cases he
  have HD2 : Hid (D=match tabsOf litL locF Xs with | some Ts=>(0,Ts) | none=>(150,[])):=by have e:=HD.out; rw [if_pos ⟨rfl,h8⟩] at e; exact e
  have i8 : ¬ (8 : Int) < (Xs.length : Int):=by omega
  clear HD hdr
  go_enter Tryz.func8,Tryz.ntmps8
  go_wp2_with (first | (go_at_call 17; refine C0.out.mono ?_; rintro ee w1 ⟨rfl,hb⟩; refine Hid.out ?_) | fail)
  refine Lib.hid ?_
  have HB1:=Lib.hid hb
  clear hb
  have HN0 : Hid (GInv w (w1.alloc (Obj.cells #[Value.string host,Value.slice none 0 0] 42)) w1.heap.size host (.slice none 0 0) []) :=
   ⟨⟨HB1.out.trans ((Below.alloc1 w1 _).mono HB1.out.size),HB1.out.size,(show w1.heap.size < (w1.alloc _).heap.size from heap_lt (MapKept.heap_alloc w1 _).1),World.ownsRow_nil _ _ _ _,fun g h=>(by cases h),fun q h=>(by simp at h)⟩,(MapKept.heap_alloc w1 _).1⟩
  clear HB1 C0
  go_wp2
  go_loopw [10] (fun i wx=>∃ (k : Nat) (la : Option Addr) (lc : Nat) (Es : List Tri),k≤Xs.length∧i=.int .i64 (k : Int)∧Es.length=k∧Hid (GInv w wx w1.heap.size host (.slice la Es.length lc) Es)∧Hid (tabsOf litL locF (Xs.take k)=some (Es.map Tri.tab))) (fun i _=>Xs.length - (intOf i).toNat)
  case atStart=>exact ⟨0,none,0,[],by omega,rfl,rfl,HN0,rfl⟩
  case round =>
   clear HN0
   obtain ⟨k,la,lc,Es,hk,rfl,hEk,hI,hT⟩:=hrel
   have HEk : Hid (Es.length=k):=hEk
   have HI:=Lib.hid hI.out
   have HTb:=Lib.hid hT.out
   clear hEk hI hT
   by_cases hlt : k < Xs.length
   ·have i1 : (k : Int) < (Xs.length : Int):=by omega
    have i0 : (0 : Int)≤(k : Int):=by omega
    have hget : Xs[k]?=some Xs[k]:=List.getElem?_eq_getElem hlt
    have hmem : Xs[k] ∈ Xs:=List.getElem_mem hlt
    obtain ⟨g,o,rfl,hc⟩:=HX.out k _ hget
    have hc:=cell_on hc HI.out.r.below
    have CP1:=Lib.hid (CP.out Xs[k] wr)
    have HBad:=Lib.hid (fun hb=>tabs_bad (L:=litL) (f:=locF) hget HTb.out hb)
    have HNext:=Lib.hid (fun h1 h2=>tabs_next (L:=litL) (f:=locF) hget HTb.out h1 h2)
    have HVx:=Lib.hid (HV.out _ hmem)
    have HGd:=Lib.hid (Table.parse_good Xs[k].data.toList)
    clear hget hmem
    generalize Xs[k]=s at hc CP1 HBad HNext HVx HGd
    generalize Table.parseOf s.data.toList=pa at CP1 HBad HNext HVx HGd
    obtain ⟨T,fc,fl⟩:=pa
    by_cases hfc : fc=0
    ·subst hfc
     have CP2 : Hid (Calls Tryz.prog 18 #[.string s] wr fun e w'=>∃ b,e=.returned (.tuple #[.pointer (some ⟨b,0,none⟩),.agg #[.int .i64 0,.int .i64 0]])∧Table.TabNew 62 wr w' b T∧Below wr.heap.size wr w'):=CP1.out.mono fun e w' hh=>by
      rcases hh with ⟨h1,⟨_,b,h3,h4⟩ | ⟨h2,_⟩⟩
      ·exact ⟨b,h3,h4,h1⟩
      ·exact absurd rfl h2
     have HG : Hid (Table.Good T):=HGd.out rfl
     clear CP1 HGd
     go_wp2_with (first | (go_at_call 18; refine CP2.out.mono ?_; rintro ee w2 ⟨b,rfl,hn,hb⟩; refine Hid.out ?_) | fail)
     refine Lib.hid ?_
     obtain ⟨q,rfl,rfl,hq⟩:=HI.out.read hb hn HG.out
     have HQ2:=Lib.hid (hq.on (Below.alloc1 w2 (.cells #[.int .i64 0,.int .i64 0] 49)))
     clear hq hn hb HI CP2
     have ht : Table.TabAt 62 (w2.alloc (.cells #[.int .i64 0,.int .i64 0] 49)) q.pb q.tab:=⟨q.sv,HQ2.out.tab.p,HQ2.out.tab.pr⟩
     obtain ⟨sa,sc,hsl,hsle,hrows⟩:=ht.cell
     have HSL:=Lib.hid hsl
     have HROW:=Lib.hid hrows
     have HFew : Hid (q.tab.length≤2000):=HG.out.few
     clear ht hsl hsle hrows
     go_wp2
     go_loopw [13] (fun i wx=>∃ m : Nat,m≤q.tab.length∧i=.int .i64 (m : Int)∧Hid (Below (w2.alloc (.cells #[.int .i64 0,.int .i64 0] 49)).heap.size (w2.alloc (.cells #[.int .i64 0,.int .i64 0] 49)) wx)∧Hid ((q.tab.take m).all (fun p=>(repR litL locF ⟨#[]⟩ ⟨p.2.toArray⟩).2)=true)) (fun i _=>q.tab.length - (intOf i).toNat)
     case atStart=>exact ⟨0,Nat.zero_le _,rfl,Below.refl _ _,rfl⟩
     case round =>
      obtain ⟨m,hm,rfl,hB,hA⟩:=hrel
      have hcell:=cell_on HSL.out hB.out
      have HB:=Lib.hid hB.out
      have HA:=Lib.hid hA.out
      clear hB hA
      by_cases hlt2 : m < q.tab.length
      ·have m1 : (m : Int) < (q.tab.length : Int):=by omega
       have m0 : (0 : Int)≤(m : Int):=by omega
       obtain ⟨p,hp⟩ : ∃ p,q.tab[m]?=some p:=⟨_,List.getElem?_eq_getElem hlt2⟩
       obtain ⟨gb,go_,rfl,k1,k2⟩:=HROW.out.cell hp
       have c2:=cell_on k2 HB.out
       have HN:=Lib.hid (all_take' (fun p=>(repR litL locF ⟨#[]⟩ ⟨p.2.toArray⟩).2) p hp)
       have HNo : Hid ((repR litL locF ⟨#[]⟩ ⟨p.2.toArray⟩).2=false→valsB litL locF q.tab=false):=fun e=>all_no _ p hp e
       have CV1:=Lib.hid (fun W=>CV.out ⟨p.2.toArray⟩ W (HVx.out p (List.mem_of_getElem? hp)))
       have HVS:=Lib.hid (val_same ⟨#[]⟩ ⟨p.2.toArray⟩).1
       replace c2 : _=some (Value.string ⟨p.2.toArray⟩):=c2
       clear hp k1 k2
       generalize (⟨p.2.toArray⟩ : ByteArray)=vx at c2 HN HNo CV1 HVS
       rw [← HVS.out] at HN HNo
       generalize valG vx=r at HN HNo CV1
       obtain ⟨⟨n,l,d,t⟩,at_,ok⟩:=r
       have CV2 : Hid (∀ W,Calls Tryz.prog 19 #[.string vx] W fun e w'=>e=.returned (.tuple #[.agg #[.bool n,.string l,.string d,.bool t],.bool at_,.bool ok])∧Below W.heap.size W w'):=CV1
       clear CV1 HVS
       go_wp2_with (first | (go_at_call 19; refine (CV2.out _).mono ?_; rintro ee w3 ⟨rfl,hb⟩; refine Hid.out ?_) | fail)
       refine Lib.hid ?_
       have HB3:=Lib.hid (HB.out.trans (hb.mono HB.out.size))
       clear hb CV2
       cases ok with
       | false =>
        have HT2 : Hid (D=(150,[])):=by
         have e:=HD2.out
         rw [HBad.out (fun hh=>by rw [HNo.out rfl] at hh; exact absurd hh.2 (by simp))] at e
         exact e
        have HB4:=Lib.hid (HQ2.out.inv.r.below.trans (HB3.out.mono HQ2.out.inv.r.below.size))
        clear HBad HNext HN HNo
        go_wp2
        go_ret2
        exact ⟨below_step HB4.out _,Or.inl ⟨by rw [HT2.out]; decide,by rw [HT2.out]; rfl⟩⟩
       | true =>
        have HN2 : Hid ((q.tab.take (m + 1)).all (fun p=>(repR litL locF ⟨#[]⟩ ⟨p.2.toArray⟩).2)=true):=by show _=_; rw [HN.out,HA.out]; rfl
        have hfew:=HFew.out
        clear HN HNo HA
        go_wp2
        go_roundw
        case rel=>exact ⟨m + 1,by omega,by go_num,below_step HB3.out _,HN2⟩
        case measure=>simp [intOf]; omega
      ·have m1 : ¬ (m : Int) < (q.tab.length : Int):=by omega
       have HVT : Hid (valsB litL locF q.tab=true):=by
        show _=_
        have e:=HA.out
        rw [List.take_of_length_le (by omega)] at e
        exact e
       have HTn : Hid (tabsOf litL locF (Xs.take (k + 1))=some (Es.map Tri.tab++[q.tab])):=HNext.out trivial HVT.out
       have HQ3:=Lib.hid (HQ2.out.on HB.out)
       obtain ⟨b0,b1,bf⟩:=cbox_cells HQ3.out.inv.box
       clear HBad HNext HVx HQ2 HSL HROW HA HB HVT
       go_wp2_with (first | (at_builtin; refine wp_addG rfl _ _ rfl HQ3.out (by have:=HEk.out; omega) rfl rfl rfl ?_; intro v4 w4 h4 h5; refine Hid.out ?_) | fail)
       refine Lib.hid ?_
       obtain ⟨la2,lc2,rfl,_⟩:=row_form h4.row
       obtain ⟨d0,d1,df⟩:=cbox_cells h5
       have hput:=h4.put h5
       rw [show (Es++[q]).length=Es.length + 1 by simp] at hput
       have HI4:=Lib.hid hput
       clear h4 h5 hput HQ3 b0 b1 bf
       go_wp2
       exact ⟨⟨k + 1,la2,lc2,Es++[q],by omega,by go_num,by rw [List.length_append]; have:=HEk.out; simp; exact this,by rw [show (Es++[q]).length=Es.length + 1 by simp]; exact HI4.out,by rw [HTn.out,List.map_append]; rfl⟩,by simp [intOf]; omega⟩
    ·have CP2 : Hid (Calls Tryz.prog 18 #[.string s] wr fun e w'=>e=.returned (.tuple #[.pointer none,.agg #[.int .i64 (fc : Int),.int .i64 (fl : Int)]])∧Below wr.heap.size wr w'):=CP1.out.mono fun e w' hh=>by
      rcases hh with ⟨h1,⟨h2,_⟩ | ⟨_,h3⟩⟩
      ·exact absurd h2 hfc
      ·exact ⟨h3,h1⟩
     have HT2 : Hid (D=(150,[])):=by
      have e:=HD2.out
      rw [HBad.out (fun hh=>hfc hh.1)] at e
      exact e
     have e1 : ((fc : Int) != 0)=true:=by rw [bne_iff_ne]; omega
     have HB0:=Lib.hid HI.out.r.below
     clear CP1 HBad HNext HVx HGd hfc HI
     go_wp2_with (first | (go_at_call 18; refine CP2.out.mono ?_; rintro ee w2 ⟨rfl,hb⟩; refine Hid.out ?_) | fail)
     refine Lib.hid ?_
     have HB2:=Lib.hid (HB0.out.trans (hb.mono HB0.out.size))
     clear hb
     go_wp2
     go_ret2
     exact ⟨below_step HB2.out _,Or.inl ⟨by rw [HT2.out]; decide,by rw [HT2.out]; rfl⟩⟩
   ·have i1 : ¬ (k : Int) < (Xs.length : Int):=by omega
    have HT2 : Hid (D=(0,Es.map Tri.tab)):=by
     have e:=HD2.out
     have e2:=HTb.out
     rw [List.take_of_length_le (by omega)] at e2
     rw [e2] at e
     exact e
    have HB0:=Lib.hid HI.out.r.below
    have HC:=Lib.hid (HI.out.canon (by have:=HEk.out; omega))
    clear HI HTb HEk
    go_wp2
    go_ret2
    exact ⟨HB0.out,Or.inr ⟨by rw [HT2.out],_,rfl,by rw [HT2.out]; exact HC.out⟩⟩
 ·have HT2 : Hid (D=(1,[])):=by have e:=HD.out; rw [if_neg hok] at e; exact e
  clear HD hdr
  have fin : ∀ w',Below w.heap.size w w'→NewGEnd w host D (.returned (.tuple #[.pointer none,.int .i64 1])) w':=fun w' hb=>⟨hb,Or.inl ⟨by rw [HT2.out]; decide,by rw [HT2.out]⟩⟩
  have HFin:=Lib.hid fin
  clear fin
  have hcase : (code != 0)=true∨(code=0∧(lit=true∨(lit=false∧((¬ dd.toList=host.toList)∨(dd=host∧(8 : Int) < (Xs.length : Int)))))):=by
   by_cases hc : code=0
   ·right
    refine ⟨hc,?_⟩
    subst hc
    cases lit with
    | true=>exact Or.inl rfl
    | false =>
     right
     refine ⟨rfl,?_⟩
     by_cases hd : dd=host
     ·right
      refine ⟨hd,?_⟩
      subst hd
      have : ¬ Xs.length≤8:=fun h=>hok ⟨rfl,h⟩
      omega
     ·exact Or.inl (bytes_ne hd)
   ·left; rw [bne_iff_ne]; exact hc
  clear hok
  rcases hcase with q1 | ⟨rfl,rfl | ⟨rfl,q2 | ⟨rfl,q3⟩⟩⟩
  all_goals
   go_enter Tryz.func8,Tryz.ntmps8
   go_wp2_with (first | (go_at_call 17; refine C0.out.mono ?_; rintro ee w1 ⟨rfl,hb⟩; refine Hid.out ?_) | fail)
   refine Lib.hid ?_
   have HB1:=Lib.hid hb
   clear hb
   go_wp2
   go_ret2
   exact HFin.out _ HB1.out
end Go.Proofs.YtghnopkgcgfcpaaGreatDoor.Path
