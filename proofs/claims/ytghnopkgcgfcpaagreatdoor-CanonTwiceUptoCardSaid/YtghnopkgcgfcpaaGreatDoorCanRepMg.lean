/-
  MERGED by mergefill.py: CanRep, CanVal, CanIn.
-/
import Derived.Test.YtghnopkgcgfcpaaGreatDoorPthBoxWMg
import Derived.Test.YtghnopkgcgfcpaaGreatDoorPthRepPMg
import Derived.Test.YtghnopkgcgfcpaaGreatDoorPthBldMg
import Derived.Test.YtghnopkgcgfcpaaGreatDoorTabSearchMg
import Derived.Test.YtghnopkgcgfcpaaGreatDoorTabOffMg
set_option maxHeartbeats 16000000
set_option maxRecDepth 100000
namespace Go.Proofs.YtghnopkgcgfcpaaGreatDoor.Path
open Go.RowKit Base
def repR (L : ByteArray→Nat→Bool × Nat × ByteArray) (f : ByteArray→ByteArray) (loc v : ByteArray) : PV × Bool :=
 if Lib.hasPrefix v.data.toList [64]=true then (⟨false,loc,(domR L ⟨(Lib.trimPrefix v.data.toList [64]).toArray⟩).1,false⟩,decide ((domR L ⟨(Lib.trimPrefix v.data.toList [64]).toArray⟩).2.2=0) && !(domR L ⟨(Lib.trimPrefix v.data.toList [64]).toArray⟩).2.1)
 else ((mbxR L f v).1,decide ((mbxR L f v).2=0) && decide ((mbxR L f v).1.dom.size ≠ 0))
def RepEnd (w : World) (r : PV × Bool) (e : Ending) (w' : World) : Prop:=e=.returned (.tuple #[r.1.val,.bool r.2])∧Below w.heap.size w w'
structure ValOk (L : ByteArray→Nat→Bool × Nat × ByteArray) (v : ByteArray) : Prop where
 size : v.size≤1000000000
 loc : (tak L v).2.loc.size≤1000000000
 dom : (tak L v).2.dom.size≤1000000000
theorem trim_le (v : ByteArray) : (Lib.trimPrefix v.data.toList [64]).length≤v.size:=by
 unfold Lib.trimPrefix
 split
 ·rw [List.length_drop,str_len]; omega
 ·rw [str_len]; exact Nat.le_refl _
theorem pReplaced {w0 : World} {L : ByteArray→Nat→Bool × Nat × ByteArray} {f : ByteArray→ByteArray} (hL : LitOk w0 L) (hf : FormOk f) (p : PV) (v : ByteArray) (w : World) (hE : Below w0.heap.size w0 w) (hv : ValOk L v) :
  Calls Tryz.prog 44 #[p.val,.string v] w (RepEnd w (repR L f p.loc v)):=by
 have HC1:=Lib.hid (Tryz.strings_CutPrefix v ⟨#[64]⟩)
 obtain ⟨D,hD⟩ : ∃ D,D=repR L f p.loc v:=⟨_,rfl⟩
 rw [← hD]
 obtain ⟨n0,l0,d0,t0⟩:=p
 have HB0:=Below.alloc1 w (Obj.cells #[Value.bool n0,Value.string l0,Value.string d0,Value.bool t0] 26)
 have HP:=(MapKept.heap_alloc w (Obj.cells #[Value.bool n0,Value.string l0,Value.string d0,Value.bool t0] 26)).1
 show Calls Tryz.prog 44 #[.agg #[.bool n0,.string l0,.string d0,.bool t0],.string v] w (RepEnd w D)
 have HE0 : Hid (∀ w',Below w.heap.size w w'→Below w0.heap.size w0 w'):=fun w' h=>hE.trans (h.mono hE.size)
 have HBB : Hid (Below w.heap.size w ((w.alloc (Obj.cells #[Value.bool n0,Value.string l0,Value.string d0,Value.bool t0] 26)).alloc (Obj.cells #[Value.bool false,Value.string ⟨#[]⟩,Value.string ⟨#[]⟩,Value.bool false] 26))):=below_step HB0 _
 have HPP : Hid (PathAt ((w.alloc (Obj.cells #[Value.bool n0,Value.string l0,Value.string d0,Value.bool t0] 26)).alloc (Obj.cells #[Value.bool false,Value.string ⟨#[]⟩,Value.string ⟨#[]⟩,Value.bool false] 26)) w.heap.size ⟨n0,l0,d0,t0⟩):=path_alloc (p:=⟨n0,l0,d0,t0⟩) HP _
 have HZZ : Hid (PathAt ((w.alloc (Obj.cells #[Value.bool n0,Value.string l0,Value.string d0,Value.bool t0] 26)).alloc (Obj.cells #[Value.bool false,Value.string ⟨#[]⟩,Value.string ⟨#[]⟩,Value.bool false] 26)) (w.heap.size + 1) PV.zero):=by
  have e:=(MapKept.heap_alloc (w.alloc (Obj.cells #[Value.bool n0,Value.string l0,Value.string d0,Value.bool t0] 26)) (Obj.cells #[Value.bool false,Value.string ⟨#[]⟩,Value.string ⟨#[]⟩,Value.bool false] 26)).1
  rw [alloc_size] at e
  exact e
 cases hpre : Lib.hasPrefix v.data.toList [64] with
 | true =>
  obtain ⟨x,hx⟩ : ∃ x : ByteArray,x=⟨(Lib.trimPrefix v.data.toList [64]).toArray⟩:=⟨_,rfl⟩
  have hxs : x.size≤v.size:=by
   rw [hx]
   show (Lib.trimPrefix v.data.toList [64]).toArray.size≤_
   rw [List.size_toArray]
   exact trim_le v
  have HT : Hid (D=(⟨false,l0,(domR L x).1,false⟩,decide ((domR L x).2.2=0) && !(domR L x).2.1)):=by
   show D=_
   rw [hD]; unfold repR; rw [if_pos hpre,← hx]
  have C1 : Hid (∀ W,Calls Tryz.prog 75 #[.string v,.string ⟨#[64]⟩] W fun e w'=>e=.returned (.tuple #[.string x,.bool true])∧w'=W):=fun W=>by
   have e:=HC1.out W
   rw [hpre,← hx] at e
   exact e
  have C2:=Lib.hid (fun W (hb : Below w.heap.size w W)=>pDomainP hL x W (HE0.out W hb) (by have:=hv.size; omega))
  generalize domR L x=r at C2 HT
  obtain ⟨d,t,c⟩:=r
  have C2 : Hid (∀ W,Below w.heap.size w W→Calls Tryz.prog 13 #[.string x] W fun e w'=>e=.returned (.tuple #[.string d,.bool t,.int .i64 c])∧Below W.heap.size W w'):=C2
  have HT : Hid (D=(⟨false,l0,d,false⟩,decide (c=0) && !t)):=HT
  clear HP HB0 hL hf hE hv HC1 hD hpre hx hxs HE0
  go_enter Tryz.func44,Tryz.ntmps44
  go_wp2_with (first | (go_at_call 75; refine (C1.out _).mono ?_; rintro ee W1 ⟨rfl,rfl⟩; refine Hid.out ?_) | (go_at_call 13; refine (C2.out _ HBB.out).mono ?_; rintro ee w1 ⟨rfl,hb⟩; refine Hid.out ?_) | fail)
  refine Lib.hid ?_
  go_wp2_with (first | (go_at_call 13; refine (C2.out _ HBB.out).mono ?_; rintro ee w1 ⟨rfl,hb⟩; refine Hid.out ?_) | fail)
  refine Lib.hid ?_
  have HB1:=Lib.hid (HBB.out.trans (hb.mono HBB.out.size))
  have p1:=HPP.out.on hb
  have z1:=HZZ.out.on hb
  obtain ⟨c0,c1,c2,c3,f0,f1,f2,f3⟩:=four_cells p1
  obtain ⟨y0,y1,y2,y3,g0,g1,g2,g3⟩:=four_cells z1
  have HZ1:=Lib.hid z1
  clear hb p1 z1
  by_cases hc : c=0
  ·subst hc
   go_wp2
   refine bodyPost_ret (results_path Tryz.results44 rfl rfl (path_four HZ1.out ⟨false,l0,d,false⟩)) rfl ?_
   rw [HT.out]
   exact ⟨by simp,below_four _ (by omega) HB1.out _ _ _ _⟩
  ·have e1 : (c == 0)=false:=beq_eq_false_iff_ne.2 hc
   have HT2 : Hid (D=(⟨false,l0,d,false⟩,false)):=by have e:=HT.out; rw [decide_eq_false hc] at e; exact e
   clear hc
   go_wp2
   refine bodyPost_ret (results_path Tryz.results44 rfl rfl (path_four HZ1.out ⟨false,l0,d,false⟩)) rfl ?_
   rw [HT2.out]
   exact ⟨rfl,below_four _ (by omega) HB1.out _ _ _ _⟩
 | false =>
  have hx : (⟨(Lib.trimPrefix v.data.toList [64]).toArray⟩ : ByteArray)=v:=by
   unfold Lib.trimPrefix; rw [hpre]
   exact ByteArray.ext (by simp)
  have HT : Hid (D=((mbxR L f v).1,decide ((mbxR L f v).2=0) && decide ((mbxR L f v).1.dom.size ≠ 0))):=by
   show D=_
   rw [hD]; unfold repR; rw [if_neg (by rw [hpre]; simp)]
  have C1 : Hid (∀ W,Calls Tryz.prog 75 #[.string v,.string ⟨#[64]⟩] W fun e w'=>e=.returned (.tuple #[.string v,.bool false])∧w'=W):=fun W=>by
   have e:=HC1.out W
   have hx2 : (⟨(Lib.trimPrefix v.data.toList (⟨#[64]⟩ : ByteArray).data.toList).toArray⟩ : ByteArray)=v:=hx
   have hp2 : Lib.hasPrefix v.data.toList (⟨#[64]⟩ : ByteArray).data.toList=false:=hpre
   rw [hp2,hx2] at e
   exact e
  have C2:=Lib.hid (fun W (hb : Below w.heap.size w W)=>pMailboxP hL hf v W (HE0.out W hb) hv.size hv.loc hv.dom)
  generalize mbxR L f v=r at C2 HT
  obtain ⟨⟨n,l,d,t⟩,c⟩:=r
  have C2 : Hid (∀ W,Below w.heap.size w W→Calls Tryz.prog 76 #[.string v] W fun e w'=>e=.returned (.tuple #[.agg #[.bool n,.string l,.string d,.bool t],.int .i64 c])∧Below W.heap.size W w'):=C2
  have HT : Hid (D=(⟨n,l,d,t⟩,decide (c=0) && decide (d.size ≠ 0))):=HT
  clear HP HB0 hL hf hE hv HC1 hD hpre hx HE0
  go_enter Tryz.func44,Tryz.ntmps44
  go_wp2_with (first | (go_at_call 75; refine (C1.out _).mono ?_; rintro ee W1 ⟨rfl,rfl⟩; refine Hid.out ?_) | fail)
  refine Lib.hid ?_
  go_wp2_with (first | (go_at_call 76; refine (C2.out _ HBB.out).mono ?_; rintro ee w1 ⟨rfl,hb⟩; refine Hid.out ?_) | fail)
  refine Lib.hid ?_
  have HB1:=Lib.hid (HBB.out.trans (hb.mono HBB.out.size))
  have z1:=HZZ.out.on hb
  have HZ1:=Lib.hid z1
  have hlt:=heap_lt z1
  have ne1 : ¬ w1.heap.size=w.heap.size + 1:=by omega
  have ne2 : ¬ w.heap.size + 1=w1.heap.size:=by omega
  obtain ⟨y0,y1,y2,y3,g0,g1,g2,g3⟩:=four_cells z1
  clear hb z1
  by_cases hc : c=0
  ·subst hc
   by_cases hd : d.size=0
   ·obtain rfl:=str_empty hd
    have HT2 : Hid (D=(⟨n,l,⟨#[]⟩,t⟩,false)):=HT.out
    clear hd HT
    go_wp2
    go_region
    go_wp2
    refine bodyPost_ret (results_path (p:=⟨n,l,⟨#[]⟩,t⟩) Tryz.results44 rfl rfl (show PathAt (World.drew _) _ _ from path_alloc (path_four HZ1.out ⟨n,l,⟨#[]⟩,t⟩) _)) rfl ?_
    rw [HT2.out]
    exact ⟨rfl,(below_step (below_four _ (by omega) HB1.out _ _ _ _) _).drew⟩
   ·obtain ⟨hn1,hn2⟩:=str_ne hd
    have HT2 : Hid (D=(⟨n,l,d,t⟩,true)):=by have e:=HT.out; rw [decide_eq_true hd] at e; exact e
    clear hd HT
    go_wp2
    go_region
    go_wp2
    refine bodyPost_ret (results_path (p:=⟨n,l,d,t⟩) Tryz.results44 rfl rfl (show PathAt (World.drew _) _ _ from path_alloc (path_four HZ1.out ⟨n,l,d,t⟩) _)) rfl ?_
    rw [HT2.out]
    exact ⟨rfl,(below_step (below_four _ (by omega) HB1.out _ _ _ _) _).drew⟩
  ·have e1 : (c == 0)=false:=beq_eq_false_iff_ne.2 hc
   have HT2 : Hid (D=(⟨n,l,d,t⟩,false)):=by have e:=HT.out; rw [decide_eq_false hc] at e; exact e
   clear hc HT
   go_wp2
   go_region
   go_wp2
   refine bodyPost_ret (results_path (p:=⟨n,l,d,t⟩) Tryz.results44 rfl rfl (show PathAt (World.drew _) _ _ from path_alloc (path_four HZ1.out ⟨n,l,d,t⟩) _)) rfl ?_
   rw [HT2.out]
   exact ⟨rfl,(below_step (below_four _ (by omega) HB1.out _ _ _ _) _).drew⟩
end Go.Proofs.YtghnopkgcgfcpaaGreatDoor.Path
set_option maxHeartbeats 16000000
set_option maxRecDepth 100000
namespace Go.Proofs.YtghnopkgcgfcpaaGreatDoor.Path
open Go.RowKit Base
def valsB (L : ByteArray→Nat→Bool × Nat × ByteArray) (f : ByteArray→ByteArray) (T : List Table.KV) : Bool:=T.all fun p=>(repR L f ⟨#[]⟩ ⟨p.2.toArray⟩).2
theorem all_take' {α : Type} {l : List α} {k : Nat} (p : α→Bool) (x : α) (h : l[k]?=some x) : (l.take (k + 1)).all p=((l.take k).all p && p x):=by
 rw [List.take_add_one,h,List.all_append]
 simp
theorem all_no {α : Type} {l : List α} {k : Nat} (p : α→Bool) (x : α) (h : l[k]?=some x) (hp : p x=false) : l.all p=false:=by
 rw [List.all_eq_false]
 exact ⟨x,List.mem_of_getElem? h,by rw [hp]; simp⟩
theorem pRightVals {w0 : World} {L : ByteArray→Nat→Bool × Nat × ByteArray} {f : ByteArray→ByteArray} (hL : LitOk w0 L) (hf : FormOk f) (b : Nat) (T : List Table.KV) (w : World) (hE : Below w0.heap.size w0 w) (hT : Table.TabAt 105 w b T) (hn : T.length≤1000000)
  (hV : ∀ p ∈ T,ValOk L ⟨p.2.toArray⟩) :
  Calls Tryz.prog 15 #[.pointer (some ⟨b,0,none⟩)] w fun e w'=>e=.returned (.bool (valsB L f T))∧Below w.heap.size w w':=by
 obtain ⟨D,hD⟩ : ∃ D,D=valsB L f T:=⟨_,rfl⟩
 rw [← hD]
 have HD : Hid (D=T.all fun p=>(repR L f ⟨#[]⟩ ⟨p.2.toArray⟩).2):=hD
 have C0:=Lib.hid (Table.pLen b T w hT)
 have C1:=Lib.hid (fun (k : Nat) (p : Table.KV) (W : World) (hb : Below w.heap.size w W) (hp : T[k]?=some p)=>Table.pAt b T k p W (hT.on hb) hp hn)
 have C2:=Lib.hid (fun (p : Table.KV) (W : World) (hb : Below w.heap.size w W) (hp : p ∈ T)=>pReplaced hL hf PV.zero ⟨p.2.toArray⟩ W (hE.trans (hb.mono hE.size)) (hV p hp))
 have HB0 : Hid (Below w.heap.size w w):=Below.refl _ _
 clear hL hf hE hT hV hD
 go_enter Tryz.func15,Tryz.ntmps15
 go_wp2_with (first | (go_at_call 42; refine C0.out.mono ?_; rintro ee W1 ⟨rfl,rfl⟩; refine Hid.out ?_) | fail)
 refine Lib.hid ?_
 go_wp2
 go_loopw [11] (fun i wx=>∃ k : Nat,k≤T.length∧i=.int .i64 (k : Int)∧Hid (Below w.heap.size w wx)∧Hid ((T.take k).all (fun p=>(repR L f ⟨#[]⟩ ⟨p.2.toArray⟩).2)=true)) (fun i _=>T.length - (intOf i).toNat)
 case atStart=>exact ⟨0,by omega,rfl,HB0,rfl⟩
 case round =>
  obtain ⟨k,hk,rfl,hB,hA⟩:=hrel
  by_cases hlt : k < T.length
  ·have i1 : (k : Int) < (T.length : Int):=by omega
   obtain ⟨p,hp⟩ : ∃ p,T[k]?=some p:=⟨_,List.getElem?_eq_getElem hlt⟩
   have CA : Hid (Calls Tryz.prog 43 #[.pointer (some ⟨b,0,none⟩),.int .i64 (k : Int)] wr fun e w'=>e=.returned (.tuple #[.string ⟨p.1.toArray⟩,.string ⟨p.2.toArray⟩,.bool true])∧Below wr.heap.size wr w'):=C1.out k p wr hB.out hp
   have CR:=Lib.hid (fun W hb=>C2.out p W hb (List.mem_of_getElem? hp))
   have HN:=Lib.hid (all_take' (fun p=>(repR L f ⟨#[]⟩ ⟨p.2.toArray⟩).2) p hp)
   have HNo : Hid ((repR L f ⟨#[]⟩ ⟨p.2.toArray⟩).2=false→D=false):=fun e=>by rw [HD.out]; exact all_no _ p hp e
   clear hp
   have CR : Hid (∀ W,Below w.heap.size w W→Calls Tryz.prog 44 #[.agg #[.bool false,.string ⟨#[]⟩,.string ⟨#[]⟩,.bool false],.string ⟨p.2.toArray⟩] W (RepEnd W (repR L f ⟨#[]⟩ ⟨p.2.toArray⟩))):=CR
   generalize (⟨p.1.toArray⟩ : ByteArray)=kx at CA
   generalize (⟨p.2.toArray⟩ : ByteArray)=vx at CA CR HN HNo
   generalize repR L f ⟨#[]⟩ vx=r at CR HN HNo
   obtain ⟨⟨n,l,d,t⟩,is⟩:=r
   have CR : Hid (∀ W,Below w.heap.size w W→Calls Tryz.prog 44 #[.agg #[.bool false,.string ⟨#[]⟩,.string ⟨#[]⟩,.bool false],.string vx] W fun e w'=>e=.returned (.tuple #[.agg #[.bool n,.string l,.string d,.bool t],.bool is])∧Below W.heap.size W w'):=CR
   go_wp2_with (first | (go_at_call 43; refine CA.out.mono ?_; rintro ee w1 ⟨rfl,hb⟩; refine Hid.out ?_) | fail)
   refine Lib.hid ?_
   have HB1:=Lib.hid (hB.out.trans (hb.mono hB.out.size))
   clear hb
   go_wp2_with (first | (go_at_call 44; refine (CR.out _ HB1.out).mono ?_; rintro ee w2 ⟨rfl,hb⟩; refine Hid.out ?_) | fail)
   refine Lib.hid ?_
   have HB2:=Lib.hid (HB1.out.trans (hb.mono HB1.out.size))
   clear hb
   cases is with
   | false =>
    have HT : Hid (D=false):=HNo.out rfl
    clear HN HNo hA
    go_wp2
    go_ret
    exact ⟨by rw [HT.out]; rfl,below_step HB2.out _⟩
   | true =>
    have HN2 : Hid ((T.take (k + 1)).all (fun p=>(repR L f ⟨#[]⟩ ⟨p.2.toArray⟩).2)=true):=by show _=_; rw [HN.out,hA.out]; rfl
    clear HN HNo hA
    go_wp2
    go_roundw
    case rel=>exact ⟨k + 1,by omega,by go_num,below_step HB2.out _,HN2⟩
    case measure=>simp [intOf]; omega
  ·have i1 : ¬ (k : Int) < (T.length : Int):=by omega
   have HT : Hid (D=true):=by
    show _=_
    have e:=hA.out
    rw [List.take_of_length_le (by omega)] at e
    rw [HD.out,e]
   clear hA
   go_wp2
   go_ret
   exact ⟨by rw [HT.out]; rfl,hB.out⟩
end Go.Proofs.YtghnopkgcgfcpaaGreatDoor.Path
namespace Go.Proofs.YtghnopkgcgfcpaaGreatDoor.Path
open Go.RowKit Base
structure Tri where
 pb : Nat
 sv : Value
 tab : List Table.KV
def triV (q : Tri) : Value:=.pointer (some ⟨q.pb,0,none⟩)
structure TriAt (w : World) (q : Tri) : Prop where
 p : w.heap[q.pb]?=some (.cells #[q.sv] 105 (0,0))
 pr : Table.Rows2 w q.sv q.tab
 good : Table.Good q.tab
theorem rows_same {w w' : World} {v : Value} {T : List Table.KV} (h : Table.Rows2 w v T) (hk : ∀ g,T ≠ []→v.ownBlock=some g→g < w.heap.size→w'.heap[g]?=w.heap[g]?) : Table.Rows2 w' v T:=by
 by_cases hT : T=[]
 ·subst hT
  rcases h with h | ⟨b,o,c,rfl,h1,_⟩
  ·exact Or.inl h
  ·exact Or.inr ⟨b,o,c,rfl,h1,fun i p hp=>by simp at hp⟩
 ·exact h.kept fun b hb hl=>hk b hT hb hl
theorem rows_low {w : World} {v : Value} {T : List Table.KV} (h : Table.Rows2 w v T) (hT : T ≠ []) {g : Nat} (hg : v.ownBlock=some g) : g < w.heap.size:=by
 obtain ⟨a,c,rfl,_⟩:=h.form
 match T,hT with
 | p :: r,_ =>
  obtain ⟨b,o,rfl,h1,_⟩:=h.cell (i:=0) (p:=p) rfl
  cases hg
  exact cell_lt h1
theorem TriAt.on {w w' : World} {q : Tri} (h : TriAt w q) (hb : Below w.heap.size w w') : TriAt w' q :=
 ⟨(hb.block _ (heap_lt h.p)).trans h.p,h.pr.on hb,h.good⟩
structure NInv (w wr : World) (lv : Value) (Es : List Tri) : Prop where
 below : Below w.heap.size w wr
 row : wr.ownsRow w.heap.size 47 1 lv Es.length (Es.map triV)
 tabs : ∀ q ∈ Es,TriAt wr q∧∀ g,lv.ownBlock=some g→q.tab ≠ []→q.sv.ownBlock ≠ some g
theorem NInv.start (w : World) : NInv w w (.slice none 0 0) []:=⟨Below.refl _ _,World.ownsRow_nil _ _ _ _,fun q h=>by simp at h⟩
theorem NInv.on {w wr w' : World} {lv : Value} {Es : List Tri} (h : NInv w wr lv Es) (hb : Below wr.heap.size wr w') : NInv w w' lv Es :=
 ⟨h.below.trans (hb.mono h.below.size),Table.row_kept h.row fun b hx=>hb.block b (World.ownsRow.lt h.row b hx).2,fun q hq=>⟨(h.tabs q hq).1.on hb,(h.tabs q hq).2⟩⟩
theorem NInv.ne {w wr : World} {lv : Value} {Es : List Tri} (h : NInv w wr lv Es) {q : Tri} (hq : q ∈ Es) {g : Nat} (hg : lv.ownBlock=some g) : q.pb ≠ g:=by
 have hc:=(h.tabs q hq).1
 obtain ⟨cs,fz,h1⟩:=Table.row_type h.row hg
 exact fun e=>(by have:=hc.p; rw [e,h1] at this; cases this)
structure NTab (w wr : World) (lv : Value) (Es : List Tri) (q : Tri) : Prop where
 inv : NInv w wr lv Es
 tab : TriAt wr q
 off : ∀ g,lv.ownBlock=some g→q.sv.ownBlock ≠ some g
 ne : ∀ g,lv.ownBlock=some g→q.pb ≠ g
theorem NTab.on {w wr w' : World} {lv : Value} {Es : List Tri} {q : Tri} (h : NTab w wr lv Es q) (hb : Below wr.heap.size wr w') : NTab w w' lv Es q:=⟨h.inv.on hb,h.tab.on hb,h.off,h.ne⟩
theorem NInv.read {w wr w1 : World} {lv : Value} {Es : List Tri} (h : NInv w wr lv Es) (hb : Below wr.heap.size wr w1) {b : Nat} {T : List Table.KV} (hp : Table.TabNew 105 wr w1 b T) (hg : Table.Good T) : ∃ q : Tri,q.pb=b∧q.tab=T∧NTab w w1 lv Es q:=by
 obtain ⟨sv,p1,p2,p3,p4⟩:=hp
 refine ⟨⟨b,sv,T⟩,rfl,rfl,h.on hb,⟨p1,p2,hg⟩,fun g e=>?_,fun g e=>?_⟩
 ·obtain ⟨cs,fz,k1⟩:=Table.row_type h.row e
  exact p4 _ _ _ _ k1 (by decide)
 ·have:=(World.ownsRow.lt h.row g e).2
  show b ≠ g
  omega
theorem NTab.add {w wr w' : World} {lv v' : Value} {Es : List Tri} {q : Tri} (h : NTab w wr lv Es q) (hr : w'.ownsRow w.heap.size 47 1 v' (Es.length + 1) (Es.map triV++[triV q])) (hg : wr.grownBy w' lv.ownBlock) (ha : v'.ownBlock=lv.ownBlock∨v'.ownBlock=some wr.heap.size) : NInv w w' v' (Es++[q]):=by
 have hbl : Below w.heap.size w w':=h.inv.below.trans ((Below.refl _ _).grown hg h.inv.below.size (fun j hj=>(World.ownsRow.lt h.inv.row j hj).1))
 obtain ⟨_,_,_,hs,hbk⟩:=hg
 have key : ∀ p : Tri,TriAt wr p→(∀ g,lv.ownBlock=some g→p.pb ≠ g)→(∀ g,lv.ownBlock=some g→p.tab ≠ []→p.sv.ownBlock ≠ some g)→TriAt w' p∧∀ g,v'.ownBlock=some g→p.tab ≠ []→p.sv.ownBlock ≠ some g:=fun p hc hne ho=>by
  refine ⟨⟨(hbk _ (heap_lt hc.p) (fun e=>hne _ e.symm rfl)).trans hc.p,rows_same hc.pr (fun g hT hb hlt=>hbk g hlt (fun e=>ho g e.symm hT hb)),hc.good⟩,fun g e hT=>?_⟩
  rcases ha with ha | ha
  ·exact ho g (by rw [← ha]; exact e) hT
  ·rw [ha] at e
   cases e
   exact fun e=>by have:=rows_low hc.pr hT e; omega
 refine ⟨hbl,by rw [List.length_append,List.map_append]; exact hr,fun p hp=>?_⟩
 rcases List.mem_append.1 hp with hp | hp
 ·exact key p (h.inv.tabs p hp).1 (fun g e=>h.inv.ne hp e) (h.inv.tabs p hp).2
 ·rw [List.mem_singleton.1 hp]
  exact key q h.tab h.ne (fun g e _=>h.off g e)
theorem info_ptr : (Tryz.prog.info? 47).map (fun i=>(i.zero,i.size,i.bytes))=some (some (.pointer none),1,8):=by kernel_rfl
theorem wp_addT {w wr : World} {lv : Value} {Es : List Tri} {q : Tri} {ops : Array Oper} {rest : List Oper} {o : Oper} {a : Act} {Q : Exit→Act→World→Prop} (hgd : o.guard=none) (s y : Operand) (ho : o.op=.call { callee:=.builtin .append,args:=#[s,y],argTypes:=#[46,46] })
  (h : NTab w wr lv Es q) (hn : Es.length≤1000000) {nb : Nat} (hs : a.eval s=lv) (hx : a.eval y=.slice (some ⟨nb,0,none⟩) 1 1) (hnb : wr.heap.size=nb)
  (hK : ∀ v' w',NInv w w' v' (Es++[q])→wpList Tryz.prog ops Q rest (a.put o.dst v') w') :
  wpList Tryz.prog ops Q (o :: rest) a (wr.alloc (.cells #[.pointer (some ⟨q.pb,0,none⟩)] 47)):=by
 subst hnb
 obtain ⟨i0,hi,hz0,hz1,hz2⟩:=info_parts info_ptr
 have h1:=h.on (Below.alloc1 wr (.cells #[.pointer (some ⟨q.pb,0,none⟩)] 47))
 refine wpList_append_row _ hgd s y 46 ho w.heap.size 47 i0 (.pointer none) 8 Tryz.underlying46 hi hz0 hz1 hz2 rfl lv _ Es.length (Es.map triV) [triV q] hs hx h1.inv.row (vreads_one _ _ _) (fun u hu=>by rw [List.mem_singleton.1 hu]; rfl) (by rw [List.length_singleton]; omega) (by rw [List.length_singleton]; omega) h1.inv.below.size (fun v' w' o2 g2 a2=>?_)
 exact hK v' w' (h1.add o2 g2 a2)
end Go.Proofs.YtghnopkgcgfcpaaGreatDoor.Path
