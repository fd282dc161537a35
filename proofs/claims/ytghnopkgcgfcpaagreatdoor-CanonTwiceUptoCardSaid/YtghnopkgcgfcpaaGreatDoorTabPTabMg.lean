/-
  MERGED by mergefill.py: TabPTab, TabPSm, TabPSpl, TabPrs0.
-/
import Derived.Test.YtghnopkgcgfcpaaGreatDoorTabPEndMg
import Derived.Shelf.SlSortCmp.NoneTotal
import Derived.Test.YtghnopkgcgfcpaaGreatDoorTabLinesMg
import Derived.Lib.LaidTab
import Derived.Lib.IndexBytes
import Derived.Lib.IndexLaws
import Derived.Lib.SplitLaws
import Derived.Lib.CountLaws
import Derived.Lib.CutLaws
import Derived.Lib.Split
import Derived.Test.YtghnopkgcgfcpaaGreatDoorTabRParMg
set_option maxHeartbeats 16000000
set_option maxRecDepth 100000
namespace Go.Proofs.YtghnopkgcgfcpaaGreatDoor.Table
open Go.RowKit Base
open Go.Sort (grow)
def cfK (a b : KV) : Int:=Lib.compareBytes a.1 b.1
theorem ltK (a b : KV) : ltOf cfK a b=decide (a.1 < b.1):=by
 unfold ltOf cfK
 exact decide_eq_decide.2 (by rw [cmp_less])
theorem irrK (a : List UInt8) : ¬ a < a:=by
 rw [← cmp_less a a]
 have : Lib.compareBytes a a=0:=(cmp_same a a).mpr rfl
 omega
theorem swoK : Go.Sort.SWO (ltOf cfK) where
 irrefl x:=by rw [ltK]; exact decide_eq_false (irrK _)
 trans x y z h1 h2:=by
  rw [ltK] at *
  exact decide_eq_true (bytes_trans (of_decide_eq_true h1) (of_decide_eq_true h2))
 ntrans x y z h1 h2:=by
  rw [ltK] at *
  have h1:=of_decide_eq_false h1
  have h2:=of_decide_eq_false h2
  refine decide_eq_false (fun h=>?_)
  rcases bytes_total x.1 y.1 with h3 | h3 | h3
  ·exact h1 h3
  ·rw [h3] at h; exact h2 h
  ·exact h2 (bytes_trans h3 h)
theorem pCmpK (x y : KV) (w : World) : Calls Tryz.prog 73 #[.agg #[S x.1,S x.2],.agg #[S y.1,S y.2]] w fun e w'=>e=.returned (.int .i64 (cfK x y))∧∃ q os',w'=grow (w.drewN q) os':=by
 have HC:=Lib.hid (fun w=>Tryz.strings_Compare ⟨x.1.toArray⟩ ⟨y.1.toArray⟩ w)
 have HK : Hid (Lib.compareBytes x.1 y.1=cfK x y):=rfl
 go_enter Tryz.func73,Tryz.ntmps73
 go_wp2_with (first | (go_at_call 74; refine (HC.out _).mono ?_; rintro e w' ⟨rfl,rfl⟩; refine Hid.out ?_) | fail)
 refine Lib.hid ?_
 go_wp2
 go_ret
 exact ⟨by rw [← HK.out]; rfl,0,_,by rw [Go.Sort.alloc_eq_grow,Go.Sort.alloc_eq_grow,Go.Sort.grow_grow]; rfl⟩
theorem grownBy_K {w : World} {g off n : Nat} {os : Array Obj} (d : Array KV) : w.grownBy (sortWorldK enc2 2 w g off n d os) (some g):=by
 unfold sortWorldK Go.Sort.putRowK
 refine ⟨rfl,rfl,rfl,by simp,fun k hk hne=>?_⟩
 rw [Go.Sort.heap_grow_old _ _ (by simpa using hk)]
 have : g ≠ k:=fun e=>hne (by rw [e])
 simp [Go.Sort.putRow,Go.Sort.mapBlock,Go.Sort.ahead,Array.getElem?_modify,this]
theorem holds_row {w : World} {B g cap n : Nat} {E : List KV} (h : w.ownsRow B 132 2 (.slice (some ⟨g,0,none⟩) n cap) n (E.flatMap enc2)) (hn : n=E.length) : Go.Sort.HoldsK enc2 2 w g 0 E.toArray:=by
 subst hn
 intro j hj
 rw [Go.Sort.size_flatK] at hj
 have hj2 : j < E.length * 2:=by simpa using hj
 rw [Go.Sort.get_flatK _ _ _ _ hj]
 obtain ⟨p,hp⟩ : ∃ p,E[j / 2]?=some p:=⟨E[j / 2],List.getElem?_eq_getElem (by omega)⟩
 have hd : E.toArray[j / 2]! = p:=by
  have hl : j / 2 < E.length:=by omega
  rw [getElem!_pos E.toArray (j / 2) (by simpa using hl)]
  have:=(List.getElem?_eq_some_iff.1 hp).2
  simpa using this
 have h2:=flat2 E (j / 2) (j % 2) p hp (by omega)
 rw [show j / 2 * 2 + j % 2=j by omega] at h2
 refine ⟨?_,World.ownsRow.frozenAt h _⟩
 rw [Nat.zero_add,World.ownsRow.cellAt h j (by omega),h2,hd]
 have hm : j % 2 < (enc2 p).length:=by simp [enc2]; omega
 show (enc2 p)[j % 2]?=some (enc2 p)[j % 2]!
 rw [List.getElem?_eq_getElem hm,getElem!_pos (enc2 p) (j % 2) hm]
theorem rows_sorted {w : World} {g cap : Nat} {d : Array KV} (h : Go.Sort.HoldsK enc2 2 w g 0 d) (hc : d.size≤cap) : Rows2 w (.slice (some ⟨g,0,none⟩) d.size cap) d.toList:=by
 refine Or.inr ⟨g,0,cap,by simp,by simpa using hc,fun i p hp=>?_⟩
 have hi : i < d.size:=by have:=(List.getElem?_eq_some_iff.1 hp).1; simpa using this
 have hd : d[i]! = p:=by
  rw [getElem!_pos d i hi]
  have:=(List.getElem?_eq_some_iff.1 hp).2
  simpa using this
 have c0:=(h.cell hi (c:=0) (by omega)).1
 have c1:=(h.cell hi (c:=1) (by omega)).1
 rw [hd] at c0 c1
 exact ⟨c0,c1⟩
def SortedK (T : List KV) : Prop:=T.Pairwise fun p q=>¬ q.1 < p.1
theorem sorted_of {d : Array KV} (h : Go.Sort.SortedIn (ltOf cfK) 0 d.size d) : SortedK d.toList:=by
 unfold SortedK
 rw [List.pairwise_iff_getElem]
 intro i j hi hj hij
 have hi' : i < d.size:=by simpa using hi
 have hj' : j < d.size:=by simpa using hj
 have:=h i j (Nat.zero_le _) hij hj'
 rw [ltK,getElem!_pos d i hi',getElem!_pos d j hj'] at this
 simpa using of_decide_eq_false this
theorem perm_of {d d' : Array KV} (h : Go.Sort.PermIn 0 d.size d d') : d'.size=d.size∧d'.toList.Perm d.toList:=by
 obtain ⟨h1,_,h3⟩:=h
 refine ⟨h1,?_⟩
 have e1 : d'.extract 0 d.size=d':=by rw [← h1]; simp
 have e2 : d.extract 0 d.size=d:=by simp
 rwa [e1,e2] at h3
def TableEnd (B : Nat) (w : World) (E : List KV) (e : Ending) (w' : World) : Prop:=∃ b T sv,e=.returned (.pointer (some ⟨b,0,none⟩))∧T.Perm E∧SortedK T∧w'.heap[b]?=some (.cells #[sv] 105 (0,0))∧Rows2 w' sv T∧(∀ (q : Nat) (cs : Array Value) (t : TypeId) (fz : Nat × Nat),w.heap[q]?=some (.cells cs t fz)→t ≠ 132→sv.ownBlock ≠ some q)∧w.heap.size≤b∧PStep B w w'
theorem table_end {B : Nat} {w w2 : World} {E T : List KV} {sv : Value} (h1 : T.Perm E) (h2 : SortedK T) (h3 : Rows2 w2 sv T) (h4 : PStep B w w2) (hB : B≤w2.heap.size) (h5 : ∀ (q : Nat) (cs : Array Value) (t : TypeId) (fz : Nat × Nat),w.heap[q]?=some (.cells cs t fz)→t ≠ 132→sv.ownBlock ≠ some q) : TableEnd B w E (.returned (.pointer (some ⟨w2.heap.size,0,none⟩))) (w2.alloc (.cells #[sv] 105)) :=
 ⟨_,T,sv,rfl,h1,h2,(MapKept.heap_alloc w2 _).1,h3.on (Below.alloc1 _ _),h5,h4.below.size,h4.trans (PStep.of_below (Below.alloc1 _ _) hB)⟩
theorem pTable (B : Nat) (w : World) (rb mb : Nat) (E : List KV) (o : Bool) (s : Int) (key val : List UInt8) (h : RSt B w rb mb E o s key val) (he : E.length≤1000000) :
  Calls Tryz.prog 40 #[.pointer (some ⟨rb,0,none⟩)] w (TableEnd B w E):=by
 obtain ⟨ev,vv,hx⟩:=h
 obtain ⟨c0,c1,c2,c3,c4,c5,c6⟩:=hx.cells
 have HX:=Lib.hid hx
 rcases hx.row.2 with ⟨rfl,hn⟩ | ⟨g,cap,cur,rfl,hBg,hb,hcap,_⟩
 ·obtain rfl : E=[]:=List.eq_nil_of_length_eq_zero hn
  have HS : Hid (Calls Tryz.prog 72 #[.slice none 0 0,.func (.func 73) #[] #[]] w fun e w'=>e=.returned (.tuple #[])∧w=w'):=(AnyF.slices_SortFunc_none (P:=Tryz.prog) { Tryz.sortE with } none 0 (.func (.func 73) #[] #[]) w).mono fun e w' h=>⟨h.1,h.2.symm⟩
  have HE : Hid (TableEnd B w [] (.returned (.pointer (some ⟨w.heap.size,0,none⟩))) (w.alloc (.cells #[.slice none 0 0] 105))):=table_end (T:=[]) (List.Perm.refl _) List.Pairwise.nil (Or.inl ⟨rfl,none,0,rfl,fun _=>rfl⟩) ⟨Below.refl _ _,KeepTy.refl _⟩ HX.out.bge (fun q cs t fz _ _ e=>by cases e)
  clear hx c1 c2 c3 c4 c5 c6
  go_enter Tryz.func40,Tryz.ntmps40
  go_wp2_with (first | (go_at_call 72; (with_reducible refine HS.out.mono ?_); rintro e w1 ⟨rfl,rfl⟩; refine Hid.out ?_) | fail)
  refine Lib.hid ?_
  go_wp2
  go_ret
  exact HE.out
 ·have eg : ∀ args w,(callFunc 73 args).run Tryz.prog w=.ok (.enter 73 args) w:=enters_of Tryz.func73 (by kernel_rfl) rfl
  have hH:=holds_row hx.row rfl
  have hS:=AnyQ.slices_SortFunc (P:=Tryz.prog) Tryz.sortE 2 Tryz.isAgg132 Tryz.sizeOf132 enc2 (fun _=>rfl) (fun x v hv=>by simp [enc2] at hv; rcases hv with rfl | rfl <;> rfl) cfK swoK 73 #[] g 0 cap E.toArray w eg (fun m os dk _ x y=>pCmpK x y _) hH (heap_lt hb) (by simp; omega)
  have HS : Hid (Calls Tryz.prog 72 #[.slice (some ⟨g,0,none⟩) E.length cap,.func (.func 73) #[] #[]] w fun e w'=>e=.returned (.tuple #[])∧w.grownBy w' (some g)∧∃ T : List KV,T.Perm E∧SortedK T∧T.length=E.length∧Rows2 w' (.slice (some ⟨g,0,none⟩) E.length cap) T):=by
   have hsz : E.toArray.size=E.length:=by simp
   rw [hsz] at hS
   refine hS.mono fun e w' ⟨h1,d',n,os,h2,h3,h4⟩=>?_
   have hp:=perm_of (d:=E.toArray) (by rw [hsz]; exact h2)
   subst h4
   refine ⟨h1,grownBy_K d',d'.toList,by simpa using hp.2,?_,by simpa using hp.1,?_⟩
   ·refine sorted_of ?_
    rw [hp.1,hsz]; exact h3
   ·have hh:=holdsK_sortWorldK_c enc2 2 w g 0 E.toArray d' n os hH (heap_lt hb) hp.1
    have:=rows_sorted hh (cap:=cap) (by rw [hp.1,hsz]; exact hcap)
    rw [hp.1,hsz] at this
    exact this
  have hne : rb ≠ g:=fun e=>by have:=hx.box; rw [e,hb] at this; cases this
  have HFX : Hid (∀ w1,w.grownBy w1 (some g)→PStep B w w1∧w1.cell? ⟨rb,0,none⟩=some (.slice (some ⟨g,0,none⟩) E.length cap)):=fun w1 hg=>by
   have hbl : Below B w w1:=(Below.refl _ _).grown hg hx.bge (fun j hj=>by cases hj; exact hBg)
   obtain ⟨_,_,_,_,hbk⟩:=hg
   refine ⟨⟨hbl,fun k cs t fz hk _ h84 _=>?_⟩,?_⟩
   ·rw [hbk k (heap_lt hk) (fun e=>by cases e; rw [hb] at hk; cases hk; exact h84 rfl)]; exact hk
   ·exact cell_of_row w1 rb 0 _ _ _ ((hbk rb (heap_lt hx.box) (fun e=>hne (by cases e; rfl))).trans hx.box)
  have HQ : Hid (∀ (q : Nat) (cs : Array Value) (t : TypeId) (fz : Nat × Nat),w.heap[q]?=some (.cells cs t fz)→t ≠ 132→(Value.slice (some ⟨g,0,none⟩) E.length cap).ownBlock ≠ some q):=fun q cs t fz hq ht e=>by cases e; rw [hb] at hq; cases hq; exact ht rfl
  clear hx c1 c2 c3 c4 c5 c6 eg hH hS hb hne
  go_enter Tryz.func40,Tryz.ntmps40
  go_wp2_with (first | (go_at_call 72; (with_reducible refine HS.out.mono ?_); rintro e w1 ⟨rfl,hg,T,t1,t2,t3,t4⟩; refine Hid.out ?_) | fail)
  refine Lib.hid ?_
  obtain ⟨p1,d1⟩:=HFX.out w1 hg
  have HE:=Lib.hid (table_end t1 t2 t4 p1 (Nat.le_trans HX.out.bge p1.below.size) HQ.out)
  clear hg t1 t2 t3 t4 p1
  go_wp2
  go_ret
  exact HE.out
end Go.Proofs.YtghnopkgcgfcpaaGreatDoor.Table
set_option maxHeartbeats 16000000
set_option maxRecDepth 100000
namespace Go.Proofs.YtghnopkgcgfcpaaGreatDoor.Table
open Go.RowKit Base
def badF (l : List UInt8) : Nat × Nat:=match badK l l.length with
 | []=>(0,0)
 | i :: _=>(61,i)
theorem badK_more (l : List UInt8) (m : Nat) : ∀ (d : Nat),∃ r,badK l (m + d)=badK l m++r
 | 0=>⟨[],by simp⟩
 | d + 1=>by
  obtain ⟨r,hr⟩:=badK_more l m d
  cases h : isOkB (l.getD (m + d) 0)
  ·exact ⟨r++[m + d],by rw [← Nat.add_assoc,badK_no h,hr,List.append_assoc]⟩
  ·exact ⟨r,by rw [← Nat.add_assoc,badK_yes h,hr]⟩
theorem badF_at {l : List UInt8} {k : Nat} (h0 : badK l k=[]) (hk : k < l.length) (hb : isOkB (l.getD k 0)=false) : badF l=(61,k):=by
 obtain ⟨r,hr⟩:=badK_more l (k + 1) (l.length - (k + 1))
 rw [show k + 1 + (l.length - (k + 1))=l.length by omega,badK_no hb,h0] at hr
 unfold badF
 rw [hr]; rfl
def fltV (f : Nat × Nat) : Value:=.agg #[.int .i64 (f.1 : Int),.int .i64 (f.2 : Int)]
theorem pBad (s : ByteArray) (w : World) (hs : s.size≤1000000) : Calls Tryz.prog 33 #[.string s] w fun e w'=>e=.returned (fltV (badF s.data.toList))∧Below w.heap.size w w':=by
 obtain ⟨fl,hfl⟩ : ∃ fl,fl=badF s.data.toList:=⟨_,rfl⟩
 have HFL:=Lib.hid hfl
 rw [← hfl]
 clear hfl
 have hbx:=(MapKept.heap_alloc w (.cells #[.int .i64 0,.int .i64 0] 49)).1
 obtain ⟨wb,hwb⟩ : ∃ wb,wb=w.alloc (.cells #[.int .i64 0,.int .i64 0] 49):=⟨_,rfl⟩
 have HB0 : Hid (Below w.heap.size w wb):=by rw [hwb]; exact Below.alloc1 _ _
 rw [← hwb] at hbx
 have HBX:=Lib.hid hbx
 have HWB:=Lib.hid hwb
 clear hbx hwb
 go_enter Tryz.func33,Tryz.ntmps33
 go_wp2
 rw [← HWB.out]
 go_loop [3] (fun i=>∃ k : Nat,k≤s.size∧i=.int .i64 k∧Hid (badK s.data.toList k=[])) (fun i=>s.size - (intOf i).toNat)
 case atStart=>exact ⟨0,by omega,rfl,rfl⟩
 case round =>
  obtain ⟨k,hk,rfl,HK⟩:=hrel
  have i0 : (0 : Int)≤(k : Int):=by omega
  by_cases hlt : k < s.size
  ·have i1 : (k : Int) < (s.size : Int):=by omega
   have HG:=Lib.hid (str_get s k hlt)
   have hx:=s[k].toNat_lt
   have HY : isOkB s[k]=true→Hid (badK s.data.toList (k + 1)=[]):=fun h=>by show _=_; rw [badK_yes (by rw [HG.out]; exact h)]; exact HK.out
   have HNO : isOkB s[k]=false→Hid (fl=(61,k)):=fun h=>by show _=_; rw [HFL.out]; exact badF_at HK.out (by rw [str_len]; exact hlt) (by rw [HG.out]; exact h)
   by_cases h9 : s[k].toNat=9
   ·have e1 : ((s[k].toNat : Int) != 9)=false:=by rw [h9]; rfl
    have HB:=HY (by simp [isOkB,h9])
    clear HY HNO h9
    go_wp2
    go_round
    case rel=>exact ⟨k + 1,by omega,by go_num,HB⟩
    case measure=>simp [intOf]; omega
   ·have e1 : ((s[k].toNat : Int) != 9)=true:=by rw [bne_iff_ne]; omega
    by_cases h10 : s[k].toNat=10
    ·have e2 : ((s[k].toNat : Int) != 10)=false:=by rw [h10]; rfl
     have HB:=HY (by simp [isOkB,h10])
     clear HY HNO h9 h10
     go_wp2
     go_round
     case rel=>exact ⟨k + 1,by omega,by go_num,HB⟩
     case measure=>simp [intOf]; omega
    ·have e2 : ((s[k].toNat : Int) != 10)=true:=by rw [bne_iff_ne]; omega
     by_cases h32 : 32≤s[k].toNat
     ·have e3 : ¬ (s[k].toNat : Int) < 32:=by omega
      by_cases h126 : s[k].toNat≤126
      ·have e4 : ¬ (126 : Int) < (s[k].toNat : Int):=by omega
       have HB:=HY (by simp [isOkB,h32,h126])
       clear HY HNO h9 h10 h32 h126
       go_wp2
       go_round
       case rel=>exact ⟨k + 1,by omega,by go_num,HB⟩
       case measure=>simp [intOf]; omega
      ·have e4 : (126 : Int) < (s[k].toNat : Int):=by omega
       have HF:=HNO (by simp [isOkB,h9,h10]; omega)
       clear HY HNO h9 h10 h32 h126
       obtain ⟨y1,y2,y3,y4⟩:=two_cells HBX.out
       go_wp2
       obtain ⟨z1,z2,_,_⟩:=two_cells (set_two HBX.out (.int .i64 61) (.int .i64 (k : Int)))
       exact bodyPost_ret (v:=.agg #[.int .i64 61,.int .i64 (k : Int)]) (by simp [results,Tryz.results33,go_sem,z1,z2]) rfl ⟨by rw [HF.out]; rfl,(HB0.out.setCell (Nat.le_refl _) _).setCell (Nat.le_refl _) _⟩
     ·have e3 : (s[k].toNat : Int) < 32:=by omega
      have HF:=HNO (by simp [isOkB,h9,h10]; omega)
      clear HY HNO h9 h10 h32
      obtain ⟨y1,y2,y3,y4⟩:=two_cells HBX.out
      go_wp2
      obtain ⟨z1,z2,_,_⟩:=two_cells (set_two HBX.out (.int .i64 61) (.int .i64 (k : Int)))
      exact bodyPost_ret (v:=.agg #[.int .i64 61,.int .i64 (k : Int)]) (by simp [results,Tryz.results33,go_sem,z1,z2]) rfl ⟨by rw [HF.out]; rfl,(HB0.out.setCell (Nat.le_refl _) _).setCell (Nat.le_refl _) _⟩
  ·have i1 : ¬ (k : Int) < (s.size : Int):=by omega
   have HF : Hid (fl=(0,0)):=by
    have hk2 : k=s.data.toList.length:=by rw [str_len]; omega
    show _=_
    rw [HFL.out]; unfold badF
    rw [← hk2,HK.out]
   obtain ⟨y1,y2,y3,y4⟩:=two_cells HBX.out
   go_wp2
   obtain ⟨z1,z2,_,_⟩:=two_cells (set_two HBX.out (.int .i64 0) (.int .i64 0))
   exact bodyPost_ret (v:=.agg #[.int .i64 0,.int .i64 0]) (by simp [results,Tryz.results33,go_sem,z1,z2]) rfl ⟨by rw [HF.out]; rfl,(HB0.out.setCell (Nat.le_refl _) _).setCell (Nat.le_refl _) _⟩
def firstF (a b : Nat × Nat) : Nat × Nat:=if b.1=0∨(a.1 ≠ 0∧a.2≤b.2) then a else b
theorem pFirst (a b : Nat × Nat) (w : World) : Calls Tryz.prog 41 #[fltV a,fltV b] w fun e w'=>e=.returned (fltV (firstF a b))∧Below w.heap.size w w':=by
 obtain ⟨a1,a2⟩:=a
 obtain ⟨b1,b2⟩:=b
 have HBB : ∀ o1 o2 o3 : Obj,Below w.heap.size w (((w.alloc o1).alloc o2).alloc o3):=fun o1 o2 o3=>(((Below.refl _ _).alloc (Nat.le_refl _) _).alloc (by simp) _).alloc (by simp; omega) _
 unfold fltV
 by_cases h1 : b1=0
 ·have HF : Hid (firstF (a1,a2) (b1,b2)=(a1,a2)):=by show _=_; unfold firstF; rw [if_pos (Or.inl h1)]
  have e1 : ((b1 : Int) == 0)=true:=by rw [h1]; rfl
  clear h1
  go_enter Tryz.func41,Tryz.ntmps41
  go_wp2
  exact bodyPost_ret (v:=.agg #[.int .i64 (a1 : Int),.int .i64 (a2 : Int)]) (by simp [results,Tryz.results41,go_sem]) rfl ⟨by rw [HF.out],HBB _ _ _⟩
 ·have e1 : ((b1 : Int) == 0)=false:=by rw [beq_eq_false_iff_ne]; omega
  by_cases h2 : a1=0
  ·have HF : Hid (firstF (a1,a2) (b1,b2)=(b1,b2)):=by show _=_; unfold firstF; rw [if_neg (fun h=>h.elim h1 (fun h=>h.1 h2))]
   have e2 : ((a1 : Int) != 0)=false:=by rw [h2]; rfl
   clear h1 h2
   go_enter Tryz.func41,Tryz.ntmps41
   go_wp2
   exact bodyPost_ret (v:=.agg #[.int .i64 (b1 : Int),.int .i64 (b2 : Int)]) (by simp [results,Tryz.results41,go_sem]) rfl ⟨by rw [HF.out],HBB _ _ _⟩
  ·have e2 : ((a1 : Int) != 0)=true:=by rw [bne_iff_ne]; omega
   by_cases h3 : a2≤b2
   ·have HF : Hid (firstF (a1,a2) (b1,b2)=(a1,a2)):=by show _=_; unfold firstF; rw [if_pos (Or.inr ⟨h2,h3⟩)]
    have e3 : (a2 : Int)≤(b2 : Int):=by omega
    clear h1 h2 h3
    go_enter Tryz.func41,Tryz.ntmps41
    go_wp2
    exact bodyPost_ret (v:=.agg #[.int .i64 (a1 : Int),.int .i64 (a2 : Int)]) (by simp [results,Tryz.results41,go_sem]) rfl ⟨by rw [HF.out],HBB _ _ _⟩
   ·have HF : Hid (firstF (a1,a2) (b1,b2)=(b1,b2)):=by show _=_; unfold firstF; rw [if_neg (fun h=>h.elim h1 (fun h=>h3 h.2))]
    have e3 : ¬ (a2 : Int)≤(b2 : Int):=by omega
    clear h1 h2 h3
    go_enter Tryz.func41,Tryz.ntmps41
    go_wp2
    exact bodyPost_ret (v:=.agg #[.int .i64 (b1 : Int),.int .i64 (b2 : Int)]) (by simp [results,Tryz.results41,go_sem]) rfl ⟨by rw [HF.out],HBB _ _ _⟩
end Go.Proofs.YtghnopkgcgfcpaaGreatDoor.Table
namespace Go.Proofs.YtghnopkgcgfcpaaGreatDoor.Table
open Go.RowKit Base
theorem byte_none {l : List UInt8} {c : UInt8} (h : Lib.indexByte l c=-1) : ∀ x ∈ l,x ≠ c:=fun x hx e=>by
 obtain ⟨k,hk⟩:=List.mem_iff_getElem?.1 hx
 exact Lib.indexByte_none h k (by rw [hk,e])
theorem byte_some {l : List UInt8} {c : UInt8} {o : Nat} (h : Lib.indexByte l c=o) : o < l.length∧l=l.take o++c :: l.drop (o + 1)∧∀ x ∈ l.take o,x ≠ c:=by
 obtain ⟨h1,h2⟩:=Lib.indexByte_some h
 obtain ⟨hl,he⟩:=List.getElem?_eq_some_iff.1 h1
 refine ⟨hl,?_,?_⟩
 ·rw [← he,List.getElem_cons_drop,List.take_append_drop]
 ·intro x hx e
  obtain ⟨k,hk⟩:=List.mem_iff_getElem?.1 hx
  have hk2 : k < o:=by
   have:=(List.getElem?_eq_some_iff.1 hk).1
   rw [List.length_take] at this; omega
  rw [List.getElem?_take_of_lt hk2] at hk
  exact h2 k hk2 (by rw [hk,e])
theorem splitB_miss {l : List UInt8} {c : UInt8} (h : Lib.indexByte l c=-1) : splitB c l=[l]:=splitB_none (byte_none h)
theorem splitB_hit {l : List UInt8} {c : UInt8} {o : Nat} (h : Lib.indexByte l c=o) : splitB c l=l.take o :: splitB c (l.drop (o + 1)):=by
 obtain ⟨_,h1,h2⟩:=byte_some h
 conv=>lhs; rw [h1]
 exact splitB_at h2
theorem lib_split (c : UInt8) : ∀ (k : Nat) (s : ByteArray),Lib.countB s ⟨#[c]⟩=k→(Lib.splitB ⟨#[c]⟩ 0 k s).map (·.data.toList)=splitB c s.data.toList
 | 0,s,hk=>by
  rcases Lib.indexB_cases s ⟨#[c]⟩ with hix | ⟨i,hix,_⟩
  ·have h2 : Lib.indexByte s.data.toList c=-1:=by rw [← Lib.index_one]; exact hix
   rw [splitB_miss h2]; rfl
  ·have:=Lib.countB_hit s ⟨#[c]⟩ i (Nat.le_refl 1) hix; omega
 | k + 1,s,hk=>by
  rcases Lib.indexB_cases s ⟨#[c]⟩ with hix | ⟨i,hix,_⟩
  ·rw [Lib.countB_miss s _ hix] at hk; omega
  ·have h2 : Lib.indexByte s.data.toList c=i:=by rw [← Lib.index_one]; exact hix
   have h3:=Lib.countB_hit s ⟨#[c]⟩ i (Nat.le_refl 1) hix
   have h4:=lib_split c k (s.extract (i + 1) s.size) (by have : (⟨#[c]⟩ : ByteArray).size=1:=rfl; rw [this] at h3; omega)
   rw [Lib.splitB_hit _ _ _ _ _ hix,List.map_cons,splitB_hit h2]
   have e1 : (s.extract 0 (i + 0)).data.toList=s.data.toList.take i:=by rw [extract_bytes]; simp
   have e2 : (s.extract (i + 1) s.size).data.toList=s.data.toList.drop (i + 1):=by
    rw [extract_bytes]
    rw [List.take_of_length_le (by rw [str_len]; omega)]
   rw [e1]
   congr 1
   rw [← e2]; exact h4
def MaxOk (w : World) : Prop:=∃ m,w.cell? ⟨0,0,none⟩=some (.int .i64 m)
theorem MaxOk.on {w w' : World} (h : MaxOk w) (hb : Below w.heap.size w w') : MaxOk w':=by
 obtain ⟨m,hm⟩:=h
 exact ⟨m,(hb.cell (p:=⟨0,0,none⟩) (cell_lt hm)).trans hm⟩
def SplitE (ls : List (List UInt8)) (w : World) (e : Ending) (w' : World) : Prop:=∃ g c cur,e=.returned (.slice (some ⟨g,0,none⟩) ls.length c)∧w'.heap[g]?=some (.cells cur 9 (0,0))∧ls.length≤c∧(∀ (i : Nat) x,ls[i]?=some x→cur[i]?=some (S x))∧Below w.heap.size w w'
theorem pSplit (s : ByteArray) (w : World) (hs : s.size≤1000000) (he : MaxOk w) : Calls Tryz.prog 34 #[.string s,.string ⟨#[10]⟩] w (SplitE (splitB 10 s.data.toList) w):=by
 obtain ⟨m,hm⟩:=he
 refine (Tryz.strings_Split s ⟨#[10]⟩ m w (by omega) hm (Nat.le_refl 1)).mono ?_
 rintro e w' ⟨rfl,rfl⟩
 have hl:=lib_split 10 _ s rfl
 have hlen:=Lib.splitB_all ⟨#[10]⟩ (Nat.le_refl 1) 0 (Lib.countB s ⟨#[10]⟩) s rfl
 have hle:=Lib.countB_le ⟨#[10]⟩ (Nat.le_refl 1) s.size s (Nat.le_refl _)
 have hln : (splitB 10 s.data.toList).length=Lib.countB s ⟨#[10]⟩ + 1:=by rw [← hl,List.length_map,hlen]
 refine ⟨w.heap.size,Lib.countB s ⟨#[10]⟩ + 1,((Lib.splitB ⟨#[10]⟩ 0 (Lib.countB s ⟨#[10]⟩) s).map Value.string).toArray,by rw [hln],(MapKept.heap_alloc w _).1,by rw [hln]; exact Nat.le_refl _,fun i x hx=>?_,Below.alloc1 _ _⟩
 rw [← hl,List.getElem?_map] at hx
 simp only [List.getElem?_toArray,List.getElem?_map]
 cases h : (Lib.splitB ⟨#[10]⟩ 0 (Lib.countB s ⟨#[10]⟩) s)[i]? with
 | none=>rw [h] at hx; cases hx
 | some y=>rw [h] at hx; cases hx; rfl
end Go.Proofs.YtghnopkgcgfcpaaGreatDoor.Table
namespace Go.Proofs.YtghnopkgcgfcpaaGreatDoor.Table
open Go.RowKit Base
def endP (E : List KV) : Option Ent→(Nat × Nat) ⊕ List KV
 | none=>.inr E
 | some e=>if wrongP E (kvOf e).1 (kvOf e).2=0 then .inr (E++[kvOf e]) else .inl (wrongP E (kvOf e).1 (kvOf e).2,e.pos)
abbrev RunR:=(Nat × Nat) ⊕ (List KV × Option Ent)
def runP : Nat→List (List UInt8)→List KV→Option Ent→RunR
 | _,[],E,cur=>.inr (E,cur)
 | a,l :: r,E,cur =>
  if skipB l=true then runP (a + l.length + 1) r E cur
  else if headIs isBl l=true then (match cur with
   | none=>.inl (61,a)
   | some e=>runP (a + l.length + 1) r E (some { e with more:=e.more++[trim l] }))
  else (match endP E cur with
   | .inl f=>.inl f
   | .inr E2=>runP (a + l.length + 1) r E2 (some ⟨a,l,[]⟩))
theorem runP_cons (a : Nat) (l : List UInt8) (r : List (List UInt8)) (E : List KV) (cur : Option Ent) : runP a (l :: r) E cur =
  if skipB l=true then runP (a + l.length + 1) r E cur
  else if headIs isBl l=true then (match cur with
   | none=>.inl (61,a)
   | some e=>runP (a + l.length + 1) r E (some { e with more:=e.more++[trim l] }))
  else (match endP E cur with
   | .inl f=>.inl f
   | .inr E2=>runP (a + l.length + 1) r E2 (some ⟨a,l,[]⟩)):=rfl
def parseP (l : List UInt8) : (Nat × Nat) ⊕ List KV :=
 match runP 0 (splitB 10 l) [] none with
 | .inl f=>.inl (firstF (badF l) f)
 | .inr (E,cur)=>match endP E cur with
  | .inl f=>.inl (firstF (badF l) f)
  | .inr E2=>if (badF l).1=0 then .inr E2 else .inl (badF l)
def PrsEnd (p : (Nat × Nat) ⊕ List KV) (w : World) (e : Ending) (w' : World) : Prop :=
 Below w.heap.size w w'∧match p with
  | .inl f=>e=.returned (.tuple #[.pointer none,fltV f])
  | .inr E=>∃ b T,e=.returned (.tuple #[.pointer (some ⟨b,0,none⟩),fltV (0,0)])∧T.Perm E∧SortedK T∧TabNew 105 w w' b T
def keyC : Option Ent→List UInt8
 | none=>[]
 | some e=>(kvOf e).1
def valC : Option Ent→List UInt8
 | none=>[]
 | some e=>(kvOf e).2
def posC : Option Ent→Nat
 | none=>0
 | some e=>e.pos
def box27 (w : World) (b : Nat) (f : Nat × Nat) : Prop:=w.heap[b]?=some (.cells #[.int .i64 (f.1 : Int),.int .i64 (f.2 : Int)] 49 (0,0))
theorem box27.keep {w w' : World} {b : Nat} {f : Nat × Nat} (h : box27 w b f) (hk : KeepTy w w') : box27 w' b f:=hk _ _ _ _ h (by decide) (by decide) (by decide)
theorem box27.on {w w' : World} {b : Nat} {f : Nat × Nat} (h : box27 w b f) (hb : Below w.heap.size w w') : box27 w' b f:=(hb.block b (heap_lt h)).trans h
structure PL (w wr : World) (b0 bb fb rb mb gl : Nat) (bad : Nat × Nat) (cur9 : Array Value) (E : List KV) (cur : Option Ent) : Prop where
 rst : RSt w.heap.size wr rb mb E cur.isSome (posC cur : Int) (keyC cur) (valC cur)
 h0 : box27 wr b0 (0,0)
 h1 : box27 wr bb bad
 h2 : box27 wr fb (0,0)
 h3 : wr.heap[gl]?=some (.cells cur9 9 (0,0))
 ne : b0 ≠ bb∧b0 ≠ fb∧bb ≠ fb∧w.heap.size≤b0∧w.heap.size≤bb∧w.heap.size≤fb
 below : Below w.heap.size w wr
section
variable {w wr w' : World} {b0 bb fb rb mb gl : Nat} {bad : Nat × Nat} {cur9 : Array Value} {E E' : List KV} {cur cur' : Option Ent}
theorem PL.step (h : PL w wr b0 bb fb rb mb gl bad cur9 E cur) (hs : PStep w.heap.size wr w') (hr : RSt w.heap.size w' rb mb E' cur'.isSome (posC cur' : Int) (keyC cur') (valC cur')) : PL w w' b0 bb fb rb mb gl bad cur9 E' cur' :=
 ⟨hr,h.h0.keep hs.keep,h.h1.keep hs.keep,h.h2.keep hs.keep,hs.keep _ _ _ _ h.h3 (by decide) (by decide) (by decide),h.ne,h.below.trans hs.below⟩
theorem PL.on (h : PL w wr b0 bb fb rb mb gl bad cur9 E cur) (hb : Below wr.heap.size wr w') : PL w w' b0 bb fb rb mb gl bad cur9 E cur :=
 h.step (PStep.of_below hb h.below.size) (h.rst.on hb)
theorem box_same {wr : World} {b : Nat} {f : Nat × Nat} (h : box27 wr b f) (g : Nat × Nat) : box27 ((wr.setCell ⟨b,0,none⟩ (.int .i64 (g.1 : Int))).setCell ⟨b,1,none⟩ (.int .i64 (g.2 : Int))) b g:=set_two h _ _
theorem box_other {wr : World} {b k : Nat} {u v : Value} (hne : k ≠ b) : ((wr.setCell ⟨b,0,none⟩ u).setCell ⟨b,1,none⟩ v).heap[k]?=wr.heap[k]?:=by rw [Below.heap_setCell _ _ _ _ hne,Below.heap_setCell _ _ _ _ hne]
theorem RSt.boxed {B : Nat} {o : Bool} {s : Int} {key val : List UInt8} (h : RSt B wr rb mb E o s key val) {b : Nat} {f : Nat × Nat} (hb : box27 wr b f) (u v : Value) : RSt B ((wr.setCell ⟨b,0,none⟩ u).setCell ⟨b,1,none⟩ v) rb mb E o s key val:=by
 obtain ⟨ev,vv,hx⟩:=h
 exact ⟨ev,vv,hx.other hb (fun k hk=>box_other hk) (by simp)⟩
theorem PL.fault (h : PL w wr b0 bb fb rb mb gl bad cur9 E cur) : PL w ((wr.setCell ⟨fb,0,none⟩ (.int .i64 0)).setCell ⟨fb,1,none⟩ (.int .i64 0)) b0 bb fb rb mb gl bad cur9 E cur:=by
 obtain ⟨n1,n2,n3,n4,n5,n6⟩:=h.ne
 refine ⟨h.rst.boxed h.h2 _ _,(box_other n2).trans h.h0,(box_other n3).trans h.h1,box_same h.h2 (0,0),(box_other (fun e=>?_)).trans h.h3,h.ne,(h.below.setCell n6 _).setCell n6 _⟩
 have h9:=h.h3
 rw [e] at h9
 have:=h.h2
 unfold box27 at this
 rw [this] at h9; cases h9
end
theorem endP_yes {E : List KV} {e : Ent} (h : wrongP E (kvOf e).1 (kvOf e).2=0) : endP E (some e)=.inr (E++[kvOf e]):=by show (if _ then _ else _)=_; rw [if_pos h]
theorem endP_no {E : List KV} {e : Ent} (h : wrongP E (kvOf e).1 (kvOf e).2 ≠ 0) : endP E (some e)=.inl (wrongP E (kvOf e).1 (kvOf e).2,e.pos):=by show (if _ then _ else _)=_; rw [if_neg h]
theorem kv_more (e : Ent) (p : List UInt8) : kvOf { e with more:=e.more++[p] }=((kvOf e).1,joinP (kvOf e).2 p):=by
 unfold kvOf valueOf
 rw [List.foldl_append]; rfl
theorem kv_len (e : Ent) : (kvOf e).1.length≤e.text.length∧(kvOf e).2.length≤e.text.length + sumL e.more:=by
 unfold kvOf valueOf
 have h1:=keyOf_le e.text
 have h2:=foldP_len e.more (trim (e.text.dropWhile noBl))
 have h3:=trim_len (e.text.dropWhile noBl)
 have h4 : (e.text.dropWhile noBl).length≤e.text.length:=(List.dropWhile_sublist _).length_le
 refine ⟨by show (lower _).length≤_; rw [lower_len]; exact h1,by show (e.more.foldl joinP (trim (e.text.dropWhile noBl))).length≤_; omega⟩
structure LoopI (w wr : World) (b0 bb fb rb mb gl : Nat) (bad : Nat × Nat) (cur9 : Array Value) (ls : List (List UInt8)) (N : Nat) (fin : RunR) (k a : Nat) (E : List KV) (cur : Option Ent) : Prop where
 pl : PL w wr b0 bb fb rb mb gl bad cur9 E cur
 eq : runP a (ls.drop k) E cur=fin
 el : E.length≤k
 cl : ∀ e,cur=some e→e.text.length + sumL e.more≤a
 al : a + sumL (ls.drop k)=N
section
variable {w wr w' : World} {b0 bb fb rb mb gl : Nat} {bad : Nat × Nat} {cur9 : Array Value} {ls : List (List UInt8)} {N : Nat} {fin : RunR} {k a : Nat} {E : List KV} {cur : Option Ent} {l : List UInt8}
theorem LoopI.cons (h : LoopI w wr b0 bb fb rb mb gl bad cur9 ls N fin k a E cur) (hl : ls[k]?=some l) : runP a (l :: ls.drop (k + 1)) E cur=fin∧a + l.length + 1 + sumL (ls.drop (k + 1))=N:=by
 obtain ⟨hk,he⟩:=List.getElem?_eq_some_iff.1 hl
 have h1:=h.eq
 have h2:=h.al
 rw [List.drop_eq_getElem_cons hk,he] at h1 h2
 exact ⟨h1,by simp [sumL] at h2 ⊢; omega⟩
theorem LoopI.bounds (h : LoopI w wr b0 bb fb rb mb gl bad cur9 ls N fin k a E cur) : (keyC cur).length≤a∧(valC cur).length≤a∧a≤N:=by
 have h2:=h.al
 cases cur with
 | none=>exact ⟨Nat.zero_le _,Nat.zero_le _,by omega⟩
 | some e =>
  have h3:=h.cl e rfl
  obtain ⟨k1,k2⟩:=kv_len e
  refine ⟨?_,?_,by omega⟩
  ·show (kvOf e).1.length≤a; omega
  ·show (kvOf e).2.length≤a; omega
theorem LoopI.pass (h : LoopI w wr b0 bb fb rb mb gl bad cur9 ls N fin k a E cur) (hl : ls[k]?=some l) (hs : skipB l=true) (hp : PL w w' b0 bb fb rb mb gl bad cur9 E cur) : LoopI w w' b0 bb fb rb mb gl bad cur9 ls N fin (k + 1) (a + l.length + 1) E cur:=by
 obtain ⟨h1,h2⟩:=h.cons hl
 rw [runP_cons,if_pos hs] at h1
 exact ⟨hp,h1,by have:=h.el; omega,fun e he=>by have:=h.cl e he; omega,h2⟩
theorem LoopI.more {e : Ent} (h : LoopI w wr b0 bb fb rb mb gl bad cur9 ls N fin k a E (some e)) (hl : ls[k]?=some l) (hs : skipB l=false) (hb : headIs isBl l=true) (hp : PL w w' b0 bb fb rb mb gl bad cur9 E (some { e with more:=e.more++[trim l] })) : LoopI w w' b0 bb fb rb mb gl bad cur9 ls N fin (k + 1) (a + l.length + 1) E (some { e with more:=e.more++[trim l] }):=by
 obtain ⟨h1,h2⟩:=h.cons hl
 rw [runP_cons,if_neg (by rw [hs]; simp),if_pos hb] at h1
 refine ⟨hp,h1,by have:=h.el; omega,fun e' he=>?_,h2⟩
 cases he
 have h3:=h.cl e rfl
 have h4:=trim_len l
 show e.text.length + sumL (e.more++[trim l])≤_
 rw [sumL_app]; simp [sumL] at h3 ⊢; omega
theorem LoopI.orphan (h : LoopI w wr b0 bb fb rb mb gl bad cur9 ls N fin k a E none) (hl : ls[k]?=some l) (hs : skipB l=false) (hb : headIs isBl l=true) : fin=.inl (61,a):=by
 obtain ⟨h1,_⟩:=h.cons hl
 rw [runP_cons,if_neg (by rw [hs]; simp),if_pos hb] at h1
 exact h1.symm
theorem LoopI.wrong {f : Nat × Nat} (h : LoopI w wr b0 bb fb rb mb gl bad cur9 ls N fin k a E cur) (hl : ls[k]?=some l) (hs : skipB l=false) (hb : headIs isBl l=false) (he : endP E cur=.inl f) : fin=.inl f:=by
 obtain ⟨h1,_⟩:=h.cons hl
 rw [runP_cons,if_neg (by rw [hs]; simp),if_neg (by rw [hb]; simp),he] at h1
 exact h1.symm
theorem LoopI.next {E2 : List KV} (h : LoopI w wr b0 bb fb rb mb gl bad cur9 ls N fin k a E cur) (hl : ls[k]?=some l) (hs : skipB l=false) (hb : headIs isBl l=false) (he : endP E cur=.inr E2) (hE : E2.length≤E.length + 1) (hp : PL w w' b0 bb fb rb mb gl bad cur9 E2 (some ⟨a,l,[]⟩)) : LoopI w w' b0 bb fb rb mb gl bad cur9 ls N fin (k + 1) (a + l.length + 1) E2 (some ⟨a,l,[]⟩):=by
 obtain ⟨h1,h2⟩:=h.cons hl
 rw [runP_cons,if_neg (by rw [hs]; simp),if_neg (by rw [hb]; simp),he] at h1
 refine ⟨hp,h1,by have:=h.el; omega,fun e' he=>?_,h2⟩
 cases he
 show l.length + sumL []≤_
 simp [sumL]; omega
end
theorem pl_start {w w1 w5 : World} {bad : Nat × Nat} {cur9 : Array Value} {gl : Nat} (hb1 : Below (w.alloc (.cells #[.int .i64 0,.int .i64 0] 49)).heap.size (w.alloc (.cells #[.int .i64 0,.int .i64 0] 49)) w1)
  (hb5 : Below ((((w1.alloc (.cells #[.int .i64 (bad.1 : Int),.int .i64 (bad.2 : Int)] 49)).alloc (.map #[] 0)).alloc (.cells #[.slice none 0 0,.map (some (w1.heap.size + 1)),.bool false,.int .i64 0,.string ⟨#[]⟩,.slice none 0 0] 88)).alloc (.cells #[.int .i64 0,.int .i64 0] 49)).heap.size
   ((((w1.alloc (.cells #[.int .i64 (bad.1 : Int),.int .i64 (bad.2 : Int)] 49)).alloc (.map #[] 0)).alloc (.cells #[.slice none 0 0,.map (some (w1.heap.size + 1)),.bool false,.int .i64 0,.string ⟨#[]⟩,.slice none 0 0] 88)).alloc (.cells #[.int .i64 0,.int .i64 0] 49)) w5)
  (h3 : w5.heap[gl]?=some (.cells cur9 9 (0,0))) : PL w w5 w.heap.size w1.heap.size (w1.heap.size + 1 + 1 + 1) (w1.heap.size + 1 + 1) (w1.heap.size + 1) gl bad cur9 [] none:=by
 have zw : w.heap.size + 1≤w1.heap.size:=by have:=hb1.size; simpa using this
 have a0:=(MapKept.heap_alloc w (.cells #[.int .i64 0,.int .i64 0] 49)).1
 have a0':=(hb1.block w.heap.size (by simp)).trans a0
 obtain ⟨x1,hx1⟩ : ∃ x1,x1=w1.alloc (.cells #[.int .i64 (bad.1 : Int),.int .i64 (bad.2 : Int)] 49):=⟨_,rfl⟩
 obtain ⟨x2,hx2⟩ : ∃ x2,x2=x1.alloc (.map #[] 0):=⟨_,rfl⟩
 obtain ⟨x3,hx3⟩ : ∃ x3,x3=x2.alloc (.cells #[.slice none 0 0,.map (some (w1.heap.size + 1)),.bool false,.int .i64 0,.string ⟨#[]⟩,.slice none 0 0] 88):=⟨_,rfl⟩
 obtain ⟨x4,hx4⟩ : ∃ x4,x4=x3.alloc (.cells #[.int .i64 0,.int .i64 0] 49):=⟨_,rfl⟩
 rw [← hx1,← hx2,← hx3,← hx4] at hb5
 have s1 : x1.heap.size=w1.heap.size + 1:=by rw [hx1]; simp
 have s2 : x2.heap.size=w1.heap.size + 1 + 1:=by rw [hx2]; simp [s1]
 have s3 : x3.heap.size=w1.heap.size + 1 + 1 + 1:=by rw [hx3]; simp [s2]
 have s4 : x4.heap.size=w1.heap.size + 1 + 1 + 1 + 1:=by rw [hx4]; simp [s3]
 have e4:=(MapKept.heap_alloc x3 (.cells #[.int .i64 0,.int .i64 0] 49))
 have e3:=(MapKept.heap_alloc x2 (.cells #[.slice none 0 0,.map (some (w1.heap.size + 1)),.bool false,.int .i64 0,.string ⟨#[]⟩,.slice none 0 0] 88))
 have e2:=(MapKept.heap_alloc x1 (.map #[] 0))
 have e1:=(MapKept.heap_alloc w1 (.cells #[.int .i64 (bad.1 : Int),.int .i64 (bad.2 : Int)] 49))
 rw [← hx4] at e4
 rw [← hx3] at e3
 rw [← hx2] at e2
 rw [← hx1] at e1
 have up : ∀ k,k < w1.heap.size→w5.heap[k]?=w1.heap[k]?:=fun k hk=>by
  rw [hb5.block k (by omega),e4.2 k (by omega),e3.2 k (by omega),e2.2 k (by omega),e1.2 k (by omega)]
 have q1 : w5.heap[w1.heap.size]?=some (.cells #[.int .i64 (bad.1 : Int),.int .i64 (bad.2 : Int)] 49 (0,0)):=by
  rw [hb5.block _ (by omega),e4.2 _ (by omega),e3.2 _ (by omega),e2.2 _ (by omega)]; exact e1.1
 have mk : MapIs Tryz.prog 9 x2 x1.heap.size []:=by rw [hx2]; exact MapIs.made x1 Tryz.prog 9
 rw [s1] at mk
 have q3 : w5.heap[w1.heap.size + 1 + 1]?=some (.cells #[.slice none 0 0,.map (some (w1.heap.size + 1)),.bool false,.int .i64 0,.string ⟨#[]⟩,.slice none 0 0] 88 (0,0)):=by
  rw [hb5.block _ (by omega),e4.2 _ (by omega),← s2]; exact e3.1
 have q4 : w5.heap[w1.heap.size + 1 + 1 + 1]?=some (.cells #[.int .i64 0,.int .i64 0] 49 (0,0)):=by
  rw [hb5.block _ (by omega),← s3]; exact e4.1
 have z5:=hb5.size
 refine ⟨⟨.slice none 0 0,.slice none 0 0,q3,World.ownsRow_nil _ _ _ _,World.ownsRow_nil _ _ _ _,mk.kept (by rw [hb5.block _ (by omega),e4.2 _ (by omega),e3.2 _ (by omega)]),by omega,by omega,by omega⟩,by unfold box27; rw [up _ (by omega)]; exact a0',q1,q4,h3,⟨by omega,by omega,by omega,by omega,by omega,by omega⟩,?_⟩
 have b1 : Below w.heap.size w w1:=(Below.alloc1 _ _).trans (hb1.mono (by simp))
 have b4 : Below w1.heap.size w1 x4:=by
  rw [hx4,hx3,hx2,hx1]
  exact ((((Below.refl _ _).alloc (Nat.le_refl _) _).alloc (by simp) _).alloc (by simp; omega) _).alloc (by simp; omega) _
 exact (b1.trans (b4.mono (by omega))).trans (hb5.mono (by omega))
end Go.Proofs.YtghnopkgcgfcpaaGreatDoor.Table
