/-
  MERGED by mergefill.py: TabPSt, TabPAdd, TabPBeg, TabIdx2.
-/
import Derived.Test.YtghnopkgcgfcpaaGreatDoorTabLinesMg
import Derived.Test.YtghnopkgcgfcpaaGreatDoorMapBaseMg
import Derived.DeepKeys5
import Derived.StringKeys
import Derived.Lib.MapLaws
namespace Go.Proofs.YtghnopkgcgfcpaaGreatDoor.Table
open Go.RowKit Base
open Go.Maps (Keyed)
theorem klaw : Keyed Tryz.prog 9:=Go.Maps.string_keyed Tryz.underlying9
def entM (p : KV) : Value × Value:=(S p.1,.int .i64 1)
structure RStX (B : Nat) (w : World) (rb mb : Nat) (E : List KV) (o : Bool) (s : Int) (key val : List UInt8) (ev vv : Value) : Prop where
 box : w.heap[rb]?=some (.cells #[ev,.map (some mb),.bool o,.int .i64 s,S key,vv] 88 (0,0))
 row : w.ownsRow B 132 2 ev E.length (E.flatMap enc2)
 val : Owns w B vv val
 map : MapIs Tryz.prog 9 w mb (E.map entM)
 rge : B≤rb
 mge : B≤mb
 bge : B≤w.heap.size
def RSt (B : Nat) (w : World) (rb mb : Nat) (E : List KV) (o : Bool) (s : Int) (key val : List UInt8) : Prop:=∃ ev vv,RStX B w rb mb E o s key val ev vv
def KeepTy (w w' : World) : Prop:=∀ (k : Nat) (cs : Array Value) (t : TypeId) (fz : Nat × Nat),w.heap[k]?=some (.cells cs t fz)→t ≠ 88→t ≠ 132→t ≠ 5→w'.heap[k]?=some (.cells cs t fz)
theorem KeepTy.refl (w : World) : KeepTy w w:=fun _ _ _ _ h _ _ _=>h
theorem KeepTy.trans {w w1 w2 : World} (h : KeepTy w w1) (h2 : KeepTy w1 w2) : KeepTy w w2:=fun k cs t fz hk a b c=>h2 k cs t fz (h k cs t fz hk a b c) a b c
theorem KeepTy.of_below {w w' : World} (h : Below w.heap.size w w') : KeepTy w w':=fun k _ _ _ hk _ _ _=>(h.block k (heap_lt hk)).trans hk
structure PStep (B : Nat) (w w' : World) : Prop where
 below : Below B w w'
 keep : KeepTy w w'
theorem PStep.trans {B : Nat} {w w1 w2 : World} (h : PStep B w w1) (h2 : PStep B w1 w2) : PStep B w w2:=⟨h.below.trans h2.below,h.keep.trans h2.keep⟩
theorem PStep.of_below {B : Nat} {w w' : World} (h : Below w.heap.size w w') (hB : B≤w.heap.size) : PStep B w w':=⟨h.mono hB,KeepTy.of_below h⟩
theorem row_block {w : World} {B : Nat} {e : TypeId} {s n : Nat} {v : Value} {xs : List Value} (h : w.ownsRow B e s v n xs) {b : Nat} (hb : v.ownBlock=some b) : ∃ cs,w.heap[b]?=some (.cells cs e (0,0))∨∃ fz,w.heap[b]?=some (.cells cs e fz):=by
 rcases h.2 with ⟨rfl,_⟩ | ⟨g,cap,cur,rfl,_,h2,_⟩
 ·cases hb
 ·cases hb
  exact ⟨cur,Or.inr ⟨_,h2⟩⟩
theorem row_type {w : World} {B : Nat} {e : TypeId} {s n : Nat} {v : Value} {xs : List Value} (h : w.ownsRow B e s v n xs) {b : Nat} (hb : v.ownBlock=some b) : ∃ cs fz,w.heap[b]?=some (.cells cs e fz):=by
 obtain ⟨cs,h | ⟨fz,h⟩⟩:=row_block h hb
 ·exact ⟨cs,_,h⟩
 ·exact ⟨cs,fz,h⟩
section
variable {B : Nat} {w w' : World} {rb mb : Nat} {E : List KV} {o : Bool} {s : Int} {key val : List UInt8} {ev vv : Value}
theorem RStX.on (h : RStX B w rb mb E o s key val ev vv) (hb : Below w.heap.size w w') : RStX B w' rb mb E o s key val ev vv :=
 ⟨(hb.block rb (heap_lt h.box)).trans h.box,row_kept h.row fun b hx=>hb.block b (World.ownsRow.lt h.row b hx).2,h.val.on hb,h.map.kept (hb.block mb h.map.lt),h.rge,h.mge,Nat.le_trans h.bge hb.size⟩
theorem RSt.on (h : RSt B w rb mb E o s key val) (hb : Below w.heap.size w w') : RSt B w' rb mb E o s key val:=by
 obtain ⟨ev,vv,h⟩:=h
 exact ⟨ev,vv,h.on hb⟩
theorem RStX.cells (h : RStX B w rb mb E o s key val ev vv) :
  w.cell? ⟨rb,0,none⟩=some ev∧w.cell? ⟨rb,1,none⟩=some (.map (some mb))∧w.cell? ⟨rb,2,none⟩=some (.bool o)∧w.cell? ⟨rb,3,none⟩=some (.int .i64 s)∧w.cell? ⟨rb,4,none⟩=some (S key)∧w.cell? ⟨rb,5,none⟩=some vv ∧
  (∀ j,w.frozen? ⟨rb,j,none⟩=false) :=
 ⟨cell_of_row w rb 0 _ _ _ h.box,cell_of_row w rb 1 _ _ _ h.box,cell_of_row w rb 2 _ _ _ h.box,cell_of_row w rb 3 _ _ _ h.box,cell_of_row w rb 4 _ _ _ h.box,cell_of_row w rb 5 _ _ _ h.box,fun j=>by simp [World.frozen?,h.box]⟩
theorem RStX.evne (h : RStX B w rb mb E o s key val ev vv) : ev.ownBlock ≠ some rb∧ev.ownBlock ≠ some mb∧vv.ownBlock ≠ some rb∧vv.ownBlock ≠ some mb∧rb ≠ mb∧∀ b,ev.ownBlock=some b→vv.ownBlock ≠ some b:=by
 have hm : ∀ cs t fz,w.heap[mb]? ≠ some (.cells cs t fz):=fun cs t fz e=>by
  obtain ⟨es,clock,h1,_⟩:=h.map
  rw [h1] at e; cases e
 refine ⟨fun e=>?_,fun e=>?_,fun e=>?_,fun e=>?_,fun e=>?_,fun b e1 e2=>?_⟩
 ·obtain ⟨cs,fz,h1⟩:=row_type h.row e
  rw [h.box] at h1; cases h1
 ·obtain ⟨cs,fz,h1⟩:=row_type h.row e
  exact hm _ _ _ h1
 ·obtain ⟨cs,fz,h1⟩:=row_type h.val e
  rw [h.box] at h1; cases h1
 ·obtain ⟨cs,fz,h1⟩:=row_type h.val e
  exact hm _ _ _ h1
 ·exact hm _ _ _ (by rw [← e]; exact h.box)
 ·obtain ⟨cs,fz,h1⟩:=row_type h.row e1
  obtain ⟨cs2,fz2,h2⟩:=row_type h.val e2
  rw [h1] at h2; cases h2
theorem RStX.setBox (h : RStX B w rb mb E o s key val ev vv) (i : Nat) (u : Value) {o' : Bool} {s' : Int} {key' : List UInt8} {ev' vv' : Value} {E' : List KV} {val' : List UInt8}
  (hc : (#[ev,.map (some mb),.bool o,.int .i64 s,S key,vv] : Array Value).setIfInBounds i u=#[ev',.map (some mb),.bool o',.int .i64 s',S key',vv'])
  (hr : w.ownsRow B 132 2 ev' E'.length (E'.flatMap enc2)) (hv : Owns w B vv' val') (hm : MapIs Tryz.prog 9 w mb (E'.map entM)) : RStX B (w.setCell ⟨rb,i,none⟩ u) rb mb E' o' s' key' val' ev' vv'∧PStep B w (w.setCell ⟨rb,i,none⟩ u):=by
 have hne : ∀ b,b ≠ rb→(w.setCell ⟨rb,i,none⟩ u).heap[b]?=w.heap[b]?:=fun b hb=>Below.heap_setCell _ _ _ _ hb
 refine ⟨⟨by rw [heap_setCell_same w rb i _ _ _ h.box,hc],row_kept hr fun b hb=>hne b (fun e=>?_),row_kept hv fun b hb=>hne b (fun e=>?_),hm.kept (hne mb (fun e=>h.evne.2.2.2.2.1 e.symm)),h.rge,h.mge,by simpa using h.bge⟩,⟨(Below.refl _ _).setCell h.rge u,fun k cs t fz hk a b c=>?_⟩⟩
 ·subst e
  obtain ⟨cs,fz,h1⟩:=row_type hr hb
  rw [h.box] at h1; cases h1
 ·subst e
  obtain ⟨cs,fz,h1⟩:=row_type hv hb
  rw [h.box] at h1; cases h1
 ·rw [hne k (fun e=>by subst e; rw [h.box] at hk; cases hk; exact a rfl)]; exact hk
theorem RStX.grown (h : RStX B w rb mb E o s key val ev vv) (hg : w.grownBy w' vv.ownBlock) :
  (w'.heap[rb]?=some (.cells #[ev,.map (some mb),.bool o,.int .i64 s,S key,vv] 88 (0,0))∧w'.ownsRow B 132 2 ev E.length (E.flatMap enc2)∧MapIs Tryz.prog 9 w' mb (E.map entM))∧PStep B w w':=by
 obtain ⟨e1,e2,e3,e4,e5,e6⟩:=h.evne
 have hbl : Below B w w':=(Below.refl _ _).grown hg h.bge (fun j hj=>(World.ownsRow.lt h.val j hj).1)
 obtain ⟨_,_,_,hs,hbk⟩:=hg
 refine ⟨⟨?_,row_kept h.row fun b hb=>?_,h.map.kept ?_⟩,hbl,fun k cs t fz hk a b c=>?_⟩
 ·rw [hbk rb (heap_lt h.box) (fun e=>e3 e.symm)]; exact h.box
 ·exact hbk b (World.ownsRow.lt h.row b hb).2 (fun e=>e6 b hb e.symm)
 ·exact hbk mb h.map.lt (fun e=>e4 e.symm)
 ·rw [hbk k (heap_lt hk) (fun e=>?_)]
  ·exact hk
  ·obtain ⟨cs2,fz2,h2⟩:=row_type h.val e.symm
   rw [hk] at h2; cases h2; exact c rfl
theorem RStX.putVal (h : RStX B w rb mb E o s key val ev vv) (hg : w.grownBy w' vv.ownBlock) {v' : Value} {val' : List UInt8} (ho : Owns w' B v' val') :
  RStX B (w'.setCell ⟨rb,5,none⟩ v') rb mb E o s key val' ev v'∧PStep B w (w'.setCell ⟨rb,5,none⟩ v')∧w'.cell? ⟨rb,5,none⟩=some vv∧w'.frozen? ⟨rb,5,none⟩=false:=by
 obtain ⟨⟨h1,h2,h3⟩,h4⟩:=h.grown hg
 have hne : ∀ b,b ≠ rb→(w'.setCell ⟨rb,5,none⟩ v').heap[b]?=w'.heap[b]?:=fun b hb=>Below.heap_setCell _ _ _ _ hb
 have hs : w.heap.size≤w'.heap.size:=h4.below.size
 refine ⟨⟨by rw [heap_setCell_same w' rb 5 _ _ _ h1]; rfl,row_kept h2 fun b hb=>hne b (fun e=>?_),row_kept ho fun b hb=>hne b (fun e=>?_),h3.kept (hne mb (fun e=>h.evne.2.2.2.2.1 e.symm)),h.rge,h.mge,by have:=h.bge; simp; omega⟩,h4.trans ⟨(Below.refl _ _).setCell h.rge v',fun k cs t fz hk a b c=>?_⟩,cell_of_row w' rb 5 _ _ _ h1,by simp [World.frozen?,h1]⟩
 ·subst e
  obtain ⟨cs,fz,h1'⟩:=row_type h2 hb
  rw [h1] at h1'; cases h1'
 ·subst e
  obtain ⟨cs,fz,h1'⟩:=row_type ho hb
  rw [h1] at h1'; cases h1'
 ·rw [hne k (fun e=>by subst e; rw [h1] at hk; cases hk; exact a rfl)]; exact hk
end
def UnitEnd (B : Nat) (w : World) (rb mb : Nat) (E : List KV) (o : Bool) (s : Int) (key val : List UInt8) (e : Ending) (w' : World) : Prop:=e=.returned (.tuple #[])∧RSt B w' rb mb E o s key val∧PStep B w w'
end Go.Proofs.YtghnopkgcgfcpaaGreatDoor.Table
set_option maxHeartbeats 16000000
set_option maxRecDepth 100000
namespace Go.Proofs.YtghnopkgcgfcpaaGreatDoor.Table
open Go.RowKit Base
theorem owns_one {w : World} {B : Nat} {v : Value} {l : List UInt8} {x : UInt8} {n : Nat} (h : w.ownsRow B 5 1 v n (Lib.byteCells l++[.int .u8 (x.toNat : Int)])) (hn : n=l.length + 1) : Owns w B v (l++[x]):=by
 unfold Owns
 rw [Lib.byteCells_append,List.length_append]
 subst hn
 exact h
theorem owns_str {w : World} {B : Nat} {v : Value} {l : List UInt8} {q : ByteArray} (h : w.ownsRow B 5 1 v (l.length + q.size) (Lib.byteCells l++Lib.byteCells q.data.toList)) : Owns w B v (l++q.data.toList):=by
 unfold Owns
 rw [List.length_append,Lib.byteCells_append,str_len]; exact h
theorem pAdd (B : Nat) (w : World) (rb mb : Nat) (E : List KV) (o : Bool) (s : Int) (key val : List UInt8) (piece : ByteArray) (h : RSt B w rb mb E o s key val) (hv : val.length≤1000000) (hp : piece.size≤1000000) :
  Calls Tryz.prog 39 #[.pointer (some ⟨rb,0,none⟩),.string piece] w (UnitEnd B w rb mb E o s key (joinP val (trim piece.data.toList))):=by
 have HT:=pTrim piece w (by omega)
 obtain ⟨q,hq⟩ : ∃ q : ByteArray,q.data.toList=trim piece.data.toList:=⟨⟨(trim piece.data.toList).toArray⟩,rfl⟩
 have hql : q.size≤1000000:=by rw [← str_len,hq]; have:=trim_len piece.data.toList; rw [str_len] at this; omega
 have HTR : Hid (Calls Tryz.prog 71 #[.string piece,.string ⟨#[32,9]⟩] w fun e w'=>e=.returned (.string q)∧Below w.heap.size w w'):=by
  rw [← hq] at HT; exact HT
 rw [← hq]
 clear HT hq
 obtain ⟨i0,hi0,hz0,hz1,hz2⟩:=info_parts info5
 have H:=Lib.hid h
 clear h
 by_cases h0 : val=[]
 ·subst h0
  have HJ : Hid (joinP [] q.data.toList=[]++q.data.toList):=rfl
  go_enter Tryz.func39,Tryz.ntmps39
  go_wp2_with (first | (go_at_call 71; (with_reducible refine HTR.out.mono ?_); rintro e w1 ⟨rfl,hb1⟩; refine Hid.out ?_) | fail)
  refine Lib.hid ?_
  obtain ⟨ev,vv,hx⟩:=H.out.on hb1
  have HST : Hid (PStep B w w1):=PStep.of_below hb1 (by obtain ⟨_,_,h9⟩:=H.out; exact h9.bge)
  obtain ⟨va,vc,rfl,hvc⟩:=row_form hx.val
  clear hb1
  obtain ⟨c0,c1,c2,c3,c4,c5,c6⟩:=hx.cells
  have HX:=Lib.hid hx
  have f5:=c6 5
  clear hx c0 c1 c2 c3 c4 c6
  go_wp2_with (at_builtin; go_must (refine Lib.wpList_append_own_string _ rfl _ _ 86 9 rfl B 5 i0 Tryz.underlying86 Tryz.underlying9 hi0 hz0 hz1 hz2 _ _ _ rfl HX.out.val q rfl (by unfold maxLen; first | omega | (simp; omega)) (by first | omega | (simp; omega)) HX.out.bge ?_); intro v2 w2 o2 g2 a2; refine Hid.out ?_)
  refine Lib.hid ?_
  have ho2:=owns_str o2
  obtain ⟨va2,vc2,rfl,_⟩:=row_form ho2
  obtain ⟨r1,r2,r3,r4⟩:=HX.out.putVal g2 ho2
  have HF1 : RSt B _ rb mb E o s key (([] : List UInt8)++q.data.toList):=⟨_,_,r1⟩
  have HF:=Lib.hid (And.intro HF1 (HST.out.trans r2))
  clear HF1
  clear o2 g2 a2 ho2 r1 r2
  go_wp2
  go_end0
  exact ⟨rfl,by rw [HJ.out]; exact HF.out.1,HF.out.2⟩
 ·have HJ : Hid (joinP val q.data.toList=(val++[32])++q.data.toList):=by show _=_; unfold joinP; rw [if_neg h0]
  have hvl : 0 < val.length:=List.length_pos_iff.2 h0
  have i1 : (0 : Int) < (val.length : Int):=by omega
  clear h0
  go_enter Tryz.func39,Tryz.ntmps39
  go_wp2_with (first | (go_at_call 71; (with_reducible refine HTR.out.mono ?_); rintro e w1 ⟨rfl,hb1⟩; refine Hid.out ?_) | fail)
  refine Lib.hid ?_
  obtain ⟨ev,vv,hx⟩:=H.out.on hb1
  have HST0 : Hid (PStep B w w1):=PStep.of_below hb1 (by obtain ⟨_,_,h9⟩:=H.out; exact h9.bge)
  obtain ⟨va,vc,rfl,hvc⟩:=row_form hx.val
  clear hb1
  obtain ⟨c0,c1,c2,c3,c4,c5,c6⟩:=hx.cells
  have HX0:=Lib.hid (hx.on (Below.alloc1 w1 (.cells #[.int .u8 32] 5)))
  have HST1 : Hid (PStep B w (w1.alloc (.cells #[.int .u8 32] 5))):=HST0.out.trans (PStep.of_below (Below.alloc1 _ _) hx.bge)
  have f5:=c6 5
  clear hx c0 c1 c2 c3 c4 c6
  go_wp2_with (at_builtin; go_must (refine wpList_append_row _ rfl _ _ 86 rfl B 5 i0 (.int .u8 0) 1 Tryz.underlying86 hi0 hz0 hz1 hz2 rfl _ _ _ _ [.int .u8 32] rfl rfl HX0.out.val (vreads_one _ _ _) (fun u hu=>by rw [List.mem_singleton.1 hu]; rfl) (by simp; omega) (by simp; omega) HX0.out.bge ?_); intro v3 w3 o3 g3 a3; refine Hid.out ?_)
  refine Lib.hid ?_
  have ho3 : Owns w3 B v3 (val++[32]):=owns_one o3 rfl
  obtain ⟨va3,vc3,rfl,_⟩:=row_form ho3
  obtain ⟨r1,r2,r3,r4⟩:=HX0.out.putVal g3 ho3
  have hx:=r1
  have HST:=Lib.hid (HST1.out.trans r2)
  have hvl3 : (val++[32]).length≤1000001:=by simp; omega
  generalize val++[32]=vn at *
  clear o3 g3 a3 ho3 r1 r2 f5 c5
  obtain ⟨c0,c1,c2,c3,c4,c5,c6⟩:=hx.cells
  have HX:=Lib.hid hx
  have f5:=c6 5
  clear hx c0 c1 c2 c3 c4 c6
  go_wp2_with (at_builtin; go_must (refine Lib.wpList_append_own_string _ rfl _ _ 86 9 rfl B 5 i0 Tryz.underlying86 Tryz.underlying9 hi0 hz0 hz1 hz2 _ _ _ rfl HX.out.val q rfl (by unfold maxLen; first | omega | (simp; omega)) (by first | omega | (simp; omega)) HX.out.bge ?_); intro v2 w2 o2 g2 a2; refine Hid.out ?_)
  refine Lib.hid ?_
  have ho2:=owns_str o2
  obtain ⟨va2,vc2,rfl,_⟩:=row_form o2
  obtain ⟨r1,r2,r3,r4⟩:=HX.out.putVal g2 ho2
  have HF1 : RSt B _ rb mb E o s key (vn++q.data.toList):=⟨_,_,r1⟩
  have HF:=Lib.hid (And.intro HF1 (HST.out.trans r2))
  clear HF1
  clear o2 g2 a2 ho2 r1 r2
  go_wp2
  go_end0
  exact ⟨rfl,by rw [HJ.out]; exact HF.out.1,HF.out.2⟩
end Go.Proofs.YtghnopkgcgfcpaaGreatDoor.Table
set_option maxHeartbeats 16000000
set_option maxRecDepth 100000
namespace Go.Proofs.YtghnopkgcgfcpaaGreatDoor.Table
open Go.RowKit Base
open Go.MapKept
def idxA (l : List UInt8) : Int:=if (keyOf l).length < l.length then ((keyOf l).length : Int) else -1
def IdxEnd (l : List UInt8) (w : World) (e : Ending) (w' : World) : Prop:=e=.returned (.int .i64 (idxA l))∧Below w.heap.size w w'
def IdxOk : Prop:=∀ (line : ByteArray) (w : World),line.size≤1000000→Calls Tryz.prog 69 #[.string line,.string ⟨#[32,9]⟩] w (IdxEnd line.data.toList w)
theorem keyOf_le (l : List UInt8) : (keyOf l).length≤l.length:=(List.takeWhile_sublist _).length_le
theorem keyOf_take (l : List UInt8) : l.take (keyOf l).length=keyOf l∧l.drop (keyOf l).length=l.dropWhile noBl:=tw_take l
theorem pBegin (HIX : IdxOk) (B : Nat) (w : World) (rb mb : Nat) (E : List KV) (o : Bool) (s : Int) (key val : List UInt8) (pos : Nat) (line : ByteArray) (h : RSt B w rb mb E o s key val) (hp : line.size≤1000000) :
  Calls Tryz.prog 38 #[.pointer (some ⟨rb,0,none⟩),.int .i64 (pos : Int),.string line] w (UnitEnd B w rb mb E true (pos : Int) (lower (keyOf line.data.toList)) (valueOf (line.data.toList.dropWhile noBl) [])):=by
 have HI:=Lib.hid (HIX line w hp)
 have hkl:=keyOf_le line.data.toList
 rw [str_len] at hkl
 obtain ⟨hk1,hk2⟩:=keyOf_take line.data.toList
 have HLW : Hid (∀ w1,Calls Tryz.prog 70 #[.string (line.extract 0 (keyOf line.data.toList).length)] w1 fun e w'=>e=.returned (S (lower (keyOf line.data.toList)))∧Below w1.heap.size w1 w'):=fun w1=>by
  have hsz : (line.extract 0 (keyOf line.data.toList).length).size≤line.size:=by simp; omega
  have:=pLower (line.extract 0 (keyOf line.data.toList).length) w1 (by omega)
  unfold LowEnd at this
  have e : (line.extract 0 (keyOf line.data.toList).length).data.toList=keyOf line.data.toList:=by rw [extract_bytes,← hk1]; simp
  rw [e] at this
  exact this
 have HAD : Hid (∀ w1,RSt B w1 rb mb E true (pos : Int) (lower (keyOf line.data.toList)) []→Calls Tryz.prog 39 #[.pointer (some ⟨rb,0,none⟩),.string (line.extract (keyOf line.data.toList).length line.size)] w1 (UnitEnd B w1 rb mb E true (pos : Int) (lower (keyOf line.data.toList)) (valueOf (line.data.toList.dropWhile noBl) []))):=fun w1 h1=>by
  have hsz : (line.extract (keyOf line.data.toList).length line.size).size≤line.size:=by simp
  have:=pAdd B w1 rb mb E true (pos : Int) (lower (keyOf line.data.toList)) [] (line.extract (keyOf line.data.toList).length line.size) h1 (by simp) (by omega)
  have e : (line.extract (keyOf line.data.toList).length line.size).data.toList=line.data.toList.dropWhile noBl:=by rw [extract_bytes,List.take_of_length_le (by rw [str_len]; omega)]; exact hk2
  rw [e] at this
  exact this
 have H:=Lib.hid h
 unfold IdxEnd idxA at HI
 rw [str_len] at HI
 generalize lower (keyOf line.data.toList)=kk at HLW HAD ⊢
 generalize valueOf (line.data.toList.dropWhile noBl) []=nv at HAD ⊢
 generalize (keyOf line.data.toList).length=n at *
 clear h hk1 hk2
 have i1 : (0 : Int)≤(n : Int):=by omega
 have i2 : (n : Int)≤(line.size : Int):=by omega
 by_cases hn : n < line.size
 ·rw [if_pos hn] at HI
  have i3 : ¬ (n : Int) < 0:=by omega
  clear hn
  go_enter Tryz.func38,Tryz.ntmps38
  go_wp2_with (first | (go_at_call 69; (with_reducible refine HI.out.mono ?_); rintro e w1 ⟨rfl,hb1⟩; refine Hid.out ?_) | fail)
  refine Lib.hid ?_
  have HB1:=Lib.hid hb1
  clear hb1
  go_wp2_with (first | (go_at_call 70; (with_reducible refine (HLW.out _).mono ?_); rintro e w2 ⟨rfl,hb2⟩; refine Hid.out ?_) | fail)
  refine Lib.hid ?_
  have HB2:=Lib.hid (HB1.out.trans (hb2.mono HB1.out.size))
  clear hb2
  obtain ⟨ev,vv,hx⟩:=H.out.on HB2.out
  obtain ⟨c0,c1,c2,c3,c4,c5,c6⟩:=hx.cells
  obtain ⟨h1,p1⟩:=hx.setBox 2 (.bool true) (o':=true) rfl hx.row hx.val hx.map
  obtain ⟨h2,p2⟩:=h1.setBox 3 (.int .i64 (pos : Int)) (s':=(pos : Int)) rfl h1.row h1.val h1.map
  obtain ⟨h3,p3⟩:=h2.setBox 4 (S kk) (key':=kk) rfl h2.row h2.val h2.map
  obtain ⟨h4,p4⟩:=h3.setBox 5 (.slice none 0 0) (vv':=.slice none 0 0) (val':=[]) rfl h3.row (owns_nil _ _) h3.map
  have HR : Hid (RSt B _ rb mb E true (pos : Int) kk []):=⟨_,_,h4⟩
  have HP:=Lib.hid ((PStep.of_below HB2.out (by obtain ⟨_,_,h9⟩:=H.out; exact h9.bge) : PStep B w w2).trans (((p1.trans p2).trans p3).trans p4))
  have f2:=c6 2
  have f3:=c6 3
  have f4:=c6 4
  have f5:=c6 5
  clear hx c6 h1 p1 h2 p2 h3 p3 h4 p4
  go_wp2_with (first | (go_at_call 39; (with_reducible refine (HAD.out _ HR.out).mono ?_); rintro e w3 ⟨rfl,r3,q3⟩; refine Hid.out ?_) | fail)
  refine Lib.hid ?_
  have HF:=Lib.hid (And.intro r3 (HP.out.trans q3))
  clear r3 q3
  go_wp2
  go_end0
  exact ⟨rfl,HF.out.1,HF.out.2⟩
 ·rw [if_neg hn] at HI
  obtain rfl : n=line.size:=by omega
  rw [show line.extract 0 line.size=line by simp] at HLW
  rw [show line.extract line.size line.size=ByteArray.empty by simp] at HAD
  clear hn
  go_enter Tryz.func38,Tryz.ntmps38
  go_wp2_with (first | (go_at_call 69; (with_reducible refine HI.out.mono ?_); rintro e w1 ⟨rfl,hb1⟩; refine Hid.out ?_) | fail)
  refine Lib.hid ?_
  have HB1:=Lib.hid hb1
  clear hb1
  go_wp2_with (first | (go_at_call 70; (with_reducible refine (HLW.out _).mono ?_); rintro e w2 ⟨rfl,hb2⟩; refine Hid.out ?_) | fail)
  refine Lib.hid ?_
  have HB2:=Lib.hid (HB1.out.trans (hb2.mono HB1.out.size))
  clear hb2
  obtain ⟨ev,vv,hx⟩:=H.out.on HB2.out
  obtain ⟨c0,c1,c2,c3,c4,c5,c6⟩:=hx.cells
  obtain ⟨h1,p1⟩:=hx.setBox 2 (.bool true) (o':=true) rfl hx.row hx.val hx.map
  obtain ⟨h2,p2⟩:=h1.setBox 3 (.int .i64 (pos : Int)) (s':=(pos : Int)) rfl h1.row h1.val h1.map
  obtain ⟨h3,p3⟩:=h2.setBox 4 (S kk) (key':=kk) rfl h2.row h2.val h2.map
  obtain ⟨h4,p4⟩:=h3.setBox 5 (.slice none 0 0) (vv':=.slice none 0 0) (val':=[]) rfl h3.row (owns_nil _ _) h3.map
  have HR : Hid (RSt B _ rb mb E true (pos : Int) kk []):=⟨_,_,h4⟩
  have HP:=Lib.hid ((PStep.of_below HB2.out (by obtain ⟨_,_,h9⟩:=H.out; exact h9.bge) : PStep B w w2).trans (((p1.trans p2).trans p3).trans p4))
  have f2:=c6 2
  have f3:=c6 3
  have f4:=c6 4
  have f5:=c6 5
  clear hx c6 h1 p1 h2 p2 h3 p3 h4 p4
  go_wp2_with (first | (go_at_call 39; (with_reducible refine (HAD.out _ HR.out).mono ?_); rintro e w3 ⟨rfl,r3,q3⟩; refine Hid.out ?_) | fail)
  refine Lib.hid ?_
  have HF:=Lib.hid (And.intro r3 (HP.out.trans q3))
  clear r3 q3
  go_wp2
  go_end0
  exact ⟨rfl,HF.out.1,HF.out.2⟩
def wrongP (E : List KV) (key val : List UInt8) : Nat :=
 if 320 < key.length∨val=[]∨1000 < val.length then 61 else if key ∈ E.map Prod.fst then 63 else if E.length=2000 then 62 else 0
theorem entM_hit {E : List KV} {key : List UInt8} (h : key ∈ E.map Prod.fst) : (S key,Value.int .i64 1) ∈ E.map entM:=by
 obtain ⟨p,hp,rfl⟩:=List.mem_map.1 h
 exact List.mem_map.2 ⟨p,hp,rfl⟩
theorem S_inj {a b : List UInt8} (h : S a=S b) : a=b:=by
 have h2 : (⟨a.toArray⟩ : ByteArray)=⟨b.toArray⟩:=by injection h
 have h3 : a.toArray=b.toArray:=by injection h2
 exact List.toArray_inj h3
theorem entM_miss {E : List KV} {key : List UInt8} (h : ¬ key ∈ E.map Prod.fst) : ∀ p ∈ E.map entM,p.1 ≠ S key:=fun p hp e=>by
 obtain ⟨q,hq,rfl⟩:=List.mem_map.1 hp
 exact h (List.mem_map.2 ⟨q,hq,S_inj e⟩)
theorem keyS (key : List UInt8) (h : key.length≤1000000) : Go.keyOf Tryz.prog 9 (S key)=some (Lit.string key):=by
 have hs : (⟨key.toArray⟩ : ByteArray).size≤maxLen:=by
  unfold maxLen
  have : (⟨key.toArray⟩ : ByteArray).size=key.length:=rfl
  omega
 exact Go.WideMaps.keyOf_string_mk (P:=Tryz.prog) (k:=9) Tryz.underlying9 (s:=⟨key.toArray⟩) hs
theorem pWrong (B : Nat) (w : World) (rb mb : Nat) (E : List KV) (o : Bool) (s : Int) (key val : List UInt8) (h : RSt B w rb mb E o s key val) (hk : key.length≤1000000) (hv : val.length≤9000000) (_he : E.length≤1000000) :
  Calls Tryz.prog 68 #[.pointer (some ⟨rb,0,none⟩)] w (fun e w'=>e=.returned (.int .i64 (wrongP E key val : Int))∧Below w.heap.size w w'):=by
 obtain ⟨ev,vv,hx⟩:=h
 obtain ⟨va,vc,rfl,hvc⟩:=row_form hx.val
 obtain ⟨ea,ec,rfl,hec⟩:=row_form hx.row
 obtain ⟨c0,c1,c2,c3,c4,c5,c6⟩:=hx.cells
 have HM:=Lib.hid hx.map
 clear hx c2 c3 c6
 by_cases h320 : 320 < key.length
 ·have i1 : (320 : Int) < (key.length : Int):=by omega
  have HW:=Lib.hid (show wrongP E key val=61 by unfold wrongP; rw [if_pos (Or.inl h320)])
  clear h320
  go_enter Tryz.func68,Tryz.ntmps68
  go_wp2
  go_ret
  exact ⟨by rw [HW.out]; rfl,Below.refl _ _⟩
 ·have i1 : ¬ (320 : Int) < (key.length : Int):=by omega
  by_cases hv0 : val.length=0
  ·have HW:=Lib.hid (show wrongP E key val=61 by unfold wrongP; rw [if_pos (Or.inr (Or.inl (List.eq_nil_of_length_eq_zero hv0)))])
   have i2 : ((val.length : Int) == 0)=true:=by rw [hv0]; rfl
   clear hv0 h320
   go_enter Tryz.func68,Tryz.ntmps68
   go_wp2
   go_ret
   exact ⟨by rw [HW.out]; rfl,Below.refl _ _⟩
  ·have i2 : ((val.length : Int) == 0)=false:=by rw [beq_eq_false_iff_ne]; omega
   have hne : val ≠ []:=fun e=>hv0 (by rw [e]; rfl)
   by_cases h1000 : 1000 < val.length
   ·have i3 : (1000 : Int) < (val.length : Int):=by omega
    have HW:=Lib.hid (show wrongP E key val=61 by unfold wrongP; rw [if_pos (Or.inr (Or.inr h1000))])
    clear h1000 hv0 h320 hne
    go_enter Tryz.func68,Tryz.ntmps68
    go_wp2
    go_ret
    exact ⟨by rw [HW.out]; rfl,Below.refl _ _⟩
   ·have i3 : ¬ (1000 : Int) < (val.length : Int):=by omega
    have hno : ¬ (320 < key.length∨val=[]∨1000 < val.length):=fun h=>h.elim h320 (fun h=>h.elim hne h1000)
    by_cases hin : key ∈ E.map Prod.fst
    ·have HW:=Lib.hid (show wrongP E key val=63 by unfold wrongP; rw [if_neg hno,if_pos hin])
     have hlk : ∀ n,(Instr.lookup 84 (.map (some mb)) (S key) false).run Tryz.prog (w.drewN n)=.ok (.int .i64 1) (w.drewN n):=fun n=>(HM.out.kept (w':=w.drewN n) rfl).hit false klaw Tryz.underlying84 (Tryz.zeroValue3 _) (entM_hit hin)
     clear h1000 hv0 h320 hne hno hin
     go_enter Tryz.func68,Tryz.ntmps68
     go_wp2
     go_quiet (fail)
     go_wp2
     go_ret
     exact ⟨by rw [HW.out]; rfl,bel_drewN _ _ (Nat.le_refl _)⟩
    ·have hlk : ∀ n,(Instr.lookup 84 (.map (some mb)) (S key) false).run Tryz.prog (w.drewN n)=.ok (.int .i64 0) (w.drewN n):=fun n=>(HM.out.kept (w':=w.drewN n) rfl).miss false klaw Tryz.underlying84 (Tryz.zeroValue3 _) (keyS key hk) (entM_miss hin)
     by_cases h2000 : E.length=2000
     ·have HW:=Lib.hid (show wrongP E key val=62 by unfold wrongP; rw [if_neg hno,if_neg hin,if_pos h2000])
      have i4 : ((E.length : Int) == 2000)=true:=by rw [h2000]; rfl
      clear h1000 hv0 h320 hne hno hin h2000
      go_enter Tryz.func68,Tryz.ntmps68
      go_wp2
      go_quiet (fail)
      go_wp2
      go_ret
      exact ⟨by rw [HW.out]; rfl,bel_drewN _ _ (Nat.le_refl _)⟩
     ·have HW:=Lib.hid (show wrongP E key val=0 by unfold wrongP; rw [if_neg hno,if_neg hin,if_neg h2000])
      have i4 : ((E.length : Int) == 2000)=false:=by rw [beq_eq_false_iff_ne]; omega
      clear h1000 hv0 h320 hne hno hin h2000
      go_enter Tryz.func68,Tryz.ntmps68
      go_wp2
      go_quiet (fail)
      go_wp2
      go_ret
      exact ⟨by rw [HW.out]; rfl,bel_drewN _ _ (Nat.le_refl _)⟩
end Go.Proofs.YtghnopkgcgfcpaaGreatDoor.Table
set_option maxHeartbeats 16000000
set_option maxRecDepth 100000
namespace Go.Proofs.YtghnopkgcgfcpaaGreatDoor.Table
open Go.RowKit Base
theorem get_list {s : ByteArray} {j : Nat} {b : UInt8} (h : s.data.toList[j]?=some b) : s.get! j=b∧j < s.size:=by
 have hj : j < s.size:=by
  have:=(List.getElem?_eq_some_iff.1 h).1
  rw [str_len] at this; exact this
 have h2:=Lib.data_getElem? s j hj
 rw [h] at h2
 refine ⟨?_,hj⟩
 have h3:=get_at s j hj
 rw [Nat.add_zero] at h3
 rw [h3]
 injection h2 with h2
 exact h2.symm
theorem dec_high (s : ByteArray) (i : Nat) (h : i < s.size) (hx : 128≤(s.get! i).toNat) :
  128≤(Utf8.decode s i).1∧1≤(Utf8.decode s i).2∧i + (Utf8.decode s i).2≤s.size∧∀ j,i≤j→j < i + (Utf8.decode s i).2→128≤(s.get! j).toNat:=by
 rw [Lib.decode_at]
 rcases Lib.decodeN_shape (s.size - i) (s.get! i).toNat (s.get! (i + 1)).toNat (s.get! (i + 2)).toNat (s.get! (i + 3)).toNat with ⟨c,e⟩ | ⟨c1,c2,c3,cv,e⟩ | ⟨c1,c2,c3,c4,cv,cs,e⟩ | ⟨c1,c2,c3,c4,c5,cv,cw,e⟩ | e
 ·omega
 ·rw [e]
  refine ⟨cv,by show 1≤2; omega,by show i + 2≤_; omega,fun j h1 h2=>?_⟩
  have h2 : j < i + 2:=h2
  rcases (show j=i∨j=i + 1 by omega) with rfl | rfl <;> omega
 ·rw [e]
  refine ⟨by show 128≤_; omega,by show 1≤3; omega,by show i + 3≤_; omega,fun j h1 h2=>?_⟩
  have h2 : j < i + 3:=h2
  rcases (show j=i∨j=i + 1∨j=i + 2 by omega) with rfl | rfl | rfl <;> omega
 ·rw [e]
  refine ⟨by show 128≤_; omega,by show 1≤4; omega,by show i + 4≤_; omega,fun j h1 h2=>?_⟩
  have h2 : j < i + 4:=h2
  rcases (show j=i∨j=i + 1∨j=i + 2∨j=i + 3 by omega) with rfl | rfl | rfl | rfl <;> omega
 ·rw [e]
  refine ⟨by show 128≤65533; omega,by show 1≤1; omega,by show i + 1≤_; omega,fun j h1 h2=>?_⟩
  have h2 : j < i + 1:=h2
  obtain rfl : j=i:=by omega
  omega
theorem no_high {s : ByteArray} {i k : Nat} (hno : Lib.NoAny s.data.toList [32,9] i) (h : ∀ j,i≤j→j < i + k→128≤(s.get! j).toNat) : Lib.NoAny s.data.toList [32,9] (i + k):=fun j b hj hb=>by
 by_cases hji : j < i
 ·exact hno j b hji hb
 ·have h1:=h j (by omega) hj
  rw [(get_list hb).1] at h1
  rw [bl_iff]
  unfold isBl
  cases hbl : ([32,9] : List UInt8).contains b
  ·rw [bl_iff] at hbl; unfold isBl at hbl; exact hbl
  ·simp at hbl
   rcases hbl with rfl | rfl <;> exact absurd h1 (by decide)
theorem idx_any (l : List UInt8) : Lib.indexAny l [32,9]=idxA l:=by
 have hno : Lib.NoAny l [32,9] (keyOf l).length:=fun j b hj hb=>by
  have h1 : (keyOf l)[j]?=some b:=by
   rw [← (keyOf_take l).1,List.getElem?_take_of_lt hj]; exact hb
  have h2 : noBl b=true:=tw_mem l (List.mem_of_getElem? h1)
  rw [bl_iff]
  unfold noBl at h2
  simpa using h2
 unfold idxA
 split
 ·rename_i hlt
  have hx : l[(keyOf l).length]?=some l[(keyOf l).length]:=List.getElem?_eq_getElem hlt
  refine Lib.indexAny_hit hno hx ?_
  have hd:=List.drop_eq_getElem_cons hlt
  rw [(keyOf_take l).2] at hd
  have:=dw_head (p:=noBl) l hd
  unfold noBl at this
  rw [bl_iff]
  simpa using this
 ·have:=keyOf_le l
  exact Lib.indexAny_none (by rw [show l.length=(keyOf l).length by omega]; exact hno)
def setIt (w : World) (k : Nat) (s : ByteArray) (pos : Nat) : World:={ w with heap:=w.heap.setIfInBounds k (.stringIter s pos) }
theorem next_gen {w : World} {k : Nat} {s : ByteArray} {pos : Nat} (ty : TypeId) (hk : w.heap[k]?=some (.stringIter s pos)) (h : pos < s.size) :
  (Instr.next (.pointer (some ⟨k,0,none⟩)) true ty).run Tryz.prog w=.ok (.tuple #[.bool true,.int .i64 (pos : Int),.int .i32 ((Utf8.decode s pos).1 : Int)]) (setIt w k s (pos + (Utf8.decode s pos).2)):=by
 simp only [Instr.next,getObj,setObj,Sem.run_bind,Sem.run,hk,Result.andThen,h,if_true]
 simp [goInt,setIt]
theorem next_end {w : World} {k : Nat} {s : ByteArray} {pos : Nat} (ty : TypeId) (hk : w.heap[k]?=some (.stringIter s pos)) (h : ¬ pos < s.size) :
  (Instr.next (.pointer (some ⟨k,0,none⟩)) true ty).run Tryz.prog w=.ok (.tuple #[.bool false]) w:=by
 simp [Instr.next,getObj,Sem.run,hk,h]
theorem setIt_at {w : World} {k : Nat} {s : ByteArray} {pos q : Nat} (hk : w.heap[k]?=some (.stringIter s pos)) : (setIt w k s q).heap[k]?=some (.stringIter s q):=by
 have hlt : k < w.heap.size:=(Array.getElem?_eq_some_iff.1 hk).1
 simp [setIt,hlt]
theorem setIt_below {w0 w : World} {s : ByteArray} {q : Nat} (h : Below w0.heap.size w0 w) : Below w0.heap.size w0 (setIt w w0.heap.size s q) :=
 h.trans ⟨rfl,rfl,rfl,by simp [setIt],fun k hk=>by
  show (w.heap.setIfInBounds w0.heap.size _)[k]?=_
  rw [Array.getElem?_setIfInBounds_ne (by omega)]⟩
structure ItS (w0 wx : World) (s : ByteArray) (i : Nat) : Prop where
 it : wx.heap[w0.heap.size]?=some (.stringIter s i)
 bel : Below w0.heap.size w0 wx
 no : Lib.NoAny s.data.toList [32,9] i
theorem ItS.after {w0 wx w' : World} {s : ByteArray} {i q : Nat} (h : ItS w0 wx s i) (hb : Below (setIt wx w0.heap.size s q).heap.size (setIt wx w0.heap.size s q) w') (hn : Lib.NoAny s.data.toList [32,9] q) : ItS w0 w' s q:=by
 have h1:=setIt_at (q:=q) h.it
 have hlt : w0.heap.size < (setIt wx w0.heap.size s q).heap.size:=(Array.getElem?_eq_some_iff.1 h1).1
 exact ⟨(hb.block _ hlt).trans h1,(setIt_below h.bel).trans (hb.mono (Nat.le_of_lt hlt)),hn⟩
theorem pIdxShort (ch : ByteArray) (hch : ch=⟨#[32,9]⟩) (s : ByteArray) (w : World) (h8 : s.size≤8) : Calls Tryz.prog 69 #[.string s,.string ch] w (IdxEnd s.data.toList w):=by
 have HC:=Lib.hid hch
 have hemp : ch.toList.isEmpty=false:=by rw [hch,Lib.toList_data]; rfl
 have hn1 : ((ch.size : Int) == 1)=false:=by rw [hch]; rfl
 have h8z : decide ((8 : Int) < (s.size : Int))=false:=decide_eq_false (by omega)
 have HSU : Hid (∀ w1,Calls Tryz.prog 111 #[.int .i64 (s.size : Int)] w1 fun e w'=>e=.returned (.bool false)∧w'=w1):=fun w1=>by have:=Tryz.strings_shouldUseASCIISet (s.size : Int) w1; rw [h8z] at this; exact this
 have HHI : Hid (∀ (r : Int) w1,128≤r→Calls Tryz.prog 110 #[.string ch,.int .i32 r] w1 (MinusEnd w1)):=fun r w1 hr=>by rw [hch]; exact pHigh r w1 hr
 have HLO : Hid (∀ (x : UInt8) w1,x.toNat < 128→Calls Tryz.prog 110 #[.string ch,.int .i32 (x.toNat : Int)] w1 fun e w'=>e=.returned (.int .i64 (Lib.indexByte [32,9] x))∧w'=w1):=fun x w1 hx=>by
  have:=Tryz.strings_IndexRune_ascii ch (x.toNat : Int) w1 (by omega) (by omega)
  have hback : ((x.toNat : Int)).toNat.toUInt8=x:=by simp
  rw [hback,hch] at this
  rw [hch]; exact this
 clear hch h8z h8
 go_enter Tryz.func69,Tryz.ntmps69
 go_wp2_with (first | (go_at_call 111; refine (HSU.out _).mono ?_; rintro e w1 ⟨rfl,rfl⟩) | fail)
 go_loopg [9,10] s.size (fun g _ _ wx=>∃ i : Nat,i + g=s.size∧ItS w1 wx s i)
 case atStart=>exact ⟨0,by omega,⟨World.iter_heap _ _ _,Below.alloc1 _ _,Lib.NoAny.zero _ _⟩⟩
 case round =>
  obtain ⟨i,hig,hit⟩:=hrel
  have HI:=Lib.hid hit
  clear hit
  cases gk with
  | zero =>
   obtain rfl : i=s.size:=by omega
   have hnx:=fun ty=>next_end ty HI.out.it (Nat.lt_irrefl _)
   go_wp2
   go_ret
   exact ⟨by rw [← idx_any,Lib.indexAny_none (by rw [str_len]; exact HI.out.no)]; rfl,HI.out.bel⟩
  | succ g =>
   have hi : i < s.size:=by omega
   obtain ⟨x,hx⟩ : ∃ x : UInt8,s[i]'hi=x:=⟨_,rfl⟩
   have Hx : Hid (s.data.toList[i]?=some x):=by show _=_; rw [← hx]; exact Lib.data_getElem? s i hi
   by_cases hlow : x.toNat < 128
   ·have hnx:=fun ty=>next_gen ty HI.out.it hi
    rw [decode_ascii s i hi (by rw [hx]; exact hlow),hx] at hnx
    have hnx2:=Lib.hid hnx
    clear hnx hx
    have hnx : ∀ ty,(Instr.next (.pointer (some ⟨w1.heap.size,0,none⟩)) true ty).run Tryz.prog wr=.ok (.tuple #[.bool true,.int .i64 (i : Int),.int .i32 (x.toNat : Int)]) (setIt wr w1.heap.size s (i + 1)):=hnx2.out
    clear hnx2
    have hcon:=Lib.contains_iff_indexByte [32,9] x
    cases hin : ([32,9] : List UInt8).contains x
    ·rw [hin] at hcon
     have hlt : ¬ ((0 : Int)≤Lib.indexByte [32,9] x):=of_decide_eq_false hcon.symm
     have HIN:=Lib.hid hin
     clear hcon hin
     have HCC:=Lib.hid (HLO.out x · hlow)
     revert hlt HCC
     generalize Lib.indexByte [32,9] x=iv
     intro hlt HCC
     go_wp2_with (first | (go_at_call 110; refine (HCC.out _).mono ?_; rintro e w2 ⟨rfl,hw⟩; rw [hw]) | fail)
     go_roundg g
     case measure=>omega
     case rel=>exact ⟨i + 1,by omega,HI.out.after (Below.refl _ _) (HI.out.no.succ Hx.out HIN.out)⟩
    ·rw [hin] at hcon
     have hge : (0 : Int)≤Lib.indexByte [32,9] x:=of_decide_eq_true hcon.symm
     have HIN:=Lib.hid hin
     clear hcon hin
     have HCC:=Lib.hid (HLO.out x · hlow)
     revert hge HCC
     generalize Lib.indexByte [32,9] x=iv
     intro hge HCC
     go_wp2_with (first | (go_at_call 110; refine (HCC.out _).mono ?_; rintro e w2 ⟨rfl,hw⟩; rw [hw]) | fail)
     go_ret
     exact ⟨by rw [← idx_any,Lib.indexAny_hit HI.out.no Hx.out HIN.out]; rfl,setIt_below HI.out.bel⟩
   ·obtain ⟨d1,d2,d3,d4⟩:=dec_high s i hi (by rw [(get_list Hx.out).1]; omega)
    have hnx:=fun ty=>next_gen ty HI.out.it hi
    have HN : Hid (Lib.NoAny s.data.toList [32,9] (i + (Utf8.decode s i).2)):=no_high HI.out.no d4
    clear d4 hx hlow
    revert hnx HN d1 d2 d3
    generalize (Utf8.decode s i).1=rr
    generalize (Utf8.decode s i).2=kk
    intro d1 d2 d3 hnx HN
    have HCC:=Lib.hid (fun w2=>HHI.out (rr : Int) w2 (by omega))
    go_wp2_with (first | (go_at_call 110; refine (HCC.out _).mono ?_; rintro e w2 ⟨rfl,hb2⟩; refine Hid.out ?_) | fail)
    refine Lib.hid ?_
    have HB2:=Lib.hid hb2
    clear hb2
    go_wp2
    go_roundg (s.size - (i + kk))
    case measure=>omega
    case rel=>exact ⟨i + kk,by omega,HI.out.after HB2.out HN.out⟩
theorem idxOk : IdxOk:=fun line w hsz=>by
 by_cases h8 : line.size≤8
 ·exact pIdxShort _ rfl line w h8
 ·refine (Tryz.strings_IndexAny_long (fun w=>by kernel_rfl) line ⟨#[32,9]⟩ w (by decide) (by omega) (by omega) (by decide) asc).mono fun e w' h=>⟨?_,?_⟩
  ·rw [h.1]; show _=Ending.returned (.int .i64 (idxA line.data.toList)); rw [← idx_any]
  ·rw [h.2]; exact (Below.alloc1 _ _).trans ((Below.alloc1 _ _).mono (by show w.heap.size≤(w.heap.push _).size; rw [Array.size_push]; omega))
end Go.Proofs.YtghnopkgcgfcpaaGreatDoor.Table
