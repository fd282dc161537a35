/-
  MERGED by mergefill.py: Base.
-/
import Derived.Test.YtghnopkgcgfcpaaGreatDoorProg
import Derived.WalkKit
import Derived.Lib.Hide
import Derived.WalkSpells
import Derived.Laws.IdiomStrings
import Derived.Lib.SmallJoins
import Derived.OwnWalk
import Derived.Deep.DeepAppendWide
import Derived.Lib.AppendStr
import Derived.Lib.SlBytesConst
import Derived.Deep.QuietTactic
import Derived.BigQuiet
import Derived.IntWalk
import Derived.Scope
import Derived.WalkMore
import Derived.Lib.UnsafeStr
import Derived.Lib.BufferWrite
namespace Go.Proofs.YtghnopkgcgfcpaaGreatDoor.Base
open Go.RowKit
def Reads (w : World) (v : Value) (l : List UInt8) : Prop :=
 (l=[]∧∃ a c,v=.slice a 0 c∧(a=none→c=0))∨(∃ b o c,v=.slice (some ⟨b,o,none⟩) l.length c∧l.length≤c∧∀ i,i < l.length→w.cell? ⟨b,o + i,none⟩=some (.int .u8 ((l.getD i 0).toNat : Int)))
theorem Reads.on {w w' : World} {v : Value} {l : List UInt8} (h : Reads w v l) (hb : Below w.heap.size w w') : Reads w' v l:=by
 rcases h with h | ⟨b,o,c,rfl,hc,hcell⟩
 ·exact Or.inl h
 ·refine Or.inr ⟨b,o,c,rfl,hc,fun i hi=>?_⟩
  have h1:=hcell i hi
  have hlt : b < w.heap.size:=by
   rcases Nat.lt_or_ge b w.heap.size with h | h
   ·exact h
   ·rw [World.cell?,Array.getElem?_eq_none h] at h1; simp at h1
  rw [hb.cell (p:=⟨b,o + i,none⟩) hlt,h1]
theorem Reads.drew {w : World} {v : Value} {l : List UInt8} (h : Reads w v l) : Reads w.drew v l:=h.on (Below.refl _ _).drew
theorem reads_bytes (w : World) (s : ByteArray) (cap : Nat) (hcap : s.size≤cap) (t : TypeId) (fz : Nat × Nat) :
  Reads (w.drew.alloc (.cells (bytesRow s cap) t fz)) (.slice (some ⟨w.heap.size,0,none⟩) s.size cap) s.data.toList:=by
 have hs : s.data.toList.length=s.size:=by rw [Array.length_toList]; rfl
 refine Or.inr ⟨w.heap.size,0,cap,by rw [hs],by omega,fun i hi=>?_⟩
 have h0 : (w.drew.alloc (.cells (bytesRow s cap) t fz)).heap[w.heap.size]?=some (.cells (bytesRow s cap) t fz):=by
  show (w.heap.push _)[w.heap.size]?=_
  simp
 rw [hs] at hi
 have hi2 : i < s.data.size:=hi
 unfold World.cell?
 rw [h0]
 show (bytesRow s cap)[0 + i]?=_
 rw [Nat.zero_add,bytesRow,Array.getElem?_append_left (by simpa using hi2)]
 rw [Array.getElem?_map,Array.getElem?_eq_getElem hi2]
 simp [List.getD_eq_getElem?_getD,Array.getElem?_eq_getElem hi2]
theorem ref_bytes (w : World) (s : ByteArray) : ∃ cap,s.size≤cap∧(convert 9 86 (.string s)).run Tryz.prog w=.ok (.slice (some ⟨w.heap.size,0,none⟩) s.size cap) (w.drew.alloc (.cells (bytesRow s cap) 5 ((bytesRow s cap).size,(bytesRow s cap).size + 1))) :=
 ⟨_,grownCap_ge _ _ _ _,run_bytes_of_string w 9 86 5 s Tryz.underlying9 Tryz.underlying86 Tryz.underlying5⟩
theorem cell_lt {w : World} {b o : Nat} {v : Value} (h : w.cell? ⟨b,o,none⟩=some v) : b < w.heap.size:=by
 rcases Nat.lt_or_ge b w.heap.size with hl | hl
 ·exact hl
 ·rw [World.cell?,Array.getElem?_eq_none hl] at h; simp at h
theorem Reads.form {w : World} {v : Value} {l : List UInt8} (h : Reads w v l) : ∃ A c,v=.slice A l.length c:=by
 rcases h with ⟨rfl,a,c,rfl,_⟩ | ⟨b,o,c,rfl,_⟩
 ·exact ⟨a,c,rfl⟩
 ·exact ⟨_,c,rfl⟩
theorem heap_lt {w : World} {k : Nat} {o : Obj} (h : w.heap[k]?=some o) : k < w.heap.size:=by
 rcases Nat.lt_or_ge k w.heap.size with h' | h'
 ·exact h'
 ·rw [Array.getElem?_eq_none h'] at h; cases h
theorem conv_reads {w : World} {v : Value} {l : List UInt8} (h : Reads w v l) : (convert 86 9 v).run Tryz.prog w=.ok (.string ⟨l.toArray⟩) w:=by
 rcases h with ⟨rfl,a,c,rfl,_⟩ | ⟨b,o,c,rfl,_,hc⟩
 ·cases a with
  | none=>rw [run_convert_bytes_string w 86 9 5 none 0 c Tryz.underlying86 Tryz.underlying5 Tryz.underlying9]; rfl
  | some a=>exact run_convert_bytes_back (P:=Tryz.prog) w 86 9 5 a c [] Tryz.underlying86 Tryz.underlying5 Tryz.underlying9 (fun j hj=>by simp at hj)
 ·refine run_convert_bytes_back (P:=Tryz.prog) w 86 9 5 ⟨b,o,none⟩ c l Tryz.underlying86 Tryz.underlying5 Tryz.underlying9 (fun j hj=>?_)
  rw [Addr.add_lit,hc j hj]
  congr 2
  simp [List.getD,List.getElem?_eq_getElem hj]
theorem reads_lit (w : World) (t : TypeId) (cs : Array Value) (l : List UInt8) (n : Nat) (hn : n=l.length) (h : cs.toList=Lib.byteCells l) (fz : Nat × Nat) : Reads (w.alloc (.cells cs t fz)) (.slice (some ⟨w.heap.size,0,none⟩) n n) l:=by
 subst hn
 refine Or.inr ⟨w.heap.size,0,l.length,rfl,Nat.le_refl _,fun i hi=>?_⟩
 have h0 : (w.alloc (.cells cs t fz)).heap[w.heap.size]?=some (.cells cs t fz):=by
  show (w.heap.push _)[w.heap.size]?=_
  simp
 unfold World.cell?
 rw [h0]
 show cs[0 + i]?=_
 rw [Nat.zero_add,← Array.getElem?_toList,h]
 simp [Lib.byteCells,List.getD,List.getElem?_eq_getElem hi]
theorem Below.alloc1 (w : World) (o : Obj) : Below w.heap.size w (w.alloc o):=(Below.refl _ _).alloc (Nat.le_refl _) o
theorem info5 : (Tryz.prog.info? 5).map (fun i=>(i.zero,i.size,i.bytes))=some (some (.int .u8 0),1,1):=by kernel_rfl
def Owns (w : World) (B : Nat) (v : Value) (l : List UInt8) : Prop:=w.ownsRow B 5 1 v l.length (Lib.byteCells l)
theorem Owns.on {w w' : World} {B : Nat} {v : Value} {l : List UInt8} (h : Owns w B v l) (hb : Below w.heap.size w w') : Owns w' B v l:=by
 refine ⟨h.1,?_⟩
 rcases h.2 with hn | ⟨g,cap,cur,rfl,h1,h2,h3⟩
 ·exact Or.inl hn
 ·refine Or.inr ⟨g,cap,cur,rfl,h1,?_,h3⟩
  have hg : g < w.heap.size:=by
   rcases Nat.lt_or_ge g w.heap.size with h | h
   ·exact h
   ·rw [Array.getElem?_eq_none h] at h2; simp at h2
  rw [hb.block g hg,h2]
theorem Owns.mono {w : World} {B B' : Nat} {v : Value} {l : List UInt8} (h : Owns w B v l) (hB : B'≤B) : Owns w B' v l:=by
 refine ⟨h.1,?_⟩
 rcases h.2 with hn | ⟨g,cap,cur,rfl,h1,h2⟩
 ·exact Or.inl hn
 ·exact Or.inr ⟨g,cap,cur,rfl,by omega,h2⟩
theorem Owns.reads {w : World} {B : Nat} {v : Value} {l : List UInt8} (h : Owns w B v l) : Reads w v l:=by
 rcases h.2 with ⟨rfl,hn⟩ | ⟨g,cap,cur,rfl,h1,h2,h3,h4,h5,h6⟩
 ·have : l=[]:=List.eq_nil_of_length_eq_zero hn
  subst this
  exact Or.inl ⟨rfl,none,0,rfl,fun _=>rfl⟩
 ·refine Or.inr ⟨g,0,cap,rfl,h3,fun i hi=>?_⟩
  unfold World.cell?
  rw [h2]
  show cur[0 + i]?=_
  rw [Nat.mul_one] at h6
  have e : (Lib.byteCells l)[i]?=some (.int .u8 ((l.getD i 0).toNat : Int)):=by
   simp [Lib.byteCells,List.getD,List.getElem?_eq_getElem hi]
  rw [← e,← h6,List.getElem?_take_of_lt hi,Nat.zero_add,Array.getElem?_toList]
section
variable (w : World)
theorem run_append_reads (B : Nat) (ty : TypeId) (v x : Value) (xs l : List UInt8) (hown : Owns w B v xs) (hr : Reads w x l) (hlim : xs.length + l.length≤200000000000000) (hB : B≤w.heap.size) :
  ∃ v' w',(Builtin.append_ #[86,86] ty #[v,x]).run Tryz.prog w=.ok v' w'∧Owns w' B v' (xs++l)∧Below B w w':=by
 obtain ⟨i0,hi,hz0,hz1,hz2⟩:=info_parts info5
 have hb : ∀ w',w.grownBy w' v.ownBlock→Below B w w':=fun w' hg=>(Below.refl B w).grown hg hB fun k hk=>(hown.lt k hk).1
 rcases hr with ⟨rfl,a,c,rfl,hc⟩ | ⟨b,o,c,rfl,_,hcell⟩
 ·cases a with
  | none =>
   obtain rfl:=hc rfl
   refine ⟨v,w,run_append_owned_none (P:=Tryz.prog) w B 86 ty 5 i0 1 Tryz.underlying86 hi v _ _ hown,?_,Below.refl _ _⟩
   rw [List.append_nil]; exact hown
  | some a =>
   obtain ⟨v',w',h1,h2,h3,_⟩:=run_append_own_wide (P:=Tryz.prog) w B 86 ty 5 i0 (.int .u8 0) 1 1 Tryz.underlying86 hi hz0 hz1 hz2 rfl (by decide) v _ _ hown a 0 c [] rfl (fun j u h=>by simp at h) (fun u h=>by cases h) (by unfold maxLen; simp at hlim ⊢; omega) (by simp at hlim ⊢; omega) hB
   refine ⟨v',w',h1,?_,hb w' h3⟩
   rw [List.append_nil]; simpa [Owns] using h2
 ·obtain ⟨v',w',h1,h2,h3,_⟩:=run_append_own_wide (P:=Tryz.prog) w B 86 ty 5 i0 (.int .u8 0) 1 1 Tryz.underlying86 hi hz0 hz1 hz2 rfl (by decide) v _ _ hown ⟨b,o,none⟩ l.length c (Lib.byteCells l) (by simp [Lib.byteCells]) (fun j u h=>by
    have hj : j < l.length:=by
     rcases Nat.lt_or_ge j l.length with h' | h'
     ·exact h'
     ·simp [Lib.byteCells,List.getElem?_eq_none h'] at h
    have e:=hcell j hj
    rw [Addr.add_lit,e]
    simp [Lib.byteCells,List.getElem?_eq_getElem hj] at h
    rw [← h]; simp [List.getD,List.getElem?_eq_getElem hj]) (Lib.byteCells_one _) (by unfold maxLen; omega) (by omega) hB
  refine ⟨v',w',h1,?_,hb w' h3⟩
  unfold Owns
  rw [List.length_append,Lib.byteCells_append]; exact h2
theorem wp_append_reads {ops : Array Oper} {rest : List Oper} {o : Oper} {a : Act} {Q : Exit→Act→World→Prop} (hgd : o.guard=none) (s x : Operand)
  (ho : o.op=.call { callee:=.builtin .append,args:=#[s,x],argTypes:=#[86,86] })
  (B : Nat) (v y : Value) (xs l : List UInt8) (hs : a.eval s=v) (hx : a.eval x=y) (hown : Owns w B v xs) (hr : Reads w y l) (hlim : xs.length + l.length≤200000000000000) (hB : B≤w.heap.size)
  (h : ∀ v' w',Owns w' B v' (xs++l)→Below B w w'→wpList Tryz.prog ops Q rest (a.put o.dst v') w') : wpList Tryz.prog ops Q (o :: rest) a w:=by
 refine wpList_plain hgd fun K hK=>?_
 obtain ⟨v',w',hr,h2,h3⟩:=run_append_reads w B o.type v y xs l hown hr hlim hB
 unfold Oper.wp execOp
 simp only [ho,resolve,invoke,builtin,Sem.run_bind,Sem.run_pure,Result.andThen_ok,List.map_toArray,List.map_cons,List.map_nil,hs,hx,hr]
 exact hK _ _ (h v' w' h2 h3)
end
theorem reads_one (w : World) (t : TypeId) (z : Int) (d : UInt8) (h : z=(d.toNat : Int)) : Reads (w.alloc (.cells #[.int .u8 z] t)) (.slice (some ⟨w.heap.size,0,none⟩) 1 1) [d]:=by
 refine Or.inr ⟨w.heap.size,0,1,rfl,Nat.le_refl _,fun i hi=>?_⟩
 obtain rfl : i=0:=by simpa using hi
 rw [h]
 go_simp
theorem owns_nil (w : World) (B : Nat) : Owns w B (.slice none 0 0) []:=World.ownsRow_nil w B 5 1
theorem Owns.form {w : World} {B : Nat} {v : Value} {l : List UInt8} (h : Owns w B v l) (h0 : 0 < l.length) : ∃ g c,v=.slice (some ⟨g,0,none⟩) l.length c∧B≤g∧g < w.heap.size:=by
 rcases h.2 with ⟨_,hn⟩ | ⟨g,cap,cur,rfl,h1,h2,_⟩
 ·omega
 ·refine ⟨g,cap,rfl,h1,?_⟩
  rcases Nat.lt_or_ge g w.heap.size with h | h
  ·exact h
  ·rw [Array.getElem?_eq_none h] at h2; simp at h2
theorem Owns.cell {w : World} {B g c : Nat} {l : List UInt8} (h : Owns w B (.slice (some ⟨g,0,none⟩) l.length c) l) (k : Nat) (hk : k < l.length) : w.cell? ⟨g,k,none⟩=some (.int .u8 ((l.getD k 0).toNat : Int)):=by
 have:=World.ownsRow.cellAt h k (by omega)
 rw [this]
 simp [Lib.byteCells,List.getD,List.getElem?_eq_getElem hk]
theorem Owns.keptB {w w' : World} {B : Nat} {v : Value} {l : List UInt8} (h : Owns w B v l) (hk : ∀ b,v.ownBlock=some b→b < w.heap.size→w'.heap[b]?=w.heap[b]?) : Owns w' B v l:=by
 refine ⟨h.1,?_⟩
 rcases h.2 with hn | ⟨g,cap,cur,rfl,h1,h2,h3⟩
 ·exact Or.inl hn
 ·exact Or.inr ⟨g,cap,cur,rfl,h1,by rw [hk g rfl (heap_lt h2)]; exact h2,h3⟩
theorem Owns.ge {w : World} {B : Nat} {v : Value} {l : List UInt8} (h : Owns w B v l) : ∀ b,v.ownBlock=some b→B≤b∧b < w.heap.size:=by
 intro b hb
 rcases h.2 with ⟨rfl,_⟩ | ⟨g,cap,cur,rfl,h1,h2,_⟩
 ·simp [Value.ownBlock] at hb
 ·have : g=b:=by simpa [Value.ownBlock] using hb
  subst this; exact ⟨h1,heap_lt h2⟩
structure KeepX (g : Nat) (w w' : World) : Prop where
 os : w'.os=w.os
 tape : w'.tape=w.tape
 output : w'.output=w.output
 size : w.heap.size≤w'.heap.size
 block : ∀ k,k < w.heap.size→k ≠ g→w'.heap[k]?=w.heap[k]?
theorem KeepX.refl (g : Nat) (w : World) : KeepX g w w:=⟨rfl,rfl,rfl,Nat.le_refl _,fun _ _ _=>rfl⟩
theorem KeepX.trans {g : Nat} {w w1 w2 : World} (h : KeepX g w w1) (h2 : KeepX g w1 w2) : KeepX g w w2 :=
 ⟨h2.os.trans h.os,h2.tape.trans h.tape,h2.output.trans h.output,Nat.le_trans h.size h2.size,fun k hk hg=>(h2.block k (Nat.lt_of_lt_of_le hk h.size) hg).trans (h.block k hk hg)⟩
theorem KeepX.of_below {g : Nat} {w w' : World} (h : Below w.heap.size w w') : KeepX g w w':=⟨h.os,h.tape,h.output,h.size,fun k hk _=>h.block k hk⟩
theorem KeepX.drewN {g : Nat} {w : World} (n : Nat) : KeepX g w (w.drewN n):=⟨rfl,rfl,rfl,Nat.le_refl _,fun _ _ _=>rfl⟩
theorem KeepX.set (g : Nat) (w : World) (i : Nat) (u : Value) : KeepX g w (w.setCell ⟨g,i,none⟩ u):=by
 have b : Below 0 w (w.setCell ⟨g,i,none⟩ u):=(Below.refl _ _).setCell (Nat.zero_le _) u
 exact ⟨b.os,b.tape,b.output,b.size,fun k _ hg=>Below.heap_setCell _ _ _ _ hg⟩
theorem KeepX.below {g B : Nat} {w w' : World} (h : KeepX g w w') (hB : B≤g) (hg : g < w.heap.size) : Below B w w' :=
 ⟨h.os,h.tape,h.output,h.size,fun k hk=>h.block k (by omega) (by omega)⟩
theorem two_cells {w : World} {k : Nat} {a b : Value} {t : TypeId} (h : w.heap[k]?=some (.cells #[a,b] t (0,0))) : w.cell? ⟨k,0,none⟩=some a∧w.cell? ⟨k,1,none⟩=some b∧w.frozen? ⟨k,0,none⟩=false∧w.frozen? ⟨k,1,none⟩=false :=
 ⟨cell_of_row w k 0 _ _ _ h,cell_of_row w k 1 _ _ _ h,by simp [World.frozen?,h],by simp [World.frozen?,h]⟩
theorem set_one {w : World} {k : Nat} {a b : Value} {t : TypeId} (h : w.heap[k]?=some (.cells #[a,b] t (0,0))) (x : Value) : (w.setCell ⟨k,0,none⟩ x).heap[k]?=some (.cells #[x,b] t (0,0)):=by
 rw [heap_setCell_same w k 0 _ _ _ h]; rfl
theorem set_two {w : World} {k : Nat} {a b : Value} {t : TypeId} (h : w.heap[k]?=some (.cells #[a,b] t (0,0))) (x y : Value) : ((w.setCell ⟨k,0,none⟩ x).setCell ⟨k,1,none⟩ y).heap[k]?=some (.cells #[x,y] t (0,0)):=by
 rw [heap_setCell_same _ k 1 _ _ _ (set_one h x)]; rfl
theorem four_cells {w : World} {k : Nat} {a b c d : Value} {t : TypeId} (h : w.heap[k]?=some (.cells #[a,b,c,d] t (0,0))) :
  w.cell? ⟨k,0,none⟩=some a∧w.cell? ⟨k,1,none⟩=some b∧w.cell? ⟨k,2,none⟩=some c∧w.cell? ⟨k,3,none⟩=some d∧w.frozen? ⟨k,0,none⟩=false∧w.frozen? ⟨k,1,none⟩=false∧w.frozen? ⟨k,2,none⟩=false∧w.frozen? ⟨k,3,none⟩=false :=
 ⟨cell_of_row w k 0 _ _ _ h,cell_of_row w k 1 _ _ _ h,cell_of_row w k 2 _ _ _ h,cell_of_row w k 3 _ _ _ h,by simp [World.frozen?,h],by simp [World.frozen?,h],by simp [World.frozen?,h],by simp [World.frozen?,h]⟩
theorem set_four {w : World} {k : Nat} {a b c d : Value} {t : TypeId} (h : w.heap[k]?=some (.cells #[a,b,c,d] t (0,0))) (x y z u : Value) :
  ((((w.setCell ⟨k,0,none⟩ x).setCell ⟨k,1,none⟩ y).setCell ⟨k,2,none⟩ z).setCell ⟨k,3,none⟩ u).heap[k]?=some (.cells #[x,y,z,u] t (0,0)):=by
 have h1:=heap_setCell_same w k 0 _ _ x h
 have h2:=heap_setCell_same _ k 1 _ _ y h1
 have h3:=heap_setCell_same _ k 2 _ _ z h2
 have h4:=heap_setCell_same _ k 3 _ _ u h3
 rw [h4]; rfl
theorem heap_setCell_any (w : World) (g i : Nat) (cs : Array Value) (t : TypeId) (fz : Nat × Nat) (v : Value) (hg : w.heap[g]?=some (.cells cs t fz)) :
  (w.setCell ⟨g,i,none⟩ v).heap[g]?=some (.cells (cs.setIfInBounds i v) t fz):=by
 simp [World.setCell,Array.getElem?_modify,hg]
theorem all_take {l : List UInt8} {k : Nat} (h : k < l.length) (p : UInt8→Bool) : (l.take (k + 1)).all p=((l.take k).all p && p (l.getD k 0)):=by
 rw [List.take_succ_eq_append_getElem h]; simp [List.getD,List.getElem?_eq_getElem h,-List.take_append_getElem]
theorem all_not {l : List UInt8} {k : Nat} (h : k < l.length) (p : UInt8→Bool) (hp : p (l.getD k 0)=false) : l.all p=false:=by
 rw [List.all_eq_false]
 refine ⟨l[k],List.getElem_mem h,?_⟩
 simp [List.getD,List.getElem?_eq_getElem h] at hp
 simp [hp]
theorem str_empty {s : ByteArray} (h : s.size=0) : s=⟨#[]⟩:=by
 apply ByteArray.ext
 exact Array.eq_empty_of_size_eq_zero h
theorem str_ne {s : ByteArray} (h : s.size ≠ 0) : s.toList.isEmpty=false∧¬ s.toList=[]:=by
 have : ¬ s.toList=[]:=fun h2=>h (by rw [(toList_nil_iff_emptyBytes s).1 h2]; rfl)
 exact ⟨by simpa using this,this⟩
theorem ret_bool {a b : Bool} (h : a=b) : Ending.returned (.bool a)=.returned (.bool b):=by rw [h]
def AskEnd (b : Bool) (w : World) (e : Ending) (w' : World) : Prop:=e=.returned (.bool b)∧w=w'
def Exit.fwd (P : Program) (F : Nat→Option Code) (Q : Exit→Act→World→Prop) : Exit→Act→World→Prop
 | .goto l,a,w=>∃ rest,F l=some rest∧rest.wp P (Exit.noGoto Q) a w
 | e,a,w=>Q e a w
section
variable {P : Program} {a : Act} {w : World} {Q : Exit→Act→World→Prop}
theorem wp_scope_fwd {c : Code} (h : ∀ F,F=findLabel c→c.wp P (Exit.fwd P F Q) a w) : (Code.scope c).wp P Q a w:=by
 have h:=h _ rfl
 intro b k cs
 obtain ⟨e,a₁,w₁,hq,harr⟩:=h b (.inScope c :: k) cs
 cases e with
 | normal=>exact ⟨.normal,a₁,w₁,hq,.head step_scope (Steps.trans harr (.one step_inScope))⟩
 | exit id=>exact ⟨.exit id,a₁,w₁,hq,fun k' hk=>.head step_scope (harr k' (by simp [exitTo,hk]))⟩
 | goto l =>
  obtain ⟨rest,hf,hr⟩:=hq
  have hg : gotoIn l (.inScope c :: k)=some (.code rest :: .inScope c :: k):=by simp [gotoIn,hf]
  obtain ⟨e₂,a₂,w₂,hq₂,harr₂⟩:=hr b (.inScope c :: k) cs
  have go : Steps P (lone (b.at a (.code (.scope c) :: k)) cs w) (lone (b.at a₁ (.code rest :: .inScope c :: k)) cs w₁):=.head step_scope (harr _ hg)
  cases e₂ with
  | normal=>exact ⟨.normal,a₂,w₂,hq₂,Steps.trans go (Steps.trans harr₂ (.one step_inScope))⟩
  | exit id=>exact ⟨.exit id,a₂,w₂,hq₂,fun k' hk=>Steps.trans go (harr₂ k' (by simp [exitTo,hk]))⟩
  | goto l=>exact hq₂.elim
  | ret=>exact ⟨_,a₂,w₂,hq₂,.of_steps go harr₂⟩
  | panic ch=>exact ⟨_,a₂,w₂,hq₂,.of_steps go harr₂⟩
  | outgrown=>exact ⟨_,a₂,w₂,hq₂,.of_steps go harr₂⟩
 | ret=>exact ⟨_,a₁,w₁,hq,.of_steps (.one step_scope) harr⟩
 | panic ch=>exact ⟨_,a₁,w₁,hq,.of_steps (.one step_scope) harr⟩
 | outgrown=>exact ⟨_,a₁,w₁,hq,.of_steps (.one step_scope) harr⟩
theorem Exit.fwd_ret {F : Nat→Option Code} : Exit.fwd P F Q .ret a w=Q .ret a w:=rfl
end
end Go.Proofs.YtghnopkgcgfcpaaGreatDoor.Base
