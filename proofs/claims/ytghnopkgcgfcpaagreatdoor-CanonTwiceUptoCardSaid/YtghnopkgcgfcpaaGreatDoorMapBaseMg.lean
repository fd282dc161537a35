/-
  MERGED by mergefill.py: MapBase.
-/
import Derived.Maps.RangeWalk
import Derived.WalkKit
namespace Go.Proofs.YtghnopkgcgfcpaaGreatDoor.Base
open Go.MapKept Go.ChangeMaps
open Go.WideElems (Fit rd rg)
open Go.Maps (Keyed)
def R0 (_ : Value) : Option (DataW Unit × List MemPlace):=some (.nil,[])
def mpair (e : MapEntry) : Value × Value:=(e.key,e.val)
def MapIs (P : Program) (k : TypeId) (w : World) (b : Nat) (L : List (Value × Value)) : Prop :=
 ∃ es clock,w.heap[b]?=some (.map es clock)∧Fit P k R0 es clock∧es.toList.map mpair=L
section
variable {P : Program} {k t e : TypeId} {w w' : World} {b : Nat} {L : List (Value × Value)}
theorem MapIs.made (w : World) (P : Program) (k : TypeId) : MapIs P k (w.alloc (.map #[] 0)) w.heap.size [] :=
 ⟨#[],0,(MapKept.heap_alloc w _).1,⟨by simp,stamped_empty 0,by simp⟩,rfl⟩
theorem MapIs.kept (h : MapIs P k w b L) (hb : w'.heap[b]?=w.heap[b]?) : MapIs P k w' b L:=by
 obtain ⟨es,clock,h1,h2⟩:=h
 exact ⟨es,clock,hb.trans h1,h2⟩
theorem MapIs.lt (h : MapIs P k w b L) : b < w.heap.size:=by
 obtain ⟨es,clock,hb,_⟩:=h
 exact (Array.getElem?_eq_some_iff.1 hb).1
theorem MapIs.keys (h : MapIs P k w b L) : ∀ p ∈ L,∃ kl,keyOf P k p.1=some kl:=by
 obtain ⟨es,clock,hb,F,rfl⟩:=h
 intro p hp
 obtain ⟨x,hx,rfl⟩:=List.mem_map.1 hp
 obtain ⟨y,hy⟩:=F.reads x hx
 exact ⟨_,Go.WideElems.rd_key hy⟩
theorem MapIs.apart (h : MapIs P k w b L) : L.Pairwise (fun p q=>p.1 ≠ q.1):=by
 obtain ⟨es,clock,hb,F,rfl⟩:=h
 rw [List.pairwise_map]
 exact ((stamped_iff es clock).1 F.stamped).2.2
theorem MapIs.hit (c : Bool) (h : MapIs P k w b L) (K : Keyed P k) (ht : P.underlying t=some (.map k e)) {key v z : Value} (hz : (zeroValue e).run P w=.ok z w) (hm : (key,v) ∈ L) :
  (Instr.lookup t (.map (some b)) key c).run P w=.ok (if c then .tuple #[v,.bool true] else v) w:=by
 obtain ⟨kl,hkey⟩:=h.keys _ hm
 have hap:=h.apart
 obtain ⟨es,clock,hb,F,rfl⟩:=h
 obtain ⟨x,hx,hxe⟩:=List.mem_map.1 hm
 cases hxe
 rcases Maps.fit_look c K ht hz hb F hkey with ⟨_,h2,_⟩ | ⟨e0,y,h2,h3,h4,_⟩
 ·exact absurd rfl (h2 x hx)
 ·obtain rfl:=entry_eq_of_key ((stamped_iff es clock).1 F.stamped).2.2 h2 hx h3
  exact h4
theorem MapIs.miss (c : Bool) (h : MapIs P k w b L) (K : Keyed P k) (ht : P.underlying t=some (.map k e)) {key z : Value} {kl : Lit} (hz : (zeroValue e).run P w=.ok z w) (hkey : keyOf P k key=some kl) (hm : ∀ p ∈ L,p.1 ≠ key) :
  (Instr.lookup t (.map (some b)) key c).run P w=.ok (if c then .tuple #[z,.bool false] else z) w:=by
 obtain ⟨es,clock,hb,F,rfl⟩:=h
 rcases Maps.fit_look c K ht hz hb F hkey with ⟨h1,_⟩ | ⟨e0,y,h2,h3,_⟩
 ·exact h1
 ·exact absurd h3 (hm (mpair e0) (List.mem_map.2 ⟨e0,h2,rfl⟩))
theorem heap_setBlock_other' (w : World) (b i : Nat) (o : Obj) (h : i ≠ b) : (setBlock w b o).heap[i]?=w.heap[i]?:=by
 simp only [setBlock,Array.getElem?_setIfInBounds]
 rw [if_neg (fun e=>h e.symm)]
theorem grownBy_setBlock (w : World) (b : Nat) (o : Obj) : w.grownBy (setBlock w b o) (some b):=⟨rfl,rfl,rfl,by simp [setBlock],fun i _ hi=>heap_setBlock_other' w b i o (fun e=>hi (by rw [e]))⟩
theorem size_setBlock (w : World) (b : Nat) (o : Obj) : (setBlock w b o).heap.size=w.heap.size:=by simp [setBlock]
theorem MapIs.storeNew (h : MapIs P k w b L) (K : Keyed P k) (ht : P.underlying t=some (.map k e)) (hn : L.length < maxLen) {key v : Value} {kl : Lit} (hkey : keyOf P k key=some kl) (hm : ∀ p ∈ L,p.1 ≠ key) :
  ∃ w',(Instr.mapUpdate t (.map (some b)) key v).run P w=.ok () w'∧MapIs P k w' b (L++[(key,v)])∧w.grownBy w' (some b)∧w'.heap.size=w.heap.size:=by
 obtain ⟨es,clock,hb,F,rfl⟩:=h
 have h2 : ∀ x ∈ es.toList,x.key ≠ key:=fun x hx=>hm (mpair x) (List.mem_map.2 ⟨x,hx,rfl⟩)
 rcases K.find w hkey es.toList F.keys with ⟨h1,_⟩ | ⟨j,e0,_,h4,h3⟩
 ·refine ⟨setBlock w b (.map (es.push ⟨key,v,clock⟩) (clock + 1)),?_,⟨_,_,heap_setBlock_same hb _,⟨by simp at hn ⊢; omega,stamped_push F.stamped h2,?_⟩,by simp [mpair]⟩,grownBy_setBlock _ _ _,size_setBlock _ _ _⟩
  ·simp [Instr.mapUpdate,run_underlying ht,MapKept.run_getObj_map hb,K.check w false hkey,h1,MapKept.run_setObj_map _ hb,Result.andThen,setBlock]
  ·intro x hx
   simp only [Array.toList_push,List.mem_append,List.mem_singleton] at hx
   rcases hx with hx | rfl
   ·exact F.reads x hx
   ·exact ⟨_,Go.WideElems.rd_mk hkey rfl⟩
 ·exact absurd h3 (h2 e0 (List.mem_of_getElem? h4))
variable {r : Nat} {rem : List (Value × Value)}
end
section
variable {P : Program} (w : World) {ops : Array Oper} {rest : List Oper} {o : Oper} {a : Act} {Q : Exit→Act→World→Prop}
end
end Go.Proofs.YtghnopkgcgfcpaaGreatDoor.Base
