/-
  MERGED by mergefill.py: StrBase.
-/
import Derived.Test.YtghnopkgcgfcpaaGreatDoorBaseMg
import Derived.Test.YtghnopkgcgfcpaaGreatDoorRowBaseMg
namespace Go.Proofs.YtghnopkgcgfcpaaGreatDoor.Base
open Go.RowKit
theorem str_len (s : ByteArray) : s.data.toList.length=s.size:=Array.length_toList
theorem str_get (s : ByteArray) (k : Nat) (h : k < s.size) : s.data.toList.getD k 0=s[k]:=by
 have : k < s.data.size:=h
 simp [List.getD,Array.getElem?_eq_getElem this]; rfl
abbrev S (l : List UInt8) : Value:=.string ⟨l.toArray⟩
theorem extract_bytes (s : ByteArray) (a b : Nat) : s.extract a b=⟨((s.data.toList.take b).drop a).toArray⟩:=by
 apply ByteArray.ext
 rw [ByteArray.data_extract]
 apply Array.toList_inj.1
 simp [List.drop_take]
theorem info9 : (Tryz.prog.info? 9).map (fun i=>(i.zero,i.size,i.bytes))=some (some (.string ⟨#[]⟩),1,16):=by kernel_rfl
theorem one_str (a : ByteArray) : ∀ u ∈ [Value.string a],u.oneCell'=true:=fun u hu=>by rw [List.mem_singleton.1 hu]; rfl
theorem vreads_one (w : World) (x : Value) (t : TypeId) : VReads (w.alloc (.cells #[x] t)) (.slice (some ⟨w.heap.size,0,none⟩) 1 1) [x]:=by
 refine Or.inr ⟨w.heap.size,0,1,rfl,Nat.le_refl _,fun i y hy=>?_⟩
 have hi : i < 1:=(List.getElem?_eq_some_iff.1 hy).1
 obtain rfl : i=0:=by omega
 simp at hy; subst hy
 go_simp
def OwnsS (w : World) (B : Nat) (v : Value) (ls : List (List UInt8)) : Prop:=w.ownsRow B 9 1 v ls.length (ls.map S)
theorem row_form {e : TypeId} {s B : Nat} {w : World} {v : Value} {n : Nat} {xs : List Value} (h : w.ownsRow B e s v n xs) : ∃ a c,v=.slice a n c∧n≤c:=by
 rcases h.2 with ⟨rfl,rfl⟩ | ⟨g,cap,cur,rfl,_,_,h1,_⟩
 ·exact ⟨none,0,rfl,Nat.le_refl _⟩
 ·exact ⟨_,cap,rfl,h1⟩
theorem OwnsS.form {w : World} {B : Nat} {v : Value} {ls : List (List UInt8)} (h : OwnsS w B v ls) : ∃ a c,v=.slice a ls.length c∧ls.length≤c:=row_form h
theorem OwnsS.on {w w' : World} {B : Nat} {v : Value} {ls : List (List UInt8)} (h : OwnsS w B v ls) (hb : Below w.heap.size w w') : OwnsS w' B v ls:=by
 refine ⟨h.1,?_⟩
 rcases h.2 with hn | ⟨g,cap,cur,rfl,h1,h2,h3⟩
 ·exact Or.inl hn
 ·exact Or.inr ⟨g,cap,cur,rfl,h1,by rw [hb.block g (heap_lt h2)]; exact h2,h3⟩
theorem OwnsS.cell {w : World} {B : Nat} {a : Option Addr} {n c : Nat} {ls : List (List UInt8)} (h : OwnsS w B (.slice a n c) ls) {i : Nat} {x : List UInt8} (hx : ls[i]?=some x) : ∃ b,a=some ⟨b,0,none⟩∧w.cell? ⟨b,i,none⟩=some (S x):=by
 rcases h.2 with ⟨he,hn⟩ | ⟨g,cap,cur,he,_,h2,h3,h4,h5,h6⟩
 ·rw [List.eq_nil_of_length_eq_zero hn] at hx; simp at hx
 ·cases he
  refine ⟨g,rfl,?_⟩
  have hi:=(List.getElem?_eq_some_iff.1 hx).1
  rw [Nat.mul_one] at h6
  have h7 : (ls.map S)[i]?=some (S x):=by rw [List.getElem?_map,hx]; rfl
  rw [← h6,List.getElem?_take_of_lt hi,Array.getElem?_toList] at h7
  unfold World.cell?
  rw [h2]
  exact h7
def splitB (c : UInt8) : List UInt8→List (List UInt8)
 | []=>[[]]
 | x :: r=>if x=c then [] :: splitB c r else match splitB c r with | []=>[[x]] | h :: t=>(x :: h) :: t
theorem splitB_eq (c x : UInt8) (r : List UInt8) : splitB c (x :: r)=if x=c then [] :: splitB c r else match splitB c r with | []=>[[x]] | h :: t=>(x :: h) :: t:=rfl
theorem splitB_ne (c : UInt8) (l : List UInt8) : splitB c l ≠ []:=by
 cases l with
 | nil=>simp [splitB]
 | cons x r =>
  rw [splitB_eq]
  split
  ·simp
  ·split <;> simp
theorem splitB_none {c : UInt8} : ∀ {p : List UInt8},(∀ x ∈ p,x ≠ c)→splitB c p=[p]
 | [],_=>rfl
 | x :: r,h=>by
  have h1:=splitB_none (c:=c) (p:=r) fun y hy=>h y (List.mem_cons_of_mem _ hy)
  rw [splitB_eq,if_neg (h x List.mem_cons_self),h1]
theorem splitB_at {c : UInt8} {r : List UInt8} : ∀ {p : List UInt8},(∀ x ∈ p,x ≠ c)→splitB c (p++c :: r)=p :: splitB c r
 | [],_=>by simp [splitB]
 | x :: q,h=>by
  have h1:=splitB_at (c:=c) (r:=r) (p:=q) fun y hy=>h y (List.mem_cons_of_mem _ hy)
  rw [List.cons_append,splitB_eq,if_neg (h x List.mem_cons_self),h1]
theorem splitB_len (c : UInt8) (l : List UInt8) : (splitB c l).length≤l.length + 1:=by
 induction l with
 | nil=>simp [splitB]
 | cons x r ih =>
  rw [splitB_eq]
  split
  ·simp; omega
  ·split
   ·simp
   ·rename_i h t he; rw [he] at ih; simp at ih ⊢; omega
theorem ret_str {a b : ByteArray} (h : a=b) : Ending.returned (.string a)=.returned (.string b):=by rw [h]
end Go.Proofs.YtghnopkgcgfcpaaGreatDoor.Base
