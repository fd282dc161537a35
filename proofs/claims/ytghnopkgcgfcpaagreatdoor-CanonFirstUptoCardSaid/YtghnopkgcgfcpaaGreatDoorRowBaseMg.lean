/-
  MERGED by mergefill.py: RowBase.
-/
import Derived.Test.YtghnopkgcgfcpaaGreatDoorMapBaseMg
import Derived.OwnWalk
import Derived.Deep.DeepAppendWide
import Derived.Deep.AppendLies
import Derived.Below
namespace Go.Proofs.YtghnopkgcgfcpaaGreatDoor.Base
def VReads (w : World) (v : Value) (xs : List Value) : Prop :=
 (xs=[]∧∃ a c,v=.slice a 0 c∧(a=none→c=0))∨∃ b o c,v=.slice (some ⟨b,o,none⟩) xs.length c∧xs.length≤c∧∀ i x,xs[i]?=some x→w.cell? ⟨b,o + i,none⟩=some x
theorem VReads.kept {w w' : World} {v : Value} {xs : List Value} (h : VReads w v xs) (hk : ∀ b,v.ownBlock=some b→b < w.heap.size→w'.heap[b]?=w.heap[b]?) : VReads w' v xs:=by
 rcases h with h | ⟨b,o,c,rfl,h1,h2⟩
 ·exact Or.inl h
 ·refine Or.inr ⟨b,o,c,rfl,h1,fun i x hx=>?_⟩
  have hc:=h2 i x hx
  have hlt : b < w.heap.size:=by
   rcases Nat.lt_or_ge b w.heap.size with h' | h'
   ·exact h'
   ·rw [World.cell?,Array.getElem?_eq_none h'] at hc; simp at hc
  rw [World.cell?_of_block (hk b rfl hlt)]; exact hc
theorem VReads.form {w : World} {v : Value} {xs : List Value} (h : VReads w v xs) : ∃ a c,v=.slice a xs.length c∧xs.length≤c:=by
 rcases h with ⟨rfl,a,c,rfl,_⟩ | ⟨b,o,c,rfl,h1,_⟩
 ·exact ⟨a,c,rfl,Nat.zero_le _⟩
 ·exact ⟨_,c,rfl,h1⟩
theorem VReads.cell {w : World} {a : Option Addr} {n c : Nat} {xs : List Value} (h : VReads w (.slice a n c) xs) {i : Nat} {x : Value} (hx : xs[i]?=some x) : ∃ b o,a=some ⟨b,o,none⟩∧w.cell? ⟨b,o + i,none⟩=some x:=by
 rcases h with ⟨rfl,_⟩ | ⟨b,o,c,he,h1,h2⟩
 ·simp at hx
 ·cases he
  exact ⟨b,o,rfl,h2 i x hx⟩
theorem VReads.of_row {w : World} {B : Nat} {e : TypeId} {v : Value} {n : Nat} {xs : List Value} (h : w.ownsRow B e 1 v n xs) : VReads w v xs:=by
 obtain ⟨hlen,h⟩:=h
 rw [Nat.mul_one] at hlen
 rcases h with ⟨rfl,hn⟩ | ⟨g,cap,cur,rfl,_,hb,h1,h2,h3,h4⟩
 ·exact Or.inl ⟨List.eq_nil_of_length_eq_zero (by omega),none,0,rfl,fun _=>rfl⟩
 ·refine Or.inr ⟨g,0,cap,by rw [hlen],by omega,fun i x hx=>?_⟩
  have hi:=(List.getElem?_eq_some_iff.1 hx).1
  rw [Nat.mul_one] at h4
  rw [← h4,List.getElem?_take_of_lt (by omega),Array.getElem?_toList] at hx
  unfold World.cell?
  rw [hb,Nat.zero_add]
  exact hx
section
variable {P : Program} (w : World)
theorem run_append_row (B : Nat) (t ty e : TypeId) (i : TypeInfo) (z : Value) (bytes : Nat) (ht : P.underlying t=some (.slice e)) (hi : P.info? e=some i) (hz : i.zero=some z) (h1 : i.size=1) (hby : i.bytes=bytes) (hzc : z.cells.size=1)
  (v x : Value) (n : Nat) (ys xs : List Value) (hown : w.ownsRow B e 1 v n ys) (hr : VReads w x xs) (hone : ∀ u ∈ xs,u.oneCell'=true) (hlim : (n + xs.length) * bytes≤140737488355328) (hlim2 : n + xs.length≤9223372036854775807) (hB : B≤w.heap.size) :
  ∃ v' w',(Builtin.append_ #[t,t] ty #[v,x]).run P w=.ok v' w'∧w'.ownsRow B e 1 v' (n + xs.length) (ys++xs)∧w.grownBy w' v.ownBlock∧(v'.ownBlock=v.ownBlock∨v'.ownBlock=some w.heap.size):=by
 rcases hr with ⟨rfl,a,c,rfl,hc⟩ | ⟨b,o,c,rfl,_,hcell⟩
 ·cases a with
  | none =>
   obtain rfl:=hc rfl
   refine ⟨v,w,run_append_owned_none (P:=P) w B t ty e i 1 ht hi v _ _ hown,?_,⟨rfl,rfl,rfl,Nat.le_refl _,fun _ _ _=>rfl⟩,Or.inl rfl⟩
   rw [List.append_nil]; exact hown
  | some a =>
   obtain ⟨v',w',k1,k2,k3,_,k5⟩:=run_append_own_at (P:=P) w B t ty e i z 1 bytes ht hi hz h1 hby hzc (by decide) v _ _ hown a 0 c [] rfl (fun j u h=>by simp at h) (fun u h=>by cases h) (by unfold maxLen; simpa using hlim2) (by simpa using hlim) hB
   exact ⟨v',w',k1,k2,k3,k5⟩
 ·obtain ⟨v',w',k1,k2,k3,_,k5⟩:=run_append_own_at (P:=P) w B t ty e i z 1 bytes ht hi hz h1 hby hzc (by decide) v _ _ hown ⟨b,o,none⟩ xs.length c xs (by simp) (fun j u h=>by rw [Addr.add_lit]; exact hcell j u h) hone (by unfold maxLen; exact hlim2) hlim hB
  exact ⟨v',w',k1,k2,k3,k5⟩
theorem wpList_append_row {ops : Array Oper} {rest : List Oper} {o : Oper} {a : Act} {Q : Exit→Act→World→Prop} (hgd : o.guard=none) (s y : Operand) (t : TypeId)
  (ho : o.op=.call { callee:=.builtin .append,args:=#[s,y],argTypes:=#[t,t] })
  (B : Nat) (e : TypeId) (i : TypeInfo) (z : Value) (bytes : Nat) (ht : P.underlying t=some (.slice e)) (hi : P.info? e=some i) (hz : i.zero=some z) (h1 : i.size=1) (hby : i.bytes=bytes) (hzc : z.cells.size=1)
  (v x : Value) (n : Nat) (ys xs : List Value) (hs : a.eval s=v) (hx : a.eval y=x) (hown : w.ownsRow B e 1 v n ys) (hr : VReads w x xs) (hone : ∀ u ∈ xs,u.oneCell'=true) (hlim : (n + xs.length) * bytes≤140737488355328) (hlim2 : n + xs.length≤9223372036854775807) (hB : B≤w.heap.size)
  (h : ∀ v' w',w'.ownsRow B e 1 v' (n + xs.length) (ys++xs)→w.grownBy w' v.ownBlock→(v'.ownBlock=v.ownBlock∨v'.ownBlock=some w.heap.size)→wpList P ops Q rest (a.put o.dst v') w') : wpList P ops Q (o :: rest) a w:=by
 refine wpList_plain hgd fun K hK=>?_
 obtain ⟨v',w',hrun,h2,h3,h4⟩:=run_append_row (P:=P) w B t o.type e i z bytes ht hi hz h1 hby hzc v x n ys xs hown hr hone hlim hlim2 hB
 unfold Oper.wp execOp
 simp only [ho,resolve,invoke,builtin,Sem.run_bind,Sem.run_pure,Result.andThen_ok,List.map_toArray,List.map_cons,List.map_nil,hs,hx,hrun]
 exact hK _ _ (h v' w' h2 h3 h4)
end
end Go.Proofs.YtghnopkgcgfcpaaGreatDoor.Base
