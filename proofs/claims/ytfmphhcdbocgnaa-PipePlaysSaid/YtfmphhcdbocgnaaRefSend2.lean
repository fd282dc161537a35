/-
  The document's Send.
-/
import Derived.Test.YtfmphhcdbocgnaaRefSend
import Derived.Deep.DrawnRows
import Derived.Outline
namespace Go.Proofs.Ytfmphhcdbocgnaa.Pipe
open Go.RowKit Base
attribute [local go_sem ↓] Go.wp_at_zero Go.wp_at_succ
section
variable {own : Nat → Tag} {w : World} {g : Nat} {rv : Value} {Rs : List (PA × RG)} {f t : ByteArray}
def RSentEnd (own : Nat → Tag) (w : World) (g : Nat) (Rs : List (PA × RG)) (i : Nat) (p : PA × RG) (l : List UInt8) (e : Ending) (w' : World) : Prop :=
  e = .returned (.int .i64 0) ∧ ∃ own' rv' G', RHolds own' w' g rv' (Rs.set i ({ p.1 with q := p.1.q ++ [l] }, G')) ∧ StepR own w own' w'
theorem rsend_done {rb c : Nat} (h : RHolds own w g (.slice (some ⟨rb, 0, none⟩) Rs.length c) Rs) {i : Nat} {p : PA × RG} (hp : Rs[i]? = some p) {l : List UInt8} {w1 w2 : World} {v1 : Value} {g2 cap2 : Nat}
    (b1 : Below w.heap.size w w1) (ow1 : Owns w1 w.heap.size v1 l) (hown2 : w2.ownsRow 0 29 1 (.slice (some ⟨g2, 0, none⟩) (p.1.q.length + 1) cap2) (p.1.q.length + 1) (p.2.vs ++ [v1]))
    (hgrow2 : (w1.alloc (.cells #[v1] 29)).grownBy w2 p.2.lv.ownBlock) (hat : p.2.lv.ownBlock = some g2 ∨ g2 = w1.heap.size + 1) (hlt : g2 < w2.heap.size) :
    ∃ own' rv' G', RHolds own' (w2.setCell ⟨rb, i * 4 + 3, none⟩ (.slice (some ⟨g2, 0, none⟩) (p.1.q.length + 1) cap2)) g rv' (Rs.set i ({ p.1 with q := p.1.q ++ [l] }, G')) ∧ StepR own w own' (w2.setCell ⟨rb, i * 4 + 3, none⟩ (.slice (some ⟨g2, 0, none⟩) (p.1.q.length + 1) cap2)) := by
  have hP := h.pipes i p hp
  have hs1 : w.heap.size ≤ w1.heap.size := b1.size
  have hs2 : w1.heap.size + 1 ≤ w2.heap.size := by have := hgrow2.size; simpa using this
  have hlv : ∀ b, p.2.lv.ownBlock = some b → b < w.heap.size := fun b hb => own_ltR h.fresh (hP.rowOwn b hb)
  have hv1 : ∀ b, v1.ownBlock = some b → w.heap.size ≤ b ∧ b < w1.heap.size := ow1.ge
  have blk : ∀ b, b < w1.heap.size → p.2.lv.ownBlock ≠ some b → w2.heap[b]? = w1.heap[b]? := fun b hb hn => by
    rw [hgrow2.block b (by simp; omega) (fun e => hn e.symm)]
    exact (MapKept.heap_alloc w1 _).2 b hb
  have hrb : own rb = .r .row := h.rowOwn rb rfl
  obtain ⟨own', hown'⟩ : ∃ own' : Nat → Tag, own' = fun b => if b < w.heap.size then own b else if v1.ownBlock = some b then .r .msg else if b = g2 then .r (.lrow i) else .no := ⟨_, rfl⟩
  have ho1 : ∀ b, b < w.heap.size → own' b = own b := fun b hb => by rw [hown']; exact if_pos hb
  have ho2 : ∀ b, v1.ownBlock = some b → own' b = .r .msg := fun b hb => by rw [hown']; have := hv1 b hb; show (if _ then _ else _) = _; rw [if_neg (by omega), if_pos hb]
  have ho3 : own' g2 = .r (.lrow i) := by
    rw [hown']
    show (if _ then _ else _) = _
    rcases hat with h' | h'
    · rw [if_pos (hlv g2 h')]; exact hP.rowOwn g2 h'
    · rw [if_neg (by omega), if_neg (fun e => by have := (hv1 _ e).2; omega), if_pos rfl]
  have ho4 : ∀ b, w2.heap.size ≤ b → own' b = .no := fun b hb => by
    rw [hown']; show (if _ then _ else _) = _
    rw [if_neg (by omega), if_neg (fun e => by have := (hv1 _ e).2; omega), if_neg (by omega)]
  refine ⟨own', _, ⟨.slice (some ⟨g2, 0, none⟩) (p.1.q.length + 1) cap2, p.2.vs ++ [v1]⟩, h.turned hp (fun b t ht hne => ?_) ho4 ?_ (fun b hb => by cases hb; exact ho3) (by simp [hP.len]) (fun j v l' hj hj' => ?_), ?_⟩
  · have hb := own_ltR h.fresh ht
    exact ⟨by rw [ho1 b hb]; exact ht, by rw [blk b (by omega) (fun e => hne (by have := hP.rowOwn b e; rw [ht] at this; cases this; rfl)), b1.block b hb]⟩
  · simpa using hown2
  · have hjl : j < p.2.vs.length ∨ j = p.2.vs.length := by
      have := (List.getElem?_eq_some_iff.1 hj).1
      simp at this; omega
    rcases hjl with hjl | rfl
    · rw [List.getElem?_append_left hjl] at hj
      rw [List.getElem?_append_left (by rw [← hP.len]; exact hjl)] at hj'
      obtain ⟨m1, m2⟩ := hP.msgs j v l' hj hj'
      refine ⟨Owns.keptO m1 fun b hb => ?_, fun b hb => by rw [ho1 b (own_ltR h.fresh (m2 b hb))]; exact m2 b hb⟩
      have hbl := own_ltR h.fresh (m2 b hb)
      rw [blk b (by omega) (fun e => by have := hP.rowOwn b e; rw [m2 b hb] at this; cases this), b1.block b hbl]
    · rw [List.getElem?_append_right (Nat.le_refl _), Nat.sub_self] at hj
      rw [hP.len, List.getElem?_append_right (Nat.le_refl _), Nat.sub_self] at hj'
      cases hj; cases hj'
      exact ⟨Owns.mono (Owns.keptB ow1 fun b hb _ => blk b (hv1 b hb).2 (fun e => by have := hlv b e; have := hv1 b hb; omega)) (Nat.zero_le _), ho2⟩
  · have hkx : KeepX rb w2 (w2.setCell ⟨rb, i * 4 + 3, none⟩ (.slice (some ⟨g2, 0, none⟩) (p.1.q.length + 1) cap2)) := KeepX.set _ _ _ _
    refine ⟨hkx.os.trans (hgrow2.os.trans b1.os), hkx.tape.trans (hgrow2.tape.trans b1.tape), hkx.output.trans (hgrow2.output.trans b1.output), Nat.le_trans (by omega) hkx.size, fun b hb hn => ?_, fun b hb _ => ho1 b hb⟩
    rw [hkx.block b (by omega) (fun e => hn .row (by rw [e]; exact hrb)), blk b (by omega) (fun e => hn (.lrow i) (hP.rowOwn b e)), b1.block b hb]
theorem step_append_run {P : Program} {w : World} {ops : Array Oper} {o : Oper} {a : Act} {K : Act → World → Prop} {Q : Exit → Act → World → Prop} {E : Prop} (hgd : o.guard = none) (s x : Operand) (t : TypeId)
    (ho : o.op = .call { callee := .builtin .append, args := #[s, x], argTypes := #[t, t] }) (v y v' : Value) (w' : World) (hs : a.eval s = v) (hx : a.eval x = y) (ty : TypeId) (hty : o.type = ty) (hrun : (Builtin.append_ #[t, t] ty #[v, y]).run P w = .ok v' w')
    (h : K (a.put o.dst v') w') : if Region.wanted o (yielded ops a.tmps) = true then Oper.wp P o a w K Q else E := by
  have hw : Region.wanted o (yielded ops a.tmps) = true := by simp [Region.wanted, hgd]
  rw [if_pos hw]
  subst hty
  unfold Oper.wp execOp
  simp only [ho, resolve, invoke, builtin, Sem.run_bind, Sem.run_pure, Result.andThen_ok, List.map_toArray, List.map_cons, List.map_nil, hs, hx, hrun]
  exact h
end
end Go.Proofs.Ytfmphhcdbocgnaa.Pipe
