/-
  CIDR, the program: several ranges as text: what a round of the loop keeps; the laws for ranges within a fence.
-/
import Derived.Test.YtdmajikhpacpfaaDoorCidrPSeq
import Derived.Test.YtdmajikhpacpfaaDoorCidrList2
import Derived.Test.YtdmajikhpacpfaaDoorCidrPParse
namespace Go.Proofs.YtdmajikhpacpfaaDoor.Cidr
open Go.RowKit Go.Shelf Base
attribute [local go_sem] Oper.semAt_some
section
variable {F : Fence} {n : Nat}
theorem wpListIn_load_mid {P : Program} {ops : Array Oper} {rest : List Oper} {op : Oper} {a : Act} {w : World} {Q : Exit → Act → World → Prop} (hgd : op.guard = none) (ty : TypeId) (x : Operand) (ho : op.op = .load ty x)
    (b o : Nat) (hx : a.eval x = .pointer (some ⟨b, o, none⟩)) (cs : List Value) (d : TypeDesc) (hc : w.rangeAt b o cs)
    (hu : P.underlying ty = some d) (hd : d.isRow = true) (hi : (P.info? ty).map (·.size) = some cs.length)
    (h : wpListIn F n P ops Q rest (a.put op.dst (.agg cs.toArray)) w) : wpListIn F n P ops Q (op :: rest) a w := by
  refine wpListIn_plain hgd fun K hK => ?_
  unfold Oper.wpIn
  refine ⟨by simp [Oper.about, ho], ?_⟩
  rw [Oper.semAt_plain F _ _ (by rw [ho]; intro c hc'; cases hc')]
  unfold execOp
  simp only [ho, hx, Instr.loadAt, Instr.sureAddr, Sem.run_bind, Sem.run_pure, Result.andThen_ok, run_loadVar_mid w b o ty cs d hc hu hd hi]
  exact hK _ _ h
theorem wpListIn_store_mid {P : Program} {ops : Array Oper} {rest : List Oper} {op : Oper} {a : Act} {w : World} {Q : Exit → Act → World → Prop} (hgd : op.guard = none) (ty : TypeId) (x y : Operand) (ho : op.op = .store ty x y)
    (b o : Nat) (cells : Array Value) (hx : a.eval x = .pointer (some ⟨b, o, none⟩)) (hy : a.eval y = .agg cells)
    (ht : w.there b o cells.size) (hi : (P.info? ty).map (·.size) = some cells.size) (h1 : cells.all (·.oneCell') = true)
    (h : wpListIn F n P ops Q rest (a.put op.dst undef) (w.setCells b o cells.toList)) : wpListIn F n P ops Q (op :: rest) a w := by
  refine wpListIn_plain hgd fun K hK => ?_
  unfold Oper.wpIn
  refine ⟨by simp [Oper.about, ho], ?_⟩
  rw [Oper.semAt_plain F _ _ (by rw [ho]; intro c hc'; cases hc')]
  unfold execOp
  simp only [ho, hx, hy, Instr.storeAt, Instr.sureAddr, Sem.run_bind, Sem.run_pure, Result.andThen_ok, run_storeVar_mid w b o ty cells ht hi h1]
  exact hK _ _ h
theorem wpIn_append_net (w : World) {ops : Array Oper} {rest : List Oper} {o : Oper} {a : Act} {Q : Exit → Act → World → Prop} (hgd : o.guard = none) (s x : Operand)
    (ho : o.op = .call { callee := .builtin .append, args := #[s, x], argTypes := #[29, 29] })
    (B : Nat) (v : Value) (ns : List NetM) (m : NetM) (b c : Nat) (hs : a.eval s = v) (hx : a.eval x = .slice (some ⟨b, 0, none⟩) 1 c) (hown : OwnsN w B v ns)
    (hn : NetAt w b m) (ha : m.a.length = 16) (hlim : ns.length ≤ 1000) (hB : B ≤ w.heap.size)
    (h : ∀ v' w', OwnsN w' B v' (ns ++ [m]) → w.grownBy w' v.ownBlock → wpListIn F n Tryd.prog ops Q rest (a.put o.dst v') w') : wpListIn F n Tryd.prog ops Q (o :: rest) a w := by
  obtain ⟨i0, hi, hz0, hz1, hz2⟩ := info_parts info25
  refine wpListIn_plain hgd fun K hK => ?_
  obtain ⟨v', w', e1, e2, e3, _⟩ := run_append_own_wide (P := Tryd.prog) w B 29 o.type 25 i0 (netV zeroN) 18 32 Tryd.underlying29 hi hz0 hz1 hz2 rfl (by decide) v ns.length (ns.flatMap netL) hown.1 ⟨b, 0, none⟩ 1 c (netL m) (by simp [ha])
    (fun j u hu => by rw [Addr.add_lit]; exact hn.range0 j u hu) (netL_one m) (by unfold maxLen; omega) (by omega) hB
  unfold Oper.wpIn
  refine ⟨by simp [Oper.about, ho, resolve, Target.leads, Sem.run_pure], ?_⟩
  rw [Oper.semAt_plain F _ _ (by rw [ho]; intro c hc'; cases hc')]
  unfold execOp
  simp only [ho, resolve, invoke, builtin, Sem.run_bind, Sem.run_pure, Result.andThen_ok, List.map_toArray, List.map_cons, List.map_nil, hs, hx, e1]
  refine hK _ _ (h v' w' ⟨?_, ?_⟩ e3)
  · rw [List.flatMap_append, List.length_append]
    simpa using e2
  · intro q hm
    rcases List.mem_append.1 hm with h1 | h1
    · exact hown.2 q h1
    · rw [List.mem_singleton.1 h1]; exact ha
end
/-! ### What a round keeps -/
structure St (n0 : Nat) (W W' : World) : Prop where
  os : W'.os = W.os
  tape : W'.tape = W.tape
  output : W'.output = W.output
  size : W.heap.size ≤ W'.heap.size
  keep : ∀ (k : Nat) (o : Obj), W.heap[k]? = some o → o.isCells = false → W'.heap[k]? = some o
  old : ∀ b, b < n0 + 6 → b < W.heap.size → b ≠ n0 + 2 → b ≠ n0 + 3 → W'.heap[b]? = W.heap[b]?
theorem St.trans {n0 : Nat} {A B C : World} (h : St n0 A B) (k : St n0 B C) : St n0 A C :=
  ⟨k.os.trans h.os, k.tape.trans h.tape, k.output.trans h.output, Nat.le_trans h.size k.size, fun i _ hi ho => k.keep i _ (h.keep i _ hi ho) ho, fun b h1 h2 h3 h4 => (k.old b h1 (Nat.lt_of_lt_of_le h2 h.size) h3 h4).trans (h.old b h1 h2 h3 h4)⟩
theorem St.below {n0 : Nat} {A B : World} (hb : Below A.heap.size A B) : St n0 A B :=
  ⟨hb.os, hb.tape, hb.output, hb.size, fun k _ hk _ => (hb.block k (heap_lt hk)).trans hk, fun b _ h2 _ _ => hb.block b h2⟩
theorem St.grown {n0 : Nat} {A B : World} {row : Option Nat} (hg : A.grownBy B row) (hr : ∀ g, row = some g → n0 + 6 ≤ g ∧ ∀ o, A.heap[g]? = some o → o.isCells = true) : St n0 A B :=
  ⟨hg.os, hg.tape, hg.output, hg.size, fun k o hk ho => (hg.block k (heap_lt hk) (fun e => by have := (hr k e.symm).2 o hk; rw [this] at ho; cases ho)).trans hk,
   fun b h1 h2 _ _ => hg.block b h2 (fun e => by have := (hr b e.symm).1; omega)⟩
theorem St.set {n0 : Nat} {A : World} {b : Nat} (hb : b = n0 + 2 ∨ b = n0 + 3) {v u : Value} {t : TypeId} (h : Boxed A b t v) : St n0 A (A.setCell ⟨b, 0, none⟩ u) :=
  ⟨rfl, rfl, rfl, by simp [World.setCell], fun k _ hk ho => by
    have hne : k ≠ b := fun e => by
      subst e
      rw [show A.heap[k]? = _ from h] at hk
      cases hk
      cases ho
    exact (Below.heap_setCell A ⟨b, 0, none⟩ u k (by simpa using hne)).trans hk,
   fun k h1 h2 h3 h4 => Below.heap_setCell A ⟨b, 0, none⟩ u k (by simp; omega)⟩
theorem St.bel {n0 : Nat} {w A B : World} (h : St n0 A B) (hn : w.heap.size = n0) (hb : Below n0 w A) : Below n0 A B :=
  ⟨h.os, h.tape, h.output, h.size, fun b hlt => h.old b (by omega) (by have := hb.size; omega) (by omega) (by omega)⟩
/-! ### Between two rounds -/
def netsOf (pre : List Wd) : List NetM := pre.map fun p => (parseW p.1).getD zeroN
def allOk (pre : List Wd) : Bool := pre.all fun p => (parseW p.1).isSome
def wrongOf (pre : List Wd) : Int := if allOk pre = true then 0 else 70
structure LI (w : World) (n0 : Nat) (pre : List Wd) (W : World) : Prop where
  len : pre.length ≤ 200
  b2 : Boxed W n0 29 (.slice none 0 0)
  b3 : Boxed W (n0 + 1) 26 (.int .i64 0)
  b4 : ∃ v, Boxed W (n0 + 2) 29 v ∧ OwnsN W (n0 + 6) v (netsOf pre)
  b5 : Boxed W (n0 + 3) 26 (.int .i64 (wrongOf pre))
  below : Below n0 w W
  size : n0 + 6 ≤ W.heap.size
structure LX (w : World) (n0 : Nat) (c : Code) (pre : List Wd) (W : World) : Prop where
  ret : c = .ret
  len : 200 < pre.length
  b2 : Boxed W n0 29 (.slice none 0 0)
  b3 : Boxed W (n0 + 1) 26 (.int .i64 71)
  below : Below n0 w W
theorem OwnsN.grown {W W' : World} {B : Nat} {v : Value} {ns : List NetM} {row : Option Nat} (h : OwnsN W B v ns) (hg : W.grownBy W' row) (hr : ∀ r, row = some r → ∃ o : Obj, W.heap[r]? = some o ∧ o.isCells = false) : OwnsN W' B v ns := by
  refine ⟨⟨h.1.1, ?_⟩, h.2⟩
  rcases h.1.2 with hn | ⟨g, cap, cur, rfl, h1, h2, h3⟩
  · exact Or.inl hn
  · refine Or.inr ⟨g, cap, cur, rfl, h1, ?_, h3⟩
    rw [hg.block g (heap_lt h2) (fun e => by
      obtain ⟨o, ho, hc⟩ := hr g e.symm
      rw [h2] at ho
      cases ho
      cases hc)]
    exact h2
theorem boxed_grown {W W' : World} {b : Nat} {t : TypeId} {v : Value} {row : Option Nat} (h : Boxed W b t v) (hg : W.grownBy W' row) (hr : ∀ r, row = some r → ∃ o : Obj, W.heap[r]? = some o ∧ o.isCells = false) : Boxed W' b t v :=
  h.kept hg (fun e => by
    obtain ⟨o, ho, hc⟩ := hr b e.symm
    rw [show W.heap[b]? = _ from h] at ho
    cases ho
    cases hc)
theorem below_grown {w W W' : World} {n0 B : Nat} {row : Option Nat} (h : Below n0 w W) (hg : W.grownBy W' row) (hr : ∀ r, row = some r → B ≤ r) (hB : n0 ≤ B) (hw : n0 ≤ w.heap.size) : Below n0 w W' :=
  ⟨hg.os.trans h.os, hg.tape.trans h.tape, hg.output.trans h.output, Nat.le_trans h.size hg.size, fun b hb => (hg.block b (by have := h.size; omega) (fun e => by have := hr b e.symm; omega)).trans (h.block b hb)⟩
theorem LI.own {w : World} {n0 B : Nat} (hB : n0 ≤ B) (hw : n0 ≤ w.heap.size) : OwnFrom B (LI w n0) := fun pre W W' row hs hg hr => by
  have hr2 : ∀ r, row = some r → ∃ o : Obj, W.heap[r]? = some o ∧ o.isCells = false := fun r e => (hr r e).2
  obtain ⟨v, h1, h2⟩ := hs.b4
  exact ⟨hs.len, boxed_grown hs.b2 hg hr2, boxed_grown hs.b3 hg hr2, ⟨v, boxed_grown h1 hg hr2, h2.grown hg hr2⟩, boxed_grown hs.b5 hg hr2, below_grown hs.below hg (fun r e => (hr r e).1) hB hw, Nat.le_trans hs.size hg.size⟩
theorem LX.own {w : World} {n0 B : Nat} (hB : n0 ≤ B) (hw : n0 ≤ w.heap.size) (c : Code) : OwnFrom B (LX w n0 c) := fun pre W W' row hs hg hr => by
  have hr2 : ∀ r, row = some r → ∃ o : Obj, W.heap[r]? = some o ∧ o.isCells = false := fun r e => (hr r e).2
  exact ⟨hs.ret, hs.len, boxed_grown hs.b2 hg hr2, boxed_grown hs.b3 hg hr2, below_grown hs.below hg (fun r e => (hr r e).1) hB hw⟩
theorem nets_len (pre : List Wd) : (netsOf pre).length = pre.length := by unfold netsOf; rw [List.length_map]
theorem nets_snoc (pre : List Wd) (x : Wd) : netsOf (pre ++ [x]) = netsOf pre ++ [(parseW x.1).getD zeroN] := by unfold netsOf; rw [List.map_append]; rfl
theorem ok_snoc (pre : List Wd) (x : Wd) : allOk (pre ++ [x]) = (allOk pre && (parseW x.1).isSome) := by unfold allOk; rw [List.all_append]; simp
theorem addr_any {f : FuncId} {args : Array Value} {w : World} {o : Option NetM} (h : Calls Tryd.prog f args w (AddrEnd o w)) : Calls Tryd.prog f args w (fun e w' => (o.getD zeroN).a.length = 16 ∧ e = .returned (.tuple #[netV (o.getD zeroN), .int .i64 (if o.isSome = true then 0 else 70)]) ∧ Below w.heap.size w w') :=
  h.mono fun e w' h => by
    rcases h with ⟨hb, ⟨rfl, h2⟩ | ⟨m, rfl, h2, h3⟩⟩
    · exact ⟨rfl, h2, hb⟩
    · exact ⟨h2, h3, hb⟩
theorem mapO_ok : ∀ (ls : List Wd), mapO parseW (ls.map (·.1)) = if allOk ls = true then some (netsOf ls) else none
  | [] => rfl
  | x :: r => by
    have ih := mapO_ok r
    have e1 : allOk (x :: r) = ((parseW x.1).isSome && allOk r) := rfl
    have e2 : netsOf (x :: r) = (parseW x.1).getD zeroN :: netsOf r := rfl
    rw [List.map_cons, mapO, ih, e1, e2]
    cases parseW x.1 with
    | none => rfl
    | some n => cases allOk r <;> rfl
theorem list_of {s : ByteArray} {ys : List Wd} (h : ys.map (·.1) = wordsB s.data.toList) (hl : ys.length ≤ 200) : listN s = if allOk ys = true then .ok (netsOf ys) else .bad 70 := by
  unfold listN listO
  rw [← h, if_neg (by rw [List.length_map]; omega), mapO_ok]
  cases allOk ys <;> rfl
theorem list_many {s : ByteArray} {pre : List Wd} (h : pre.map (·.1) <+: wordsB s.data.toList) (hl : 200 < pre.length) : listN s = .bad 71 := by
  unfold listN listO
  have := h.length_le
  rw [List.length_map] at this
  rw [if_pos (by omega)]
theorem stop_load {F : Fence} {n : Nat} {ops : Array Oper} {rest : List Oper} {op : Oper} {a : Act} {w : World} {Q : Exit → Act → World → Prop} (_ho : op.op = .load 29 (.tmp 4)) (h : Hid (wpListIn F n Tryd.prog ops Q (op :: rest) a w)) : wpListIn F n Tryd.prog ops Q (op :: rest) a w := h.out
theorem OwnsN.same {W W' : World} {B : Nat} {v : Value} {ns : List NetM} (h : OwnsN W B v ns) (hk : ∀ g, B ≤ g → g < W.heap.size → W'.heap[g]? = W.heap[g]?) : OwnsN W' B v ns := by
  refine ⟨⟨h.1.1, ?_⟩, h.2⟩
  rcases h.1.2 with hn | ⟨g, cap, cur, rfl, h1, h2, h3⟩
  · exact Or.inl hn
  · exact Or.inr ⟨g, cap, cur, rfl, h1, by rw [hk g h1 (heap_lt h2)]; exact h2, h3⟩
theorem OwnsN.row {W : World} {B : Nat} {v : Value} {ns : List NetM} (h : OwnsN W B v ns) : ∀ g, v.ownBlock = some g → B ≤ g ∧ ∀ o, W.heap[g]? = some o → o.isCells = true := fun g hg => by
  rcases h.1.2 with ⟨rfl, _⟩ | ⟨g', cap, cur, rfl, h1, h2, h3⟩
  · cases hg
  · cases hg
    exact ⟨h1, fun o ho => by rw [h2] at ho; cases ho; rfl⟩
theorem setCell_block {W : World} {b k : Nat} {u : Value} (h : k ≠ b) : (W.setCell ⟨b, 0, none⟩ u).heap[k]? = W.heap[k]? := Below.heap_setCell W ⟨b, 0, none⟩ u k (by simpa using h)
end Go.Proofs.YtdmajikhpacpfaaDoor.Cidr
