/-
  TABLE: the lines of a text: plain; what an append to each row is.
-/
import Derived.Test.YtbgdohggdaoojaaDoorTabLnS
namespace Go.Proofs.YtbgdohggdaoojaaDoor.Table
open Go.RowKit Base
def isOkB (c : UInt8) : Bool := decide (c.toNat = 9 ∨ c.toNat = 10 ∨ (32 ≤ c.toNat ∧ c.toNat ≤ 126))
/-- Where the bytes are that may not be. -/
def badK (l : List UInt8) (k : Nat) : List Nat := (List.range k).filter fun i => !isOkB (l.getD i 0)
theorem badK_yes {l : List UInt8} {k : Nat} (h : isOkB (l.getD k 0) = true) : badK l (k + 1) = badK l k := by
  unfold badK
  rw [List.range_succ, List.filter_append, List.filter_cons_of_neg (by rw [h]; simp)]; simp
theorem badK_no {l : List UInt8} {k : Nat} (h : isOkB (l.getD k 0) = false) : badK l (k + 1) = badK l k ++ [k] := by
  unfold badK
  rw [List.range_succ, List.filter_append, List.filter_cons_of_pos (by rw [h]; rfl)]; simp
theorem badK_len (l : List UInt8) (k : Nat) : (badK l k).length ≤ k := by
  unfold badK
  exact Nat.le_trans (List.length_filter_le _ _) (by simp)
abbrev LS := List Ent × List Nat
def headIs (p : UInt8 → Bool) : List UInt8 → Bool
  | [] => false
  | c :: _ => p c
def isHash (c : UInt8) : Bool := decide (c.toNat = 35)
def skipB (line : List UInt8) : Bool := decide (trim line = []) || headIs isHash (trim line)
def addLast (es : List Ent) (p : List UInt8) : List Ent := match es[es.length - 1]? with
  | some e => es.set (es.length - 1) { e with more := e.more ++ [p] }
  | none => es
def stepL (st : LS) (at_ : Nat) (line : List UInt8) : LS :=
  if skipB line = true then st
  else if headIs isBl line = true then (if st.1 = [] then (st.1, st.2 ++ [at_]) else (addLast st.1 (trim line), st.2))
  else (st.1 ++ [⟨at_, line, []⟩], st.2)
def linesFrom : Nat → List (List UInt8) → LS → LS
  | _, [], st => st
  | a, l :: r, st => linesFrom (a + l.length + 1) r (stepL st a l)
/-- The lines of a text; what is wrong with its bytes, and with lines that continue nothing. -/
def linesOf (l : List UInt8) : LS := linesFrom 0 (splitB 10 l) ([], badK l l.length)
theorem stepL_nil (st : LS) (a : Nat) : stepL st a [] = st := rfl
theorem lines_end (a : Nat) (st : LS) : linesFrom a (splitB 10 []) st = st := rfl
theorem lines_next {l : List UInt8} {a e : Nat} (st : LS) (h1 : a ≤ e) (h2 : e ≤ l.length) (hno : ∀ j, a ≤ j → j < e → l.getD j 0 ≠ 10) (hat : e < l.length → l.getD e 0 = 10) :
    linesFrom a (splitB 10 (l.drop a)) st = linesFrom (e + 1) (splitB 10 (l.drop (e + 1))) (stepL st a ((l.take e).drop a)) := by
  have hlen : ((l.take e).drop a).length = e - a := by rw [List.length_drop, List.length_take]; omega
  have hne : ∀ x ∈ (l.take e).drop a, x ≠ (10 : UInt8) := fun x hx => by
    obtain ⟨j, hj, rfl⟩ := List.getElem_of_mem hx
    rw [hlen] at hj
    have := hno (a + j) (by omega) (by omega)
    rw [List.getElem_drop, List.getElem_take]
    rw [List.getD_eq_getElem?_getD, List.getElem?_eq_getElem (by omega)] at this
    exact this
  have hsp : l.drop a = (l.take e).drop a ++ l.drop e := by
    rw [← List.drop_append_of_le_length (by rw [List.length_take]; omega), List.take_append_drop]
  rcases Nat.lt_or_ge e l.length with hlt | hge
  · have hde : l.drop e = 10 :: l.drop (e + 1) := by
      rw [List.drop_eq_getElem_cons hlt]
      have := hat hlt
      rw [List.getD_eq_getElem?_getD, List.getElem?_eq_getElem hlt] at this
      simp at this
      rw [this]
    rw [hsp, hde, splitB_at hne, linesFrom, hlen, show a + (e - a) + 1 = e + 1 by omega]
  · rw [List.drop_eq_nil_of_le (i := e + 1) (by omega)]
    rw [hsp, List.drop_eq_nil_of_le (i := e) (by omega), List.append_nil, splitB_none hne, linesFrom, linesFrom]
    rfl
theorem info63 : (Tryd.prog.info? 63).map (fun i => (i.zero, i.size, i.bytes)) = some (some (.agg #[.int .i64 0, .string ⟨#[]⟩, .slice none 0 0]), 3, 48) := by kernel_rfl
theorem info3 : (Tryd.prog.info? 3).map (fun i => (i.zero, i.size, i.bytes)) = some (some (.int .i64 0), 1, 8) := by kernel_rfl
section
variable {own : Nat → Tg} {w0 wr : World} {ov bv : Value} {es : List (Ent × Value)} {bad : List Nat} {ops : Array Oper} {rest : List Oper} {o : Oper} {a : Act} {Q : Exit → Act → World → Prop}
theorem wp_addLine (hgd : o.guard = none) (s y : Operand) (ho : o.op = .call { callee := .builtin .append, args := #[s, y], argTypes := #[58, 58] })
    (h : LSt own w0 wr ov bv es bad) (hn : es.length ≤ 1000000) (pos : Nat) (line : ByteArray) (hs : a.eval s = ov) (hx : a.eval y = .slice (some ⟨wr.heap.size, 0, none⟩) 1 1)
    (hK : ∀ v' w' own', LSt own' w0 w' v' bv (es ++ [(⟨pos, line.data.toList, []⟩, .slice none 0 0)]) bad → wpList Tryd.prog ops Q rest (a.put o.dst v') w') :
    wpList Tryd.prog ops Q (o :: rest) a (wr.alloc (.cells #[.int .i64 (pos : Int), .string line, .slice none 0 0] 63)) := by
  obtain ⟨i0, hi, hz0, hz1, hz2⟩ := info_parts info63
  have h1 := h.on (Below.alloc1 wr (.cells #[.int .i64 (pos : Int), .string line, .slice none 0 0] 63))
  have hb := (MapKept.heap_alloc wr (.cells #[.int .i64 (pos : Int), .string line, .slice none 0 0] 63)).1
  refine wpList_plain hgd fun K hK2 => ?_
  obtain ⟨v', w', e1, e2, e3, _, e5⟩ := run_append_own_at (P := Tryd.prog) (wr.alloc (.cells #[.int .i64 (pos : Int), .string line, .slice none 0 0] 63)) w0.heap.size 58 o.type 63 i0 (.agg #[.int .i64 0, .string ⟨#[]⟩, .slice none 0 0]) 3 48 Tryd.underlying58 hi hz0 hz1 hz2 rfl (by decide) ov es.length (es.flatMap cells3) h1.orow ⟨wr.heap.size, 0, none⟩ 1 1 [.int .i64 (pos : Int), .string line, .slice none 0 0] rfl
    (fun j u hu => by
      rw [Addr.add_lit, Nat.zero_add, cell_of_row _ _ j _ _ _ hb]; simpa using hu)
    (fun u hu => by simp at hu; rcases hu with rfl | rfl | rfl <;> rfl) (by unfold maxLen; omega) (by omega) h1.below.size
  unfold Oper.wp execOp
  simp only [ho, resolve, invoke, builtin, Sem.run_bind, Sem.run_pure, Result.andThen_ok, List.map_toArray, List.map_cons, List.map_nil, hs, hx, e1]
  exact hK2 _ _ (hK v' w' _ (h1.addLine ⟨pos, line.data.toList, []⟩ rfl e2 e3 e5))
theorem wp_addBad (hgd : o.guard = none) (s y : Operand) (ho : o.op = .call { callee := .builtin .append, args := #[s, y], argTypes := #[59, 59] })
    (h : LSt own w0 wr ov bv es bad) (hn : bad.length ≤ 1000000) (pos : Nat) (hs : a.eval s = bv) (hx : a.eval y = .slice (some ⟨wr.heap.size, 0, none⟩) 1 1)
    (hK : ∀ v' w' own', LSt own' w0 w' ov v' es (bad ++ [pos]) → wpList Tryd.prog ops Q rest (a.put o.dst v') w') :
    wpList Tryd.prog ops Q (o :: rest) a (wr.alloc (.cells #[.int .i64 (pos : Int)] 3)) := by
  obtain ⟨i0, hi, hz0, hz1, hz2⟩ := info_parts info3
  have h1 := h.on (Below.alloc1 wr (.cells #[.int .i64 (pos : Int)] 3))
  refine wpList_append_row _ hgd s y 59 ho w0.heap.size 3 i0 (.int .i64 0) 8 Tryd.underlying59 hi hz0 hz1 hz2 rfl bv _ bad.length (bad.map encI) [encI pos] hs hx h1.brow (vreads_one _ _ _) (fun u hu => by rw [List.mem_singleton.1 hu]; rfl) (by rw [List.length_singleton]; omega) (by rw [List.length_singleton]; omega) h1.below.size (fun v' w' o2 g2 a2 => ?_)
  exact hK v' w' _ (h1.addBad pos o2 g2 a2)
theorem wp_addMore (hgd : o.guard = none) (s y : Operand) (ho : o.op = .call { callee := .builtin .append, args := #[s, y], argTypes := #[45, 45] })
    (h : LSt own w0 wr ov bv es bad) {i : Nat} {e : Ent × Value} (he : es[i]? = some e) (hn : e.1.more.length ≤ 1000000) (p : List UInt8) {g c : Nat} (hov : ov = .slice (some ⟨g, 0, none⟩) es.length c) (sv : Value) (hsv : e.2 = sv) (hs : a.eval s = sv) (hx : a.eval y = .slice (some ⟨wr.heap.size, 0, none⟩) 1 1)
    (hK : ∀ va vn vc v' w' own', v' = .slice va vn vc → LSt own' w0 (w'.setCell ⟨g, i * 3 + 2, none⟩ v') ov bv (es.set i ({ e.1 with more := e.1.more ++ [p] }, v')) bad → (∃ u, w'.cell? ⟨g, i * 3 + 2, none⟩ = some u) → w'.frozen? ⟨g, i * 3 + 2, none⟩ = false → wpList Tryd.prog ops Q rest (a.put o.dst v') w') :
    wpList Tryd.prog ops Q (o :: rest) a (wr.alloc (.cells #[S p] 9)) := by
  subst hsv
  obtain ⟨i0, hi, hz0, hz1, hz2⟩ := info_parts info9
  have h1 := h.on (Below.alloc1 wr (.cells #[S p] 9))
  refine wpList_append_row _ hgd s y 45 ho w0.heap.size 9 i0 (.string ⟨#[]⟩) 16 Tryd.underlying45 hi hz0 hz1 hz2 rfl e.2 _ e.1.more.length (e.1.more.map S) [S p] hs hx (h1.lines i e he).row (vreads_one _ _ _) (one_str _) (by rw [List.length_singleton]; omega) (by rw [List.length_singleton]; omega) h1.below.size (fun v' w' o2 g2 a2 => ?_)
  have h2 := h1.addMore he p hov o2 g2 a2
  have st := stepped h1.fresh (h1.lines i e he).mine g2 a2 o2
  have ho : own g = .out := h.oown g (by rw [hov]; rfl)
  have orow' : w'.ownsRow w0.heap.size 63 3 ov es.length (es.flatMap cells3) := row_kept h1.orow fun b hb => st.block b (by rw [h.oown b hb]; exact fun e => by cases e) (by rw [h.oown b hb]; exact fun e => by cases e)
  have hil := (List.getElem?_eq_some_iff.1 he).1
  rw [hov] at orow'
  obtain ⟨va, vc, hvf, _⟩ := row_form o2
  refine hK va _ vc v' w' _ hvf h2 ⟨e.2, ?_⟩ (World.ownsRow.frozenAt orow' _)
  rw [World.ownsRow.cellAt orow' (i * 3 + 2) (by omega), flat3 es i 2 e he (by omega)]; rfl
end
end Go.Proofs.YtbgdohggdaoojaaDoor.Table
