/-
  TABLE, the statement's own of chains: what stands while the tables are read, joined, asked.
-/
import Derived.Test.YtbgdohggdaoojaaDoorTabJoin
import Derived.Test.YtbgdohggdaoojaaDoorTabRAsk
import Derived.Test.YtbgdohggdaoojaaDoorTabChn2
namespace Go.Proofs.YtbgdohggdaoojaaDoor.Table
open Go.RowKit Base
/-- A text's two tables. -/
structure Quad where
  pb : Nat
  sv : Value
  rb : Nat
  rv : Value
  tab : List KV
def pvOf : Option Quad → PV := Option.map fun q => (q.pb, q.sv)
def ptOf : Option Quad → PT := Option.map fun q => (q.rb, q.tab)
def lV (o : Option Quad) : Value := ptrV (pvOf o)
def kV (o : Option Quad) : Value := ptrT (ptOf o)
/-- None of the entries lies in a block. -/
def OffB (q : Quad) (g : Nat) : Prop := q.tab ≠ [] → q.sv.ownBlock ≠ some g ∧ q.rv.ownBlock ≠ some g
structure QuadAt (w : World) (q : Quad) : Prop where
  p : w.heap[q.pb]? = some (.cells #[q.sv] 82 (0, 0))
  pr : Rows2 w q.sv q.tab
  r : w.heap[q.rb]? = some (.cells #[q.rv] 36 (0, 0))
  rr : Rows2 w q.rv q.tab
  good : Good q.tab
theorem Rows2.same {w w' : World} {v : Value} {T : List KV} (h : Rows2 w v T) (hk : ∀ g, T ≠ [] → v.ownBlock = some g → g < w.heap.size → w'.heap[g]? = w.heap[g]?) : Rows2 w' v T := by
  by_cases hT : T = []
  · subst hT
    rcases h with h | ⟨b, o, c, rfl, h1, _⟩
    · exact Or.inl h
    · exact Or.inr ⟨b, o, c, rfl, h1, fun i p hp => by simp at hp⟩
  · exact h.kept fun b hb hl => hk b hT hb hl
theorem rows_lt {w : World} {v : Value} {T : List KV} (h : Rows2 w v T) (hT : T ≠ []) {g : Nat} (hg : v.ownBlock = some g) : g < w.heap.size := by
  obtain ⟨a, c, rfl, _⟩ := h.form
  match T, hT with
  | p :: r, _ =>
    obtain ⟨b, o, rfl, h1, _⟩ := h.cell (i := 0) (p := p) rfl
    cases hg
    exact cell_lt h1
theorem QuadAt.on {w w' : World} {q : Quad} (h : QuadAt w q) (hb : Below w.heap.size w w') : QuadAt w' q :=
  ⟨(hb.block _ (heap_lt h.p)).trans h.p, h.pr.on hb, (hb.block _ (heap_lt h.r)).trans h.r, h.rr.on hb, h.good⟩
theorem QuadAt.but {w w' : World} {q : Quad} {g : Nat} (h : QuadAt w q) (ho : OffB q g) (hp : q.pb ≠ g) (hr : q.rb ≠ g) (hk : ∀ k, k < w.heap.size → k ≠ g → w'.heap[k]? = w.heap[k]?) : QuadAt w' q :=
  ⟨(hk _ (heap_lt h.p) hp).trans h.p, h.pr.same fun b hT hb hl => hk b hl (fun e => (ho hT).1 (by rw [hb, e])), (hk _ (heap_lt h.r) hr).trans h.r, h.rr.same fun b hT hb hl => hk b hl (fun e => (ho hT).2 (by rw [hb, e])), h.good⟩
theorem QuadAt.fresh {w : World} {q : Quad} (h : QuadAt w q) {g : Nat} (hg : w.heap.size ≤ g) : OffB q g := fun hT => ⟨fun e => by have := rows_lt h.pr hT e; omega, fun e => by have := rows_lt h.rr hT e; omega⟩
/-- While the texts are read. -/
structure LInv (w wr : World) (lv kv : Value) (xs ys : List Value) (Es : List Quad) : Prop where
  below : Below w.heap.size w wr
  lrow : wr.ownsRow w.heap.size 30 1 lv xs.length xs
  krow : wr.ownsRow w.heap.size 24 1 kv ys.length ys
  quads : ∀ q ∈ Es, QuadAt wr q ∧ ∀ g, (lv.ownBlock = some g ∨ kv.ownBlock = some g) → OffB q g
section
variable {w wr w' : World} {lv kv : Value} {xs ys : List Value} {Es : List Quad}
theorem LInv.start (w : World) : LInv w w (.slice none 0 0) (.slice none 0 0) [] [] [] := ⟨Below.refl _ _, World.ownsRow_nil _ _ _ _, World.ownsRow_nil _ _ _ _, fun q h => by simp at h⟩
theorem LInv.on (h : LInv w wr lv kv xs ys Es) (hb : Below wr.heap.size wr w') : LInv w w' lv kv xs ys Es :=
  ⟨h.below.trans (hb.mono h.below.size), row_kept h.lrow fun b hx => hb.block b (World.ownsRow.lt h.lrow b hx).2, row_kept h.krow fun b hx => hb.block b (World.ownsRow.lt h.krow b hx).2, fun q hq => ⟨(h.quads q hq).1.on hb, (h.quads q hq).2⟩⟩
/-- A row's block is no table's. -/
theorem LInv.ne (h : LInv w wr lv kv xs ys Es) {q : Quad} (hq : q ∈ Es) {g : Nat} (hg : lv.ownBlock = some g ∨ kv.ownBlock = some g) : q.pb ≠ g ∧ q.rb ≠ g := by
  have hc := (h.quads q hq).1
  rcases hg with hg | hg
  · obtain ⟨cs, fz, h1⟩ := row_type h.lrow hg
    exact ⟨fun e => (by have := hc.p; rw [e, h1] at this; cases this), fun e => (by have := hc.r; rw [e, h1] at this; cases this)⟩
  · obtain ⟨cs, fz, h1⟩ := row_type h.krow hg
    exact ⟨fun e => (by have := hc.p; rw [e, h1] at this; cases this), fun e => (by have := hc.r; rw [e, h1] at this; cases this)⟩
theorem LInv.apart (h : LInv w wr lv kv xs ys Es) {g : Nat} (hg : lv.ownBlock = some g) : kv.ownBlock ≠ some g := fun e => by
  obtain ⟨cs, fz, h1⟩ := row_type h.lrow hg
  obtain ⟨cs2, fz2, h2⟩ := row_type h.krow e
  rw [h1] at h2; cases h2
theorem LInv.addL (h : LInv w wr lv kv xs ys Es) {v' : Value} {x : Value} (hr : w'.ownsRow w.heap.size 30 1 v' (xs.length + [x].length) (xs ++ [x])) (hg : wr.grownBy w' lv.ownBlock) (ha : v'.ownBlock = lv.ownBlock ∨ v'.ownBlock = some wr.heap.size) : LInv w w' v' kv (xs ++ [x]) ys Es := by
  have hbl : Below w.heap.size w w' := h.below.trans ((Below.refl _ _).grown hg h.below.size (fun j hj => (World.ownsRow.lt h.lrow j hj).1))
  obtain ⟨_, _, _, hs, hbk⟩ := hg
  refine ⟨hbl, by rw [List.length_append]; exact hr, row_kept h.krow fun b hb => hbk b (World.ownsRow.lt h.krow b hb).2 (fun e => h.apart e.symm hb), fun q hq => ?_⟩
  obtain ⟨hc, ho⟩ := h.quads q hq
  refine ⟨?_, fun g hgg => ?_⟩
  · cases hl : lv.ownBlock with
    | none => exact ⟨(hbk _ (heap_lt hc.p) (by rw [hl]; simp)).trans hc.p, hc.pr.same (fun b _ _ hlt => hbk b hlt (by rw [hl]; simp)), (hbk _ (heap_lt hc.r) (by rw [hl]; simp)).trans hc.r, hc.rr.same (fun b _ _ hlt => hbk b hlt (by rw [hl]; simp)), hc.good⟩
    | some g =>
      have hn := h.ne hq (Or.inl hl)
      exact hc.but (ho g (Or.inl hl)) hn.1 hn.2 fun k hk hne => hbk k hk (fun e => hne (by rw [hl] at e; exact (Option.some.inj e)))
  · rcases hgg with e | e
    · rcases ha with ha | ha
      · exact ho g (Or.inl (by rw [← ha]; exact e))
      · rw [ha] at e; cases e
        exact hc.fresh (Nat.le_refl _)
    · exact ho g (Or.inr e)
theorem LInv.addK (h : LInv w wr lv kv xs ys Es) {v' : Value} {x : Value} (hr : w'.ownsRow w.heap.size 24 1 v' (ys.length + [x].length) (ys ++ [x])) (hg : wr.grownBy w' kv.ownBlock) (ha : v'.ownBlock = kv.ownBlock ∨ v'.ownBlock = some wr.heap.size) : LInv w w' lv v' xs (ys ++ [x]) Es := by
  have hbl : Below w.heap.size w w' := h.below.trans ((Below.refl _ _).grown hg h.below.size (fun j hj => (World.ownsRow.lt h.krow j hj).1))
  obtain ⟨_, _, _, hs, hbk⟩ := hg
  refine ⟨hbl, row_kept h.lrow fun b hb => hbk b (World.ownsRow.lt h.lrow b hb).2 (fun e => h.apart hb e.symm), by rw [List.length_append]; exact hr, fun q hq => ?_⟩
  obtain ⟨hc, ho⟩ := h.quads q hq
  refine ⟨?_, fun g hgg => ?_⟩
  · cases hl : kv.ownBlock with
    | none => exact ⟨(hbk _ (heap_lt hc.p) (by rw [hl]; simp)).trans hc.p, hc.pr.same (fun b _ _ hlt => hbk b hlt (by rw [hl]; simp)), (hbk _ (heap_lt hc.r) (by rw [hl]; simp)).trans hc.r, hc.rr.same (fun b _ _ hlt => hbk b hlt (by rw [hl]; simp)), hc.good⟩
    | some g =>
      have hn := h.ne hq (Or.inr hl)
      exact hc.but (ho g (Or.inr hl)) hn.1 hn.2 fun k hk hne => hbk k hk (fun e => hne (by rw [hl] at e; exact (Option.some.inj e)))
  · rcases hgg with e | e
    · exact ho g (Or.inl e)
    · rcases ha with ha | ha
      · exact ho g (Or.inr (by rw [← ha]; exact e))
      · rw [ha] at e; cases e
        exact hc.fresh (Nat.le_refl _)
/-- A text's tables are there. -/
theorem LInv.addQ {w1 w2 : World} (h : LInv w wr lv kv xs ys Es) (hb1 : Below wr.heap.size wr w1) {w1' : World} (hb1' : Below w1.heap.size w1 w1') (hb2 : Below w1'.heap.size w1' w2) {b c : Nat} {T : List KV} (hp : TabNew 82 wr w1 b T) (hr : TabNew 36 w1' w2 c T) (hg : Good T) :
    ∃ q : Quad, q.pb = b ∧ q.rb = c ∧ q.tab = T ∧ LInv w w2 lv kv xs ys (Es ++ [q]) := by
  obtain ⟨sv, p1, p2, p3, p4⟩ := hp
  obtain ⟨rv, r1, r2, r3, r4⟩ := hr
  have hbb : Below w1.heap.size w1 w2 := hb1'.trans (hb2.mono hb1'.size)
  have h1 := h.on hb1
  have h1' := h1.on hb1'
  have h2 := h1.on hbb
  refine ⟨⟨b, sv, c, rv, T⟩, rfl, rfl, rfl, h2.below, h2.lrow, h2.krow, fun q hq => ?_⟩
  rcases List.mem_append.1 hq with hq | hq
  · exact h2.quads q hq
  · rw [List.mem_singleton.1 hq]
    refine ⟨⟨(hbb.block b (heap_lt p1)).trans p1, p2.on hbb, r1, r2, hg⟩, fun g hgg _ => ?_⟩
    rcases hgg with e | e
    · obtain ⟨cs, fz, k1⟩ := row_type h.lrow e
      obtain ⟨cs2, fz2, k2⟩ := row_type h1'.lrow e
      exact ⟨p4 _ _ _ _ k1 (by decide), r4 _ _ _ _ k2 (by decide)⟩
    · obtain ⟨cs, fz, k1⟩ := row_type h.krow e
      obtain ⟨cs2, fz2, k2⟩ := row_type h1'.krow e
      exact ⟨p4 _ _ _ _ k1 (by decide), r4 _ _ _ _ k2 (by decide)⟩
end
theorem info30 : (Tryd.prog.info? 30).map (fun i => (i.zero, i.size, i.bytes)) = some (some (.pointer none), 1, 8) := by kernel_rfl
theorem info24 : (Tryd.prog.info? 24).map (fun i => (i.zero, i.size, i.bytes)) = some (some (.pointer none), 1, 8) := by kernel_rfl
section
variable {w wr : World} {lv kv : Value} {xs ys : List Value} {Es : List Quad} {ops : Array Oper} {rest : List Oper} {o : Oper} {a : Act} {Q : Exit → Act → World → Prop}
theorem wp_addL (hgd : o.guard = none) (s y : Operand) (ho : o.op = .call { callee := .builtin .append, args := #[s, y], argTypes := #[46, 46] })
    (h : LInv w wr lv kv xs ys Es) (hn : xs.length ≤ 1000000) (p : Option Addr) {nb : Nat} (hs : a.eval s = lv) (hx : a.eval y = .slice (some ⟨nb, 0, none⟩) 1 1) (hnb : wr.heap.size = nb)
    (hK : ∀ v' w', LInv w w' v' kv (xs ++ [.pointer p]) ys Es → wpList Tryd.prog ops Q rest (a.put o.dst v') w') :
    wpList Tryd.prog ops Q (o :: rest) a (wr.alloc (.cells #[.pointer p] 30)) := by
  subst hnb
  obtain ⟨i0, hi, hz0, hz1, hz2⟩ := info_parts info30
  have h1 := h.on (Below.alloc1 wr (.cells #[.pointer p] 30))
  refine wpList_append_row _ hgd s y 46 ho w.heap.size 30 i0 (.pointer none) 8 Tryd.underlying46 hi hz0 hz1 hz2 rfl lv _ xs.length xs [.pointer p] hs hx h1.lrow (vreads_one _ _ _) (fun u hu => by rw [List.mem_singleton.1 hu]; rfl) (by rw [List.length_singleton]; omega) (by rw [List.length_singleton]; omega) h1.below.size (fun v' w' o2 g2 a2 => ?_)
  exact hK v' w' (h1.addL o2 g2 a2)
theorem wp_addK (hgd : o.guard = none) (s y : Operand) (ho : o.op = .call { callee := .builtin .append, args := #[s, y], argTypes := #[47, 47] })
    (h : LInv w wr lv kv xs ys Es) (hn : ys.length ≤ 1000000) (p : Option Addr) {nb : Nat} (hs : a.eval s = kv) (hx : a.eval y = .slice (some ⟨nb, 0, none⟩) 1 1) (hnb : wr.heap.size = nb)
    (hK : ∀ v' w', LInv w w' lv v' xs (ys ++ [.pointer p]) Es → wpList Tryd.prog ops Q rest (a.put o.dst v') w') :
    wpList Tryd.prog ops Q (o :: rest) a (wr.alloc (.cells #[.pointer p] 24)) := by
  subst hnb
  obtain ⟨i0, hi, hz0, hz1, hz2⟩ := info_parts info24
  have h1 := h.on (Below.alloc1 wr (.cells #[.pointer p] 24))
  refine wpList_append_row _ hgd s y 47 ho w.heap.size 24 i0 (.pointer none) 8 Tryd.underlying47 hi hz0 hz1 hz2 rfl kv _ ys.length ys [.pointer p] hs hx h1.krow (vreads_one _ _ _) (fun u hu => by rw [List.mem_singleton.1 hu]; rfl) (by rw [List.length_singleton]; omega) (by rw [List.length_singleton]; omega) h1.below.size (fun v' w' o2 g2 a2 => ?_)
  exact hK v' w' (h1.addK o2 g2 a2)
end
/-- The state of the first loop. -/
def ReadL (w wr : World) (lv kv : Value) (Xs : List (Option Quad)) : Prop := LInv w wr lv kv (Xs.map lV) (Xs.map kV) (Xs.filterMap id)
/-- Behind the joining: the chain, the tables of the given answers; none lies in the row of the program's. -/
structure FInv (w wr : World) (lg cb : Nat) (cv kv : Value) (Xs : List (Option Quad)) : Prop where
  below : Below w.heap.size w wr
  lge : w.heap.size ≤ lg
  box : wr.heap[cb]? = some (.cells #[cv] 87 (0, 0))
  crow : wr.ownsRow w.heap.size 82 1 cv (valsOf (Xs.map pvOf)).length (valsOf (Xs.map pvOf))
  krow : wr.ownsRow w.heap.size 24 1 kv Xs.length (Xs.map kV)
  quads : ∀ q, some q ∈ Xs → QuadAt wr q ∧ OffB q lg
  lrow : Xs ≠ [] → ∃ cur, wr.heap[lg]? = some (.cells cur 30 (0, 0)) ∧ Xs.length ≤ cur.size
theorem FInv.on {w wr w' : World} {lg cb : Nat} {cv kv : Value} {Xs : List (Option Quad)} (h : FInv w wr lg cb cv kv Xs) (hb : Below wr.heap.size wr w') : FInv w w' lg cb cv kv Xs :=
  ⟨h.below.trans (hb.mono h.below.size), h.lge, (hb.block _ (heap_lt h.box)).trans h.box, row_kept h.crow fun b hx => hb.block b (World.ownsRow.lt h.crow b hx).2, row_kept h.krow fun b hx => hb.block b (World.ownsRow.lt h.krow b hx).2, fun q hq => ⟨(h.quads q hq).1.on hb, (h.quads q hq).2⟩, fun hX => by
    obtain ⟨cur, h1, h2⟩ := h.lrow hX
    exact ⟨cur, (hb.block _ (heap_lt h1)).trans h1, h2⟩⟩
/-- A cell of the row of the program's tables is written. -/
theorem FInv.set {w wr : World} {lg cb : Nat} {cv kv : Value} {Xs : List (Option Quad)} (h : FInv w wr lg cb cv kv Xs) {i : Nat} (hi : i < Xs.length) (u : Value) : FInv w (wr.setCell ⟨lg, i, none⟩ u) lg cb cv kv Xs ∧ (∃ x, wr.cell? ⟨lg, i, none⟩ = some x) ∧ wr.frozen? ⟨lg, i, none⟩ = false := by
  have hX : Xs ≠ [] := fun e => by rw [e] at hi; simp at hi
  obtain ⟨cur, h1, h2⟩ := h.lrow hX
  have hk : ∀ k, k ≠ lg → (wr.setCell ⟨lg, i, none⟩ u).heap[k]? = wr.heap[k]? := fun k hne => Below.heap_setCell _ _ _ _ hne
  refine ⟨⟨h.below.setCell h.lge u, h.lge, (hk cb (fun e => ?_)).trans h.box, row_kept h.crow fun b hb => hk b (fun e => ?_), row_kept h.krow fun b hb => hk b (fun e => ?_), fun q hq => ?_, fun _ => ⟨_, heap_setCell_same wr lg i _ _ u h1, by simpa using h2⟩⟩, ⟨cur[i]'(by omega), ?_⟩, by simp [World.frozen?, h1]⟩
  · have := h.box; rw [e, h1] at this; cases this
  · obtain ⟨cs, fz, k1⟩ := row_type h.crow hb
    rw [e, h1] at k1; cases k1
  · obtain ⟨cs, fz, k1⟩ := row_type h.krow hb
    rw [e, h1] at k1; cases k1
  · obtain ⟨hc, ho⟩ := h.quads q hq
    exact ⟨hc.but ho (fun e => by have := hc.p; rw [e, h1] at this; cases this) (fun e => by have := hc.r; rw [e, h1] at this; cases this) fun k _ hne => hk k hne, ho⟩
  · rw [cell_of_row wr lg i _ _ _ h1]
    exact Array.getElem?_eq_getElem (by omega)
/-! ### What is asked -/
def tabsX (Xs : List (Option Quad)) : List (List KV) := (Xs.filterMap id).map Quad.tab
theorem tabs_pt (Xs : List (Option Quad)) : tabsOf (Xs.map ptOf) = tabsX Xs := by
  unfold tabsOf tabsX
  induction Xs with
  | nil => rfl
  | cons o r ih =>
    cases o with
    | none => simpa [ptOf] using ih
    | some q => simpa [ptOf] using ih
theorem vals_pv (Xs : List (Option Quad)) : valsOf (Xs.map pvOf) = (Xs.filterMap id).map Quad.sv := by
  unfold valsOf
  induction Xs with
  | nil => rfl
  | cons o r ih =>
    cases o with
    | none => simpa [pvOf] using ih
    | some q => simpa [pvOf] using ih
theorem FInv.chain {w wr : World} {lg cb : Nat} {cv kv : Value} {Xs : List (Option Quad)} (h : FInv w wr lg cb cv kv Xs) : ChainAt wr cb (tabsX Xs) := by
  refine ⟨cv, h.box, ?_⟩
  have hr := h.crow
  rw [vals_pv] at hr
  have hlen : ((Xs.filterMap id).map Quad.sv).length = (tabsX Xs).length := by simp [tabsX]
  rcases hr.2 with ⟨rfl, hn⟩ | ⟨g, cap, cur, he, _, hb, hc, _⟩
  · exact Or.inl ⟨List.eq_nil_of_length_eq_zero (by omega), none, 0, rfl⟩
  · refine Or.inr ⟨g, cap, by rw [he, hlen], by omega, fun i T hT => ?_⟩
    have hil := (List.getElem?_eq_some_iff.1 hT).1
    subst he
    have hil2 : i < (Xs.filterMap id).length := by simpa [tabsX] using hil
    have hq : (Xs.filterMap id)[i] ∈ Xs.filterMap id := List.getElem_mem hil2
    obtain ⟨o, ho1, ho2⟩ := List.mem_filterMap.1 hq
    have ho3 : o = some (Xs.filterMap id)[i] := ho2
    rw [ho3] at ho1
    have hqa := (h.quads _ ho1).1
    have hTe : T = ((Xs.filterMap id)[i]).tab := by
      have := (List.getElem?_eq_some_iff.1 hT).2
      simpa [tabsX] using this.symm
    refine ⟨((Xs.filterMap id)[i]).sv, ?_, by rw [hTe]; exact hqa.pr⟩
    rw [World.ownsRow.cellAt hr i (by simpa using hil2), List.getElem?_map, List.getElem?_eq_getElem hil2]; rfl
theorem FInv.refs {w wr : World} {lg cb : Nat} {cv kv : Value} {Xs : List (Option Quad)} (h : FInv w wr lg cb cv kv Xs) : ∃ A c, kv = .slice A (Xs.map ptOf).length c ∧ PRow wr A (Xs.map ptOf) ∧ PTabs 36 wr (Xs.map ptOf) := by
  obtain ⟨A, c, he, _⟩ := row_form h.krow
  refine ⟨A, c, by rw [he, List.length_map], fun i o ho => ?_, fun b T hm => ?_⟩
  · have hil : i < Xs.length := by have := (List.getElem?_eq_some_iff.1 ho).1; simpa using this
    rcases h.krow.2 with ⟨rfl, hn⟩ | ⟨g, cap, cur, he2, _, hb, _⟩
    · omega
    · have hr := h.krow
      rw [he] at he2
      cases he2
      rw [he] at hr
      refine ⟨g, rfl, heap_lt hb, ?_⟩
      rw [World.ownsRow.cellAt hr i (by omega)]
      have : (Xs.map kV)[i]? = some (ptrT o) := by
        rw [List.getElem?_map] at ho ⊢
        cases hx : Xs[i]? with
        | none => rw [hx] at ho; cases ho
        | some y => rw [hx] at ho; cases ho; rfl
      exact this
  · obtain ⟨o, ho1, ho2⟩ := List.mem_map.1 hm
    cases o with
    | none => cases ho2
    | some q =>
      have e : (q.rb, q.tab) = (b, T) := Option.some.inj ho2
      cases e
      have hc := (h.quads q ho1).1
      exact ⟨⟨q.rv, hc.r, hc.rr⟩, hc.good⟩
theorem FInv.good {w wr : World} {lg cb : Nat} {cv kv : Value} {Xs : List (Option Quad)} (h : FInv w wr lg cb cv kv Xs) : ∀ T ∈ tabsX Xs, Good T := fun T hT => by
  unfold tabsX at hT
  obtain ⟨q, hq, rfl⟩ := List.mem_map.1 hT
  obtain ⟨o, ho1, ho2⟩ := List.mem_filterMap.1 hq
  have : o = some q := ho2
  rw [this] at ho1
  exact (h.quads q ho1).1.good
theorem tabsX_len (Xs : List (Option Quad)) : (tabsX Xs).length ≤ Xs.length := by
  unfold tabsX
  rw [List.length_map]
  exact List.length_filterMap_le _ _
/-- The tables are joined. -/
theorem ReadL.join {w wr w' : World} {lv kv cv : Value} {Xs : List (Option Quad)} (h : ReadL w wr lv kv Xs) (hj : JSt wr w' (valsOf (Xs.map pvOf)) cv) : ∃ lg, FInv w w' lg wr.heap.size cv kv Xs ∧ ∀ {la n lc}, lv = .slice la n lc → Xs ≠ [] → la = some ⟨lg, 0, none⟩ := by
  have h2 := LInv.on h hj.below
  have crow : w'.ownsRow w.heap.size 82 1 cv (valsOf (Xs.map pvOf)).length (valsOf (Xs.map pvOf)) := by
    refine ⟨hj.row.1, ?_⟩
    rcases hj.row.2 with hn | ⟨g, cap, cur, e1, e2, e3⟩
    · exact Or.inl hn
    · exact Or.inr ⟨g, cap, cur, e1, Nat.le_trans h.below.size e2, e3⟩
  have hmem : ∀ q, some q ∈ Xs → q ∈ Xs.filterMap id := fun q hq => List.mem_filterMap.2 ⟨some q, hq, rfl⟩
  have krow : w'.ownsRow w.heap.size 24 1 kv Xs.length (Xs.map kV) := by have := h2.krow; rwa [List.length_map] at this
  rcases h2.lrow.2 with ⟨e, hn⟩ | ⟨g, cap, cur, e1, e2, e3, e4, _, e5, _⟩
  · have hX : Xs = [] := List.eq_nil_of_length_eq_zero (by simpa using hn)
    subst hX
    exact ⟨w.heap.size, ⟨h2.below, Nat.le_refl _, hj.box, crow, krow, fun q hq => by simp at hq, fun hX => absurd rfl hX⟩, fun _ hX => absurd rfl hX⟩
  · refine ⟨g, ⟨h2.below, e2, hj.box, crow, krow, fun q hq => ?_, fun _ => ⟨cur, e3, ?_⟩⟩, fun he _ => ?_⟩
    · have := h2.quads q (hmem q hq)
      exact ⟨this.1, this.2 g (Or.inl (by rw [e1]; rfl))⟩
    · rw [List.length_map] at e4; omega
    · rw [e1] at he; cases he; rfl
end Go.Proofs.YtbgdohggdaoojaaDoor.Table
