/-
  TABLE, the given answers: the lines of a text, where they lie.
-/
import Derived.Test.YtbgdohggdaoojaaDoorTabAsk
namespace Go.Proofs.YtbgdohggdaoojaaDoor.Table
open Go.RowKit Base
inductive Tg where
  | no | out | bad | ln (i : Nat)
def encI (n : Nat) : Value := .int .i64 (n : Int)
def cells3 (e : Ent × Value) : List Value := [.int .i64 (e.1.pos : Int), S e.1.text, e.2]
structure LnAt (own : Nat → Tg) (w : World) (B i : Nat) (e : Ent × Value) : Prop where
  row : w.ownsRow B 9 1 e.2 e.1.more.length (e.1.more.map S)
  mine : ∀ b, e.2.ownBlock = some b → own b = .ln i
/-- The lines so far, and what is wrong so far. -/
structure LSt (own : Nat → Tg) (w0 w : World) (ov bv : Value) (es : List (Ent × Value)) (bad : List Nat) : Prop where
  below : Below w0.heap.size w0 w
  orow : w.ownsRow w0.heap.size 63 3 ov es.length (es.flatMap cells3)
  oown : ∀ b, ov.ownBlock = some b → own b = .out
  brow : w.ownsRow w0.heap.size 3 1 bv bad.length (bad.map encI)
  bown : ∀ b, bv.ownBlock = some b → own b = .bad
  lines : ∀ i e, es[i]? = some e → LnAt own w w0.heap.size i e
  fresh : ∀ b, w.heap.size ≤ b → own b = .no
noncomputable def ownNew (own : Nat → Tg) (v : Value) (t : Tg) : Nat → Tg := fun b => @ite _ (v.ownBlock = some b ∧ own b = .no) (Classical.propDecidable _) t (own b)
theorem row_kept {w w' : World} {B : Nat} {e : TypeId} {s : Nat} {v : Value} {n : Nat} {xs : List Value} (h : w.ownsRow B e s v n xs) (hk : ∀ b, v.ownBlock = some b → w'.heap[b]? = w.heap[b]?) : w'.ownsRow B e s v n xs := by
  refine ⟨h.1, ?_⟩
  rcases h.2 with hn | ⟨g, cap, cur, rfl, h1, h2, h3⟩
  · exact Or.inl hn
  · exact Or.inr ⟨g, cap, cur, rfl, h1, by rw [hk g rfl]; exact h2, h3⟩
section
variable {own : Nat → Tg} {w0 w w' : World} {ov bv : Value} {es : List (Ent × Value)} {bad : List Nat}
theorem own_keep {v : Value} {t : Tg} {b : Nat} (h : own b ≠ .no) : ownNew own v t b = own b := by unfold ownNew; rw [if_neg (fun x => h x.2)]
theorem own_lt (hf : ∀ b, w.heap.size ≤ b → own b = .no) {b : Nat} (h : own b ≠ .no) : b < w.heap.size := by
  rcases Nat.lt_or_ge b w.heap.size with h' | h'
  · exact h'
  · exact absurd (hf b h') h
/-- What an append onto a row of tag t leaves. -/
structure Stepped (own : Nat → Tg) (w : World) (t : Tg) (own' : Nat → Tg) (w' : World) (v' : Value) : Prop where
  tags : ∀ b, own b ≠ .no → own' b = own b
  block : ∀ b, own b ≠ .no → own b ≠ t → w'.heap[b]? = w.heap[b]?
  mine : ∀ b, v'.ownBlock = some b → own' b = t
  fresh : ∀ b, w'.heap.size ≤ b → own' b = .no
theorem stepped {t : Tg} {v v' : Value} {B : Nat} {e : TypeId} {s n : Nat} {xs : List Value} (hf : ∀ b, w.heap.size ≤ b → own b = .no) (hv : ∀ b, v.ownBlock = some b → own b = t) (hg : w.grownBy w' v.ownBlock)
    (ha : v'.ownBlock = v.ownBlock ∨ v'.ownBlock = some w.heap.size) (hr : w'.ownsRow B e s v' n xs) : Stepped own w t (ownNew own v' t) w' v' := by
  obtain ⟨_, _, _, hs, hbk⟩ := hg
  refine ⟨fun b hb => own_keep hb, fun b hb ht => ?_, fun b hb => ?_, fun b hb => ?_⟩
  · exact hbk b (own_lt hf hb) (fun e => ht (hv b e.symm))
  · unfold ownNew
    by_cases h0 : own b = .no
    · rw [if_pos ⟨hb, h0⟩]
    · rw [if_neg (fun x => h0 x.2)]
      rcases ha with ha | ha
      · exact hv b (by rw [← ha]; exact hb)
      · rw [ha] at hb; cases hb; exact absurd (hf _ (Nat.le_refl _)) h0
  · unfold ownNew
    rw [if_neg, hf b (Nat.le_trans hs hb)]
    rintro ⟨h1, _⟩
    have := (World.ownsRow.lt hr b h1).2
    omega
theorem LnAt.kept {own' : Nat → Tg} {B i : Nat} {e : Ent × Value} (h : LnAt own w B i e) (hk : ∀ b, own b = .ln i → own' b = .ln i ∧ w'.heap[b]? = w.heap[b]?) : LnAt own' w' B i e :=
  ⟨row_kept h.row fun b hb => (hk b (h.mine b hb)).2, fun b hb => (hk b (h.mine b hb)).1⟩
theorem LSt.on (h : LSt own w0 w ov bv es bad) (hb : Below w.heap.size w w') : LSt own w0 w' ov bv es bad :=
  ⟨h.below.trans (hb.mono h.below.size), row_kept h.orow fun b hb2 => hb.block b (own_lt h.fresh (by rw [h.oown b hb2]; exact fun e => by cases e)), h.oown,
   row_kept h.brow fun b hb2 => hb.block b (own_lt h.fresh (by rw [h.bown b hb2]; exact fun e => by cases e)), h.bown,
   fun i e he => (h.lines i e he).kept fun b hb2 => ⟨hb2, hb.block b (own_lt h.fresh (by rw [hb2]; exact fun e => by cases e))⟩, fun b hb2 => h.fresh b (Nat.le_trans hb.size hb2)⟩
theorem flat3 : ∀ (T : List (Ent × Value)) (i k : Nat) (p : Ent × Value), T[i]? = some p → k < 3 → (T.flatMap cells3)[i * 3 + k]? = (cells3 p)[k]?
  | [], i, k, p, h, _ => by simp at h
  | x :: r, 0, k, p, h, hk => by
    simp at h; subst h
    rw [List.flatMap_cons, List.getElem?_append_left (by simp [cells3]; omega)]; simp
  | x :: r, i + 1, k, p, h, hk => by
    rw [List.flatMap_cons, List.getElem?_append_right (by simp [cells3]; omega)]
    have := flat3 r i k p h hk
    rw [show (i + 1) * 3 + k - (cells3 x).length = i * 3 + k by simp [cells3]; omega]
    exact this
theorem flat3_set : ∀ (T : List (Ent × Value)) (i : Nat) (p q : Ent × Value), T[i]? = some p → q.1.pos = p.1.pos → q.1.text = p.1.text → (T.set i q).flatMap cells3 = (T.flatMap cells3).set (i * 3 + 2) q.2
  | [], i, p, q, h, _, _ => by simp at h
  | x :: r, 0, p, q, h, h1, h2 => by
    simp at h; subst h
    simp [cells3, h1, h2]
  | x :: r, i + 1, p, q, h, h1, h2 => by
    have := flat3_set r i p q (by simpa using h) h1 h2
    rw [List.set_cons_succ, List.flatMap_cons, this, List.flatMap_cons, List.set_append_right _ _ (by simp [cells3]; omega)]
    congr 2
    simp [cells3]; omega
theorem flat3_len (T : List (Ent × Value)) : (T.flatMap cells3).length = T.length * 3 := by
  induction T with
  | nil => rfl
  | cons x r ih => rw [List.flatMap_cons, List.length_append, ih, List.length_cons]; simp [cells3]; omega
/-- One more that is wrong. -/
theorem LSt.addBad (h : LSt own w0 w ov bv es bad) {v' : Value} (n : Nat) (hr : w'.ownsRow w0.heap.size 3 1 v' (bad.length + 1) (bad.map encI ++ [encI n])) (hg : w.grownBy w' bv.ownBlock) (ha : v'.ownBlock = bv.ownBlock ∨ v'.ownBlock = some w.heap.size) :
    LSt (ownNew own v' .bad) w0 w' ov v' es (bad ++ [n]) := by
  have st := stepped h.fresh h.bown hg ha hr
  have hbl : Below w0.heap.size w w' := (Below.refl _ _).grown hg h.below.size (fun j hj => (World.ownsRow.lt h.brow j hj).1)
  refine ⟨h.below.trans hbl, row_kept h.orow fun b hb => ?_, fun b hb => ?_, ?_, st.mine, fun i e he => (h.lines i e he).kept fun b hb => ⟨?_, ?_⟩, st.fresh⟩
  · exact st.block b (by rw [h.oown b hb]; exact fun e => by cases e) (by rw [h.oown b hb]; exact fun e => by cases e)
  · rw [st.tags b (by rw [h.oown b hb]; exact fun e => by cases e)]; exact h.oown b hb
  · rw [List.length_append, List.map_append]; exact hr
  · rw [st.tags b (by rw [hb]; exact fun e => by cases e)]; exact hb
  · exact st.block b (by rw [hb]; exact fun e => by cases e) (by rw [hb]; exact fun e => by cases e)
/-- One more line. -/
theorem LSt.addLine (h : LSt own w0 w ov bv es bad) {v' : Value} (e : Ent) (he : e.more = []) (hr : w'.ownsRow w0.heap.size 63 3 v' (es.length + 1) (es.flatMap cells3 ++ cells3 (e, .slice none 0 0))) (hg : w.grownBy w' ov.ownBlock) (ha : v'.ownBlock = ov.ownBlock ∨ v'.ownBlock = some w.heap.size) :
    LSt (ownNew own v' .out) w0 w' v' bv (es ++ [(e, .slice none 0 0)]) bad := by
  have st := stepped h.fresh h.oown hg ha hr
  have hbl : Below w0.heap.size w w' := (Below.refl _ _).grown hg h.below.size (fun j hj => (World.ownsRow.lt h.orow j hj).1)
  refine ⟨h.below.trans hbl, ?_, st.mine, row_kept h.brow fun b hb => ?_, fun b hb => ?_, fun i x hx => ?_, st.fresh⟩
  · rw [List.length_append, List.flatMap_append]
    simpa using hr
  · exact st.block b (by rw [h.bown b hb]; exact fun e => by cases e) (by rw [h.bown b hb]; exact fun e => by cases e)
  · rw [st.tags b (by rw [h.bown b hb]; exact fun e => by cases e)]; exact h.bown b hb
  · rcases Nat.lt_or_ge i es.length with hi | hi
    · rw [List.getElem?_append_left hi] at hx
      exact (h.lines i x hx).kept fun b hb => ⟨by rw [st.tags b (by rw [hb]; exact fun e => by cases e)]; exact hb, st.block b (by rw [hb]; exact fun e => by cases e) (by rw [hb]; exact fun e => by cases e)⟩
    · rw [List.getElem?_append_right hi] at hx
      have : i - es.length = 0 := by
        have := (List.getElem?_eq_some_iff.1 hx).1
        simp at this; omega
      rw [this] at hx
      simp at hx
      subst hx
      refine ⟨?_, fun b hb => by cases hb⟩
      rw [he]
      exact World.ownsRow_nil _ _ _ _
/-- The last line goes on. -/
theorem LSt.addMore (h : LSt own w0 w ov bv es bad) {i : Nat} {e : Ent × Value} (he : es[i]? = some e) {v' : Value} (p : List UInt8) {g c : Nat} (hov : ov = .slice (some ⟨g, 0, none⟩) es.length c)
    (hr : w'.ownsRow w0.heap.size 9 1 v' (e.1.more.length + 1) (e.1.more.map S ++ [S p])) (hg : w.grownBy w' e.2.ownBlock) (ha : v'.ownBlock = e.2.ownBlock ∨ v'.ownBlock = some w.heap.size) :
    LSt (ownNew own v' (.ln i)) w0 (w'.setCell ⟨g, i * 3 + 2, none⟩ v') ov bv (es.set i ({ e.1 with more := e.1.more ++ [p] }, v')) bad := by
  have hl := h.lines i e he
  have st := stepped h.fresh hl.mine hg ha hr
  have hbl : Below w0.heap.size w w' := (Below.refl _ _).grown hg h.below.size (fun j hj => (World.ownsRow.lt hl.row j hj).1)
  have ho : own g = .out := h.oown g (by rw [hov]; rfl)
  have hgB : w0.heap.size ≤ g := (World.ownsRow.lt h.orow g (by rw [hov]; rfl)).1
  have hne : ∀ b, own b ≠ .no → own b ≠ .out → (w'.setCell ⟨g, i * 3 + 2, none⟩ v').heap[b]? = w'.heap[b]? := fun b _ hb2 => Below.heap_setCell _ _ _ _ (fun e => hb2 (by rw [e]; exact ho))
  have orow' : w'.ownsRow w0.heap.size 63 3 ov es.length (es.flatMap cells3) := row_kept h.orow fun b hb => st.block b (by rw [h.oown b hb]; exact fun e => by cases e) (by rw [h.oown b hb]; exact fun e => by cases e)
  have hvb : ∀ b, v'.ownBlock = some b → b ≠ g := fun b hb e => by
    subst e
    have := st.mine b hb
    rw [st.tags b (by rw [ho]; exact fun e => by cases e), ho] at this
    cases this
  have hrow2 : (w'.setCell ⟨g, i * 3 + 2, none⟩ v').ownsRow w0.heap.size 9 1 v' (e.1.more.length + 1) (e.1.more.map S ++ [S p]) := row_kept hr fun b hb => Below.heap_setCell _ _ _ _ (hvb b hb)
  have hil := (List.getElem?_eq_some_iff.1 he).1
  refine ⟨(h.below.trans hbl).setCell hgB _, ?_, fun b hb => ?_, row_kept h.brow fun b hb => ?_, fun b hb => ?_, fun j x hx => ?_, fun b hb => st.fresh b (by simpa using hb)⟩
  · rw [List.length_set, flat3_set es i e ({ e.1 with more := e.1.more ++ [p] }, v') he rfl rfl]
    rw [hov] at orow' ⊢
    exact (World.ownsRow.stored orow' (i * 3 + 2) v').1
  · rw [st.tags b (by rw [h.oown b hb]; exact fun e => by cases e)]; exact h.oown b hb
  · rw [hne b (by rw [h.bown b hb]; exact fun e => by cases e) (by rw [h.bown b hb]; exact fun e => by cases e)]
    exact st.block b (by rw [h.bown b hb]; exact fun e => by cases e) (by rw [h.bown b hb]; exact fun e => by cases e)
  · rw [st.tags b (by rw [h.bown b hb]; exact fun e => by cases e)]; exact h.bown b hb
  · by_cases hij : i = j
    · subst hij
      rw [List.getElem?_set, if_pos rfl, if_pos hil] at hx
      cases hx
      refine ⟨?_, st.mine⟩
      show World.ownsRow _ _ _ _ _ (e.1.more ++ [p]).length ((e.1.more ++ [p]).map S)
      rw [List.length_append, List.map_append]
      exact hrow2
    · rw [List.getElem?_set, if_neg hij] at hx
      refine (h.lines j x hx).kept fun b hb => ⟨by rw [st.tags b (by rw [hb]; exact fun e => by cases e)]; exact hb, ?_⟩
      rw [hne b (by rw [hb]; exact fun e => by cases e) (by rw [hb]; exact fun e => by cases e)]
      exact st.block b (by rw [hb]; exact fun e => by cases e) (by rw [hb]; intro e; cases e; exact hij rfl)
end
end Go.Proofs.YtbgdohggdaoojaaDoor.Table
