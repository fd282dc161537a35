/-
  RECORD: the document's Decode: its boxes, and append of one recipient.
-/
import Derived.Test.YthoeicidilnleaaDoorRecordDcRd2
import Derived.Test.YthoeicidilnleaaDoorRecordDecsG
namespace Go.Proofs.YthoeicidilnleaaDoor.Codec
open Go.RowKit

theorem Sx.other {w w' : World} {g g' B : Nat} {s : St} (h : Sx w g s B) (hk : KeepX g' w w') (hB : B ≤ g') (hg' : g' < w.heap.size) (hg : g ≠ g') : Sx w' g s B := by
  have hl := h.lt
  obtain ⟨bv, hh, hr, ho, hb⟩ := h
  exact ⟨bv, by rw [hk.block g hl.2 hg]; exact hh, hr.keptX hk ho hB hg', ho, hb⟩
theorem ORow.keptB {w w' : World} {B : Nat} {v : Value} {n : Nat} {xs : List Value} (h : ORow w B v n xs) (hk : ∀ b, v.ownBlock = some b → b < w.heap.size → w'.heap[b]? = w.heap[b]?) : ORow w' B v n xs := by
  refine ⟨h.1, ?_⟩
  rcases h.2 with hn | ⟨g, cap, cur, rfl, h1, h2, h3⟩
  · exact Or.inl hn
  · exact Or.inr ⟨g, cap, cur, rfl, h1, by rw [hk g rfl (heap_lt h2)]; exact h2, h3⟩
theorem ORow.ge {w : World} {B : Nat} {v : Value} {n : Nat} {xs : List Value} (h : ORow w B v n xs) : ∀ b, v.ownBlock = some b → B ≤ b ∧ b < w.heap.size := by
  intro b hb
  rcases h.2 with ⟨rfl, _⟩ | ⟨g, cap, cur, rfl, h1, h2, _⟩
  · simp [Value.ownBlock] at hb
  · have : g = b := by simpa [Value.ownBlock] using hb
    subst this; exact ⟨h1, heap_lt h2⟩

/-- The document's Decode, under way: its reader, its result's box, its message's box. -/
def DX (w wx : World) (s : St) (t : Int) (f : ByteArray) (rs : List Rc) (rv dv : Value) : Prop :=
  Sx wx (w.heap.size + 1) s w.heap.size ∧ wx.heap[w.heap.size + 1 + 1]? = some (.cells #[.int .i64 t, .string f, rv, dv] 25 (0, 0)) ∧
  wx.heap[w.heap.size]? = some (.cells #[.int .i64 0, .string ⟨#[]⟩, .slice none 0 0, .slice none 0 0] 25 (0, 0)) ∧
  ORow wx (w.heap.size + 3) rv rs.length (flatR rs) ∧ Below w.heap.size w wx
section
variable {w wx wy : World} {s s' : St} {t : Int} {f : ByteArray} {rs : List Rc} {rv dv : Value}
theorem DX.step (h : DX w wx s t f rs rv dv) (hs : Sx wy (w.heap.size + 1) s' w.heap.size) (k : KeepX (w.heap.size + 1) wx wy) : DX w wy s' t f rs rv dv := by
  obtain ⟨h1, h2, h3, h4, h5⟩ := h
  refine ⟨hs, by rw [k.block _ (heap_lt h2) (by omega)]; exact h2, by rw [k.block _ (heap_lt h3) (by omega)]; exact h3, ?_, h5.trans (k.below (by omega) h1.lt.2)⟩
  exact h4.keptB fun b hb hl => k.block b hl (by have := (h4.ge b hb).1; omega)
theorem DX.on (h : DX w wx s t f rs rv dv) (b : Below wx.heap.size wx wy) : DX w wy s t f rs rv dv := h.step (h.1.on b) (KeepX.of_below b)
/-- A store into a box of the call's own that is none of these. -/
theorem DX.setX (h : DX w wx s t f rs rv dv) {X : Nat} (hX : w.heap.size + 3 ≤ X) (hl : X < wx.heap.size) (hr : ∀ b, rv.ownBlock = some b → b ≠ X) (i : Nat) (u : Value) : DX w (wx.setCell ⟨X, i, none⟩ u) s t f rs rv dv := by
  obtain ⟨h1, h2, h3, h4, h5⟩ := h
  refine ⟨h1.other (KeepX.set X wx i u) (by omega) hl (by omega), by rw [Below.heap_setCell _ _ _ _ (by show _ ≠ X; omega)]; exact h2, by rw [Below.heap_setCell _ _ _ _ (by show _ ≠ X; omega)]; exact h3, ?_, h5.setCell (by show _ ≤ X; omega) u⟩
  exact h4.keptB fun b hb _ => Below.heap_setCell wx ⟨X, i, none⟩ u b (hr b hb)
/-- A store into the message's box. -/
theorem DX.setM (h : DX w wx s t f rs rv dv) (i : Nat) (u : Value) {t' : Int} {f' : ByteArray} {rs' : List Rc} {rv' dv' : Value}
    (hc : (#[.int .i64 t, .string f, rv, dv] : Array Value).setIfInBounds i u = #[.int .i64 t', .string f', rv', dv']) (hr : ORow wx (w.heap.size + 3) rv' rs'.length (flatR rs')) : DX w (wx.setCell ⟨w.heap.size + 1 + 1, i, none⟩ u) s t' f' rs' rv' dv' := by
  obtain ⟨h1, h2, h3, h4, h5⟩ := h
  refine ⟨h1.other (KeepX.set _ wx i u) (by omega) (heap_lt h2) (by omega), by rw [heap_setCell_same wx _ i _ _ _ h2, hc], by rw [Below.heap_setCell _ _ _ _ (by show _ ≠ w.heap.size + 1 + 1; omega)]; exact h3, ?_, h5.setCell (by show _ ≤ w.heap.size + 1 + 1; omega) u⟩
  exact hr.keptB fun b hb _ => Below.heap_setCell wx ⟨w.heap.size + 1 + 1, i, none⟩ u b (by show b ≠ w.heap.size + 1 + 1; have := (hr.ge b hb).1; omega)
theorem DX.grow (h : DX w wx s t f rs rv dv) (b : Below (w.heap.size + 3) wx wy) {rs' : List Rc} {rv' : Value} (hr : ORow wy (w.heap.size + 3) rv' rs'.length (flatR rs')) : DX w (wy.setCell ⟨w.heap.size + 1 + 1, 2, none⟩ rv') s t f rs' rv' dv := by
  obtain ⟨h1, h2, h3, h4, h5⟩ := h
  have hs : Sx wy (w.heap.size + 1) s w.heap.size := by
    obtain ⟨bv, hh, hrd, ho, hb⟩ := h1
    refine ⟨bv, by rw [b.block _ (by omega)]; exact hh, ?_, ho, hb⟩
    rcases hrd with h | ⟨c, o, q, rfl, hc, hcell⟩
    · exact Or.inl h
    · refine Or.inr ⟨c, o, q, rfl, hc, fun i hi => ?_⟩
      have := ho (fun e => by rw [e] at hi; simp at hi) c rfl
      rw [b.cell (p := ⟨c, o + i, none⟩) (by show c < _; omega), hcell i hi]
  have e2 : wy.heap[w.heap.size + 1 + 1]? = some (.cells #[.int .i64 t, .string f, rv, dv] 25 (0, 0)) := by rw [b.block _ (by omega)]; exact h2
  refine ⟨hs.other (KeepX.set _ wy 2 rv') (by omega) (heap_lt e2) (by omega), by rw [heap_setCell_same wy _ 2 _ _ _ e2]; rfl, by rw [Below.heap_setCell _ _ _ _ (by show _ ≠ w.heap.size + 1 + 1; omega), b.block _ (by omega)]; exact h3, ?_, (h5.trans (b.mono (by omega))).setCell (by show _ ≤ w.heap.size + 1 + 1; omega) rv'⟩
  exact hr.keptB fun b' hb' _ => Below.heap_setCell wy ⟨w.heap.size + 1 + 1, 2, none⟩ rv' b' (by show b' ≠ w.heap.size + 1 + 1; have := (hr.ge b' hb').1; omega)
theorem DX.cells (h : DX w wx s t f rs rv dv) :
    wx.cell? ⟨w.heap.size + 1 + 1, 0, none⟩ = some (.int .i64 t) ∧ wx.cell? ⟨w.heap.size + 1 + 1, 1, none⟩ = some (.string f) ∧ wx.cell? ⟨w.heap.size + 1 + 1, 2, none⟩ = some rv ∧ wx.cell? ⟨w.heap.size + 1 + 1, 3, none⟩ = some dv ∧
    wx.frozen? ⟨w.heap.size + 1 + 1, 0, none⟩ = false ∧ wx.frozen? ⟨w.heap.size + 1 + 1, 1, none⟩ = false ∧ wx.frozen? ⟨w.heap.size + 1 + 1, 2, none⟩ = false ∧ wx.frozen? ⟨w.heap.size + 1 + 1, 3, none⟩ = false :=
  four_cells h.2.1
theorem DX.res (h : DX w wx s t f rs rv dv) :
    wx.cell? ⟨w.heap.size, 0, none⟩ = some (.int .i64 0) ∧ wx.cell? ⟨w.heap.size, 1, none⟩ = some (.string ⟨#[]⟩) ∧ wx.cell? ⟨w.heap.size, 2, none⟩ = some (.slice none 0 0) ∧ wx.cell? ⟨w.heap.size, 3, none⟩ = some (.slice none 0 0) ∧
    wx.frozen? ⟨w.heap.size, 0, none⟩ = false ∧ wx.frozen? ⟨w.heap.size, 1, none⟩ = false ∧ wx.frozen? ⟨w.heap.size, 2, none⟩ = false ∧ wx.frozen? ⟨w.heap.size, 3, none⟩ = false :=
  four_cells h.2.2.1
theorem DX.rd (h : DX w wx s t f rs rv dv) : ∃ bv, wx.cell? ⟨w.heap.size + 1, 0, none⟩ = some bv ∧ wx.cell? ⟨w.heap.size + 1, 1, none⟩ = some (.int .i64 s.2) ∧ Reads wx bv s.1 := by
  obtain ⟨⟨bv, hh, hr, _⟩, _⟩ := h
  exact ⟨bv, (Sx.cells hh).1, (Sx.cells hh).2.1, hr⟩
end

theorem Owns.keptB {w w' : World} {B : Nat} {v : Value} {l : List UInt8} (h : Owns w B v l) (hk : ∀ b, v.ownBlock = some b → b < w.heap.size → w'.heap[b]? = w.heap[b]?) : Owns w' B v l := by
  refine ⟨h.1, ?_⟩
  rcases h.2 with hn | ⟨g, cap, cur, rfl, h1, h2, h3⟩
  · exact Or.inl hn
  · exact Or.inr ⟨g, cap, cur, rfl, h1, by rw [hk g rfl (heap_lt h2)]; exact h2, h3⟩
theorem Owns.ge {w : World} {B : Nat} {v : Value} {l : List UInt8} (h : Owns w B v l) : ∀ b, v.ownBlock = some b → B ≤ b ∧ b < w.heap.size := by
  intro b hb
  rcases h.2 with ⟨rfl, _⟩ | ⟨g, cap, cur, rfl, h1, h2, _⟩
  · simp [Value.ownBlock] at hb
  · have : g = b := by simpa [Value.ownBlock] using hb
    subst this; exact ⟨h1, heap_lt h2⟩
/-- The same, with the data read. -/
def DY (w wx : World) (s : St) (t : Int) (f : ByteArray) (rs : List Rc) (rv dv : Value) (d : List UInt8) : Prop := DX w wx s t f rs rv dv ∧ Owns wx (w.heap.size + 3) dv d
section
variable {w wx wy : World} {s s' : St} {t : Int} {f : ByteArray} {rs : List Rc} {rv dv : Value} {d : List UInt8}
theorem DY.step (h : DY w wx s t f rs rv dv d) (hs : Sx wy (w.heap.size + 1) s' w.heap.size) (k : KeepX (w.heap.size + 1) wx wy) : DY w wy s' t f rs rv dv d :=
  ⟨h.1.step hs k, h.2.keptB fun b hb hl => k.block b hl (by have := (h.2.ge b hb).1; omega)⟩
theorem DY.on (h : DY w wx s t f rs rv dv d) (b : Below wx.heap.size wx wy) : DY w wy s t f rs rv dv d := ⟨h.1.on b, h.2.on b⟩
/-- A store into the message's data. -/
theorem DY.of (h : DX w wx s t f rs rv dv) {dv' : Value} (ho : Owns wx (w.heap.size + 3) dv' d) : DY w (wx.setCell ⟨w.heap.size + 1 + 1, 3, none⟩ dv') s t f rs rv dv' d :=
  ⟨h.setM 3 dv' rfl h.2.2.2.1, ho.keptB fun b hb _ => Below.heap_setCell wx ⟨w.heap.size + 1 + 1, 3, none⟩ dv' b (by show b ≠ w.heap.size + 1 + 1; have := (ho.ge b hb).1; omega)⟩
/-- A store into the result's box. -/
theorem DY.res_kept (h : DY w wx s t f rs rv dv d) (i : Nat) (u : Value) :
    ORow (wx.setCell ⟨w.heap.size, i, none⟩ u) (w.heap.size + 3) rv rs.length (flatR rs) ∧ Owns (wx.setCell ⟨w.heap.size, i, none⟩ u) (w.heap.size + 3) dv d ∧ Below w.heap.size w (wx.setCell ⟨w.heap.size, i, none⟩ u) :=
  ⟨h.1.2.2.2.1.keptB fun b hb _ => Below.heap_setCell wx ⟨w.heap.size, i, none⟩ u b (by show b ≠ w.heap.size; have := (h.1.2.2.2.1.ge b hb).1; omega),
   h.2.keptB fun b hb _ => Below.heap_setCell wx ⟨w.heap.size, i, none⟩ u b (by show b ≠ w.heap.size; have := (h.2.ge b hb).1; omega), h.1.2.2.2.2.setCell (Nat.le_refl _) u⟩
end

section
variable (w : World)
/-- append of one recipient, that lies in some block, onto a row of the call's own. -/
theorem wp_append_rc {ops : Array Oper} {rest : List Oper} {o : Oper} {a : Act} {Q : Exit → Act → World → Prop} (hgd : o.guard = none) (s x : Operand)
    (ho : o.op = .call { callee := .builtin .append, args := #[s, x], argTypes := #[22, 22] })
    (B : Nat) (v : Value) (rs : List Rc) (n : Nat) (r : Rc) (b c : Nat) (hs : a.eval s = v) (hx : a.eval x = .slice (some ⟨b, 0, none⟩) 1 c) (hn : n = rs.length) (hown : ORow w B v n (flatR rs))
    (h0 : w.cell? ⟨b, 0, none⟩ = some (.string r.1)) (h1 : w.cell? ⟨b, 1, none⟩ = some (.int .u8 (r.2.toNat : Int))) (hlim : rs.length ≤ 1000) (hB : B ≤ w.heap.size)
    (h : ∀ v' w', ORow w' B v' (rs ++ [r]).length (flatR (rs ++ [r])) → Below B w w' → wpList Tryd.prog ops Q rest (a.put o.dst v') w') : wpList Tryd.prog ops Q (o :: rest) a w := by
  subst hn
  obtain ⟨i0, hi, hz0, hz1, hz2⟩ := info_parts info41
  refine wpList_plain hgd fun K hK => ?_
  obtain ⟨v', w', e1, e2, e3, _⟩ := run_append_own_wide (P := Tryd.prog) w B 22 o.type 41 i0 (.agg #[.string ⟨#[]⟩, .int .u8 0]) 2 24 Tryd.underlying22 hi hz0 hz1 hz2 rfl (by decide) v rs.length (flatR rs) hown ⟨b, 0, none⟩ 1 c [.string r.1, .int .u8 (r.2.toNat : Int)] rfl
    (fun j u hu => by
      rw [Addr.add_lit]
      match j with
      | 0 => simp at hu; rw [← hu]; exact h0
      | 1 => simp at hu; rw [← hu]; exact h1
      | j + 2 => simp at hu)
    (fun u hu => by simp at hu; rcases hu with rfl | rfl <;> rfl) (by unfold maxLen; omega) (by omega) hB
  unfold Oper.wp execOp
  simp only [ho, resolve, invoke, builtin, Sem.run_bind, Sem.run_pure, Result.andThen_ok, List.map_toArray, List.map_cons, List.map_nil, hs, hx, e1]
  refine hK _ _ (h v' w' ?_ ((Below.refl B w).grown e3 hB fun k hk => (hown.ge k hk).1))
  have : flatR (rs ++ [r]) = flatR rs ++ [.string r.1, .int .u8 (r.2.toNat : Int)] := by simp [flatR]
  rw [this, List.length_append]
  exact e2
end
end Go.Proofs.YthoeicidilnleaaDoor.Codec
