/-
  HEADER, the given answers: a field ahead of a content.
-/
import Derived.Test.YtnogpoojhhmadaaDoorHdrWrite
namespace Go.Proofs.YtnogpoojhhmadaaDoor.Header
open Go.RowKit Base
/-- Cells are stored ahead of where a row is frozen. -/
theorem run_storeCells_atB (P : Program) (g o : Nat) (t : TypeId) (fz : Nat × Nat) : ∀ (vs : List Value) (i : Nat) (cur : Array Value) (w : World), w.heap[g]? = some (.cells cur t fz) → cur.size ≤ fz.1 → o + i + vs.length ≤ cur.size → (∀ v ∈ vs, v.oneCell' = true) →
    (storeCells ⟨g, o, none⟩ vs i).run P w = .ok () (w.setRow g (cur.toList.take (o + i) ++ vs ++ cur.toList.drop (o + i + vs.length)).toArray)
  | [], i, cur, w, hg, _, _, _ => by
    simp only [storeCells, List.append_nil, List.length_nil, Nat.add_zero, List.take_append_drop, Array.toArray_toList]
    rw [setRow_self w g cur t fz hg]
    rfl
  | v :: rest, i, cur, w, hg, hfz, hl, h1 => by
    have hi : o + i < cur.size := by simp at hl; omega
    have hadd : (⟨g, o, none⟩ : Addr).add i = ⟨g, o + i, none⟩ := by unfold Addr.add; split <;> simp_all
    have hcell : w.cell? ⟨g, o + i, none⟩ = some cur[o + i] := by simp [World.cell?, hg, hi]
    have hfro : w.frozen? ⟨g, o + i, none⟩ = false := by
      obtain ⟨lo, hi'⟩ := fz
      simp only [World.frozen?, hg, Bool.and_eq_false_iff, decide_eq_false_iff_not]
      left
      simp only at hfz
      omega
    have hst : (store ((⟨g, o, none⟩ : Addr).add i) v).run P w = .ok () (w.setRow g (cur.setIfInBounds (o + i) v)) := by
      rw [hadd, run_store P w _ v _ (h1 v (by simp)), hcell]
      simp [hfro, setCell_eq_setRow w g (o + i) cur t fz v hg]
    have ih := run_storeCells_atB P g o t fz rest (i + 1) (cur.setIfInBounds (o + i) v) (w.setRow g (cur.setIfInBounds (o + i) v)) (setRow_heap w g cur _ t _ hg) (by simpa using hfz) (by simp at hl ⊢; omega) (fun x hx => h1 x (by simp [hx]))
    simp only [storeCells, Sem.run_bind, hst, Result.andThen_ok, ih, setRow_setRow]
    congr 3
    have e := list_seg_step cur.toList (o + i) v rest (by simp at hl ⊢; omega)
    simpa [Array.toList_setIfInBounds, Nat.add_assoc] using e
theorem byteCells_at (l : List UInt8) (i : Nat) (hi : i < l.length) : (Lib.byteCells l)[i]? = some (.int .u8 ((l.getD i 0).toNat : Int)) := by
  simp [Lib.byteCells, List.getD, List.getElem?_eq_getElem hi]
theorem byteCells_len (l : List UInt8) : (Lib.byteCells l).length = l.length := by simp [Lib.byteCells]
/-- Bytes that may be stored into. -/
def SoftV (w : World) (B : Nat) (v : Value) (n : Nat) : Prop := ∃ g c, v = .slice (some ⟨g, 0, none⟩) n c ∧ n ≤ c ∧ B ≤ g ∧ ∃ cs t fz, w.heap[g]? = some (.cells cs t fz) ∧ n ≤ cs.size ∧ ∀ i, i < n → ¬ (fz.1 ≤ i ∧ i < fz.2)
/-- append onto bytes that a text was turned into. -/
theorem run_append_conv (w : World) {g c : Nat} {cs : Array Value} {l ys : List UInt8} {x : Value} {B : Nat} (ty : TypeId) (hg : w.heap[g]? = some (.cells cs 5 (c, c + 1))) (hcs : cs.size = c) (hat : BytesAt w g c l) (hx : Reads w x ys) (hlim : l.length + ys.length ≤ 140737488355328) (hB : B ≤ g) (hBw : B ≤ w.heap.size) :
    ∃ v' w', (Builtin.append_ #[22, 22] ty #[.slice (some ⟨g, 0, none⟩) l.length c, x]).run Tryd.prog w = .ok v' w' ∧ Reads w' v' (l ++ ys) ∧ Below B w w' ∧ SoftV w' B v' (l.length + ys.length) := by
  obtain ⟨i0, hi, hz0, hz1, hz2⟩ := info_parts info5
  have hl := BytesAt.reads hat rfl
  have hlc : l.length ≤ c := by obtain ⟨_, _, _, h, _⟩ := hat; exact h
  have hold : ∀ j u, (Lib.byteCells l)[j]? = some u → w.cell? ((⟨g, 0, none⟩ : Addr).add j) = some u := fun j u hu => by
    have hj : j < l.length := by have := (List.getElem?_eq_some_iff.1 hu).1; rwa [byteCells_len] at this
    rw [byteCells_at l j hj] at hu
    rw [Addr.add_lit, Nat.zero_add, (hat.cell hj).1]; exact hu
  -- whatever is laid behind
  have main : ∀ (a : Addr) (c' : Nat), (∀ j u, (Lib.byteCells ys)[j]? = some u → w.cell? (a.add j) = some u) →
      ∃ v' w', (Builtin.append_ #[22, 22] ty #[.slice (some ⟨g, 0, none⟩) l.length c, .slice (some a) ys.length c']).run Tryd.prog w = .ok v' w' ∧ Reads w' v' (l ++ ys) ∧ Below B w w' ∧ SoftV w' B v' (l.length + ys.length) := by
    intro a c' hnew
    by_cases hroom : l.length + ys.length ≤ c
    · have hf := run_firstCells_some (P := Tryd.prog) w i0.size ys.length a ys.length c' (Lib.byteCells ys) (by rw [byteCells_len, hz1]; omega) hnew
      have hst := run_storeCells_atB Tryd.prog g l.length 5 (c, c + 1) (Lib.byteCells ys) 0 cs w hg (by rw [hcs]; exact Nat.le_refl _) (by rw [byteCells_len]; omega) (Lib.byteCells_one _)
      simp only [Nat.add_zero] at hst
      refine ⟨.slice (some ⟨g, 0, none⟩) (l.length + ys.length) c, w.setRow g (cs.toList.take l.length ++ Lib.byteCells ys ++ cs.toList.drop (l.length + (Lib.byteCells ys).length)).toArray, ?_, ?_, ?_, ?_⟩
      · simp [Builtin.append_, run_underlying Tryd.underlying22, sizeOf, typeInfo, hi, hz1, Builtin.lenOf, hroom, Addr.add_lit]
        rw [hz1] at hf
        rw [hf]
        simp [hst]
      · have hsr := setRow_heap w g cs (cs.toList.take l.length ++ Lib.byteCells ys ++ cs.toList.drop (l.length + (Lib.byteCells ys).length)).toArray 5 _ hg
        refine Or.inr ⟨g, 0, c, by rw [List.length_append], by rw [List.length_append]; exact hroom, fun j hj => ?_⟩
        rw [List.length_append] at hj
        have htl : (cs.toList.take l.length).length = l.length := by rw [List.length_take]; have : cs.toList.length = cs.size := Array.length_toList; omega
        rw [Nat.zero_add, cell_of_row _ _ j _ _ _ hsr, List.getElem?_toArray, List.append_assoc]
        by_cases hjl : j < l.length
        · rw [List.getElem?_append_left (by rw [htl]; exact hjl), List.getElem?_take_of_lt hjl, Array.getElem?_toList]
          obtain ⟨cs', e1, _, _, e2⟩ := hat
          rw [hg] at e1
          cases e1
          rw [e2 j hjl]
          simp [List.getD, List.getElem?_append_left hjl]
        · rw [List.getElem?_append_right (by omega), htl, List.getElem?_append_left (by rw [byteCells_len]; omega), byteCells_at ys (j - l.length) (by omega)]
          simp [List.getD, List.getElem?_append_right (show l.length ≤ j by omega)]
      · exact ⟨rfl, rfl, rfl, by simp, fun k hk => setRow_other w g k _ (by omega)⟩
      · have hsr := setRow_heap w g cs (cs.toList.take l.length ++ Lib.byteCells ys ++ cs.toList.drop (l.length + (Lib.byteCells ys).length)).toArray 5 _ hg
        refine ⟨g, c, rfl, hroom, hB, _, _, _, hsr, ?_, fun i hi h => by have := h.1; simp only at this; omega⟩
        have : cs.toList.length = cs.size := Array.length_toList
        simp only [List.size_toArray, List.length_append, List.length_take, List.length_drop, byteCells_len]
        omega
    · have hr := run_append_grow (P := Tryd.prog) w 22 ty 5 i0 (.int .u8 0) Tryd.underlying22 hi hz0 ⟨g, 0, none⟩ l.length c (Lib.byteCells l) (by rw [byteCells_len, hz1]; omega) hold a ys.length c' (Lib.byteCells ys) (by rw [byteCells_len, hz1]; omega) hnew (by omega) (by omega) (growslice_fits (by omega) (by rw [hz2]; omega))
      refine ⟨_, _, hr, ?_, ((Below.refl _ _).drew).alloc hBw _, ?_⟩
      rotate_left
      · have hnb := heap_alloc_new w.drew (.cells ((Lib.byteCells l).toArray ++ (Lib.byteCells ys).toArray ++ Builtin.zeroCells (Value.int .u8 0).cells (grownCap w (l.length + ys.length) c 5 - (l.length + ys.length))) 5)
        refine ⟨w.heap.size, _, rfl, grownCap_ge w _ c _, hBw, _, _, _, hnb, by simp [byteCells_len], fun i _ h => by have := h.2; simp at this⟩
      have hnb := heap_alloc_new w.drew (.cells ((Lib.byteCells l).toArray ++ (Lib.byteCells ys).toArray ++ Builtin.zeroCells (Value.int .u8 0).cells (grownCap w (l.length + ys.length) c 5 - (l.length + ys.length))) 5)
      refine Or.inr ⟨w.heap.size, 0, _, by rw [List.length_append], by rw [List.length_append]; exact grownCap_ge w _ c _, fun j hj => ?_⟩
      rw [List.length_append] at hj
      rw [Nat.zero_add]
      refine (cell_of_row _ _ j _ _ _ hnb).trans ?_
      rw [Array.getElem?_append_left (by simp [byteCells_len]; omega)]
      simp only [List.append_toArray, List.getElem?_toArray]
      rw [← Lib.byteCells_append, byteCells_at (l ++ ys) j (by rw [List.length_append]; exact hj)]
  rcases hx with ⟨rfl, a, c', rfl, hc'⟩ | ⟨b, o, c', rfl, _, hcell⟩
  · cases a with
    | none =>
      obtain rfl := hc' rfl
      refine ⟨.slice (some ⟨g, 0, none⟩) l.length c, w, ?_, by rw [List.append_nil]; exact hl, Below.refl _ _, ⟨g, c, rfl, hlc, hB, _, _, _, hg, by rw [hcs]; exact hlc, fun i hi h => by have := h.1; have hi : i < l.length := hi; simp only at this; omega⟩⟩
      simp [Builtin.append_, run_underlying Tryd.underlying22, sizeOf, typeInfo, hi, Builtin.lenOf, Builtin.firstCells, hlc, storeCells]
    | some a =>
      exact main a c' (fun j u hu => by simp [Lib.byteCells] at hu)
  · exact main ⟨b, o, none⟩ c' (fun j u hu => by
      have hj : j < ys.length := by have := (List.getElem?_eq_some_iff.1 hu).1; rwa [byteCells_len] at this
      rw [byteCells_at ys j hj] at hu
      rw [Addr.add_lit, hcell j hj]; exact hu)
/-- The operation, for the walk. -/
theorem wp_append_conv {w : World} {ops : Array Oper} {rest : List Oper} {o : Oper} {a : Act} {Q : Exit → Act → World → Prop} (hgd : o.guard = none) (s x : Operand)
    (ho : o.op = .call { callee := .builtin .append, args := #[s, x], argTypes := #[22, 22] })
    {g c : Nat} {cs : Array Value} {l ys : List UInt8} {y : Value} {B : Nat} (hs : a.eval s = .slice (some ⟨g, 0, none⟩) l.length c) (hx : a.eval x = y) (hg : w.heap[g]? = some (.cells cs 5 (c, c + 1))) (hcs : cs.size = c) (hat : BytesAt w g c l) (hr : Reads w y ys) (hlim : l.length + ys.length ≤ 140737488355328) (hB : B ≤ g) (hBw : B ≤ w.heap.size)
    (h : ∀ v' w', Reads w' v' (l ++ ys) → Below B w w' → SoftV w' B v' (l.length + ys.length) → wpList Tryd.prog ops Q rest (a.put o.dst v') w') : wpList Tryd.prog ops Q (o :: rest) a w := by
  refine wpList_plain hgd fun K hK => ?_
  obtain ⟨v', w', hrun, h2, h3, h4⟩ := run_append_conv w o.type hg hcs hat hr hlim hB hBw
  unfold Oper.wp execOp
  simp only [ho, resolve, invoke, builtin, Sem.run_bind, Sem.run_pure, Result.andThen_ok, List.map_toArray, List.map_cons, List.map_nil, hs, hx, hrun]
  exact hK _ _ (h v' w' h2 h3 h4)
def AddEnd (r : Nat ⊕ List UInt8) (d : List UInt8) (w : World) (e : Ending) (w' : World) : Prop :=
  Below w.heap.size w w' ∧ match r with
    | .inl code => e = .returned (.tuple #[.slice none 0 0, .int .i64 (code : Int)])
    | .inr l => ∃ v, e = .returned (.tuple #[v, .int .i64 0]) ∧ Reads w' v (l ++ d) ∧ SoftV w' w.heap.size v (l.length + d.length)
theorem write_code (nm bd : List UInt8) : (∃ code, writeOf nm bd = .inl code ∧ code ≠ 0) ∨ ∃ l, writeOf nm bd = .inr l ∧ l = fieldB nm bd := by
  unfold writeOf
  split
  · split
    · exact Or.inl ⟨_, rfl, by omega⟩
    · split
      · exact Or.inl ⟨_, rfl, by omega⟩
      · exact Or.inr ⟨_, rfl, rfl⟩
  · exact Or.inl ⟨_, rfl, by omega⟩
theorem field_len (nm bd : List UInt8) : (fieldB nm bd).length ≤ nm.length + 3 * (bd.length + 1) + 4 := by
  have := fold_le bd ((nm.length + 2 : Nat) : Int)
  unfold fieldB
  simp only [List.length_append, List.length_cons, List.length_nil]
  omega
set_option maxHeartbeats 8000000 in
set_option maxRecDepth 100000 in
theorem rAdd (v : Value) (d : List UInt8) (nm bd : ByteArray) (w : World) (hd : Reads w v d) (hdl : d.length ≤ 100000000000000) (hn : nm.size ≤ 1000000000000) (hs : bd.size ≤ 1000000000000) : Calls Tryd.prog 17 #[v, .string nm, .string bd] w (AddEnd (writeOf nm.data.toList bd.data.toList) d w) := by
  have HW := Lib.hid (rWrite nm bd w hn hs)
  have HD := Lib.hid hd
  have hfl := field_len nm.data.toList bd.data.toList
  rw [str_len, str_len] at hfl
  rcases write_code nm.data.toList bd.data.toList with ⟨code, hc, hc0⟩ | ⟨l, hc, hcl⟩
  · rw [hc] at HW ⊢
    have HC2 : Hid (Calls Tryd.prog 15 #[.string nm, .string bd] w fun e w' => e = .returned (.tuple #[.slice none 0 0, .int .i64 (code : Int)]) ∧ Below w.heap.size w w') := HW.out.mono fun e w' h => ⟨h.2, h.1⟩
    have j1 : ((code : Int) != 0) = true := by rw [bne_iff_ne]; omega
    clear HW hc hd hfl hc0
    go_enter Tryd.func17, Tryd.ntmps17
    go_wp2_with (first | (go_at_call 15; refine HC2.out.mono ?_; rintro ee w1 ⟨rfl, hb1⟩; refine Hid.out ?_) | fail)
    refine Lib.hid ?_
    have HB1 := Lib.hid hb1
    clear hb1
    go_wp2
    go_ret2
    exact ⟨HB1.out, rfl⟩
  · rw [hc] at HW ⊢
    rw [← hcl] at hfl
    have HC2 : Hid (Calls Tryd.prog 15 #[.string nm, .string bd] w fun e w' => ∃ g c, e = .returned (.tuple #[.slice (some ⟨g, 0, none⟩) l.length c, .int .i64 0]) ∧ w.heap.size ≤ g ∧ BytesAt w' g c l ∧ (∃ cs : Array Value, w'.heap[g]? = some (.cells cs 5 (c, c + 1)) ∧ cs.size = c) ∧ Below w.heap.size w w') := HW.out.mono fun e w' h => by
      obtain ⟨h1, g, c, h2, h3, h4, h5⟩ := h
      exact ⟨g, c, h2, h3, h4, h5, h1⟩
    clear HW hc hd hcl
    go_enter Tryd.func17, Tryd.ntmps17
    go_wp2_with (first | (go_at_call 15; refine HC2.out.mono ?_; rintro ee w1 ⟨g, c, rfl, hg, hat, ⟨cs, h1, h2⟩, hb1⟩; refine Hid.out ?_) | fail)
    refine Lib.hid ?_
    have HB1 := Lib.hid hb1
    have HAT := Lib.hid hat
    have HG := Lib.hid hg
    have HH := Lib.hid h1
    have HH2 := Lib.hid h2
    clear hb1 hat hg h1 h2
    go_wp2_with (at_builtin; go_must (refine wp_append_conv rfl _ _ rfl (B := w.heap.size) rfl rfl HH.out HH2.out HAT.out (HD.out.on HB1.out) (by omega) HG.out HB1.out.size ?_); intro v2 w2 rd2 b2 sf2; refine Hid.out ?_)
    refine Lib.hid ?_
    have HR2 := Lib.hid rd2
    have HS2 := Lib.hid sf2
    have HB2 : Hid (Below w.heap.size w w2) := HB1.out.trans b2
    clear rd2 b2 sf2
    go_wp2
    go_ret2
    exact ⟨HB2.out, _, rfl, HR2.out, HS2.out⟩
end Go.Proofs.YtnogpoojhhmadaaDoor.Header
