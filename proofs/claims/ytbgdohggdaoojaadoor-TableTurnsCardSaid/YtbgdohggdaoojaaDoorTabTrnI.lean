/-
  TABLE, the statement's own of turned entries: what stands while the texts are put together.
-/
import Derived.Test.YtbgdohggdaoojaaDoorTabPln
import Derived.Test.YtbgdohggdaoojaaDoorTabFrm2
import Derived.Deep.RegionHeld3
namespace Go.Proofs.YtbgdohggdaoojaaDoor.Table
open Go.RowKit Base
/-- The entries that are taken. -/
structure OInv (w wr : World) (ov : Value) (O : List KV) : Prop where
  below : Below w.heap.size w wr
  row : wr.ownsRow w.heap.size 40 2 ov O.length (O.flatMap enc2)
  plain : ∀ e ∈ O, PlainE e.1 e.2
  dist : (O.map fun e => lower e.1).Nodup
theorem OInv.start {w wr : World} (hb : Below w.heap.size w wr) : OInv w wr (.slice none 0 0) [] := ⟨hb, World.ownsRow_nil _ _ _ _, fun e h => by simp at h, List.Pairwise.nil⟩
theorem OInv.on {w wr w' : World} {ov : Value} {O : List KV} (h : OInv w wr ov O) (hb : Below wr.heap.size wr w') : OInv w w' ov O :=
  ⟨h.below.trans (hb.mono h.below.size), row_kept h.row fun b hx => hb.block b (World.ownsRow.lt h.row b hx).2, h.plain, h.dist⟩
theorem OInv.form {w wr : World} {ov : Value} {O : List KV} (h : OInv w wr ov O) : ∃ oa oc, ov = .slice oa O.length oc := by
  obtain ⟨oa, oc, e, _⟩ := row_form h.row
  exact ⟨oa, oc, e⟩
theorem OInv.cell {w wr : World} {oa : Option Addr} {oc : Nat} {O : List KV} (h : OInv w wr (.slice oa O.length oc) O) {i : Nat} {e : KV} (he : O[i]? = some e) :
    ∃ g o, oa = some ⟨g, o, none⟩ ∧ wr.cell? ⟨g, o + i * 2, none⟩ = some (S e.1) ∧ wr.cell? ⟨g, o + i * 2 + 1, none⟩ = some (S e.2) :=
  (Rows2.of_row h.row rfl).cell he
theorem OInv.add {w wr w' : World} {ov v' : Value} {O : List KV} {e : KV} (h : OInv w wr ov O) (hr : w'.ownsRow w.heap.size 40 2 v' (O ++ [e]).length ((O ++ [e]).flatMap enc2)) (hb : Below w.heap.size wr w') (hp : PlainE e.1 e.2) (hd : ∀ x ∈ O, lower x.1 ≠ lower e.1) : OInv w w' v' (O ++ [e]) := by
  refine ⟨h.below.trans hb, hr, fun x hx => ?_, ?_⟩
  · rcases List.mem_append.1 hx with hx | hx
    · exact h.plain x hx
    · rw [List.mem_singleton.1 hx]; exact hp
  · rw [List.map_append, List.nodup_append]
    refine ⟨h.dist, List.nodup_cons.2 ⟨by simp, List.Pairwise.nil⟩, fun x hx y hy => ?_⟩
    obtain ⟨z, hz, rfl⟩ := List.mem_map.1 hx
    simp at hy
    subst hy
    exact hd z hz
theorem rows2_str (w : World) (kk vv : ByteArray) : Rows2 (w.alloc (.cells #[.string kk, .string vv] 40)) (.slice (some ⟨w.heap.size, 0, none⟩) 1 1) [(kk.data.toList, vv.data.toList)] := rows2_one w (kk.data.toList, vv.data.toList) 40
/-- Two cells that a region reads, while it calls. -/
theorem two_start {w : World} {p1 p2 : Addr} {v1 v2 : Value} (h1 : w.cell? p1 = some v1) (h2 : w.cell? p2 = some v2) : Below w.heap.size w w.drew ∧ w.drew.cell? p1 = some v1 ∧ w.drew.cell? p2 = some v2 := ⟨⟨rfl, rfl, rfl, Nat.le_refl _, fun _ _ => rfl⟩, h1, h2⟩
theorem two_keep {w0 w1 w2 : World} {p1 p2 : Addr} {v1 v2 : Value} (h : Below w0.heap.size w0 w1 ∧ w1.cell? p1 = some v1 ∧ w1.cell? p2 = some v2) (hb : Below w1.heap.size w1 w2) : Below w0.heap.size w0 w2 ∧ w2.cell? p1 = some v1 ∧ w2.cell? p2 = some v2 :=
  ⟨h.1.trans (hb.mono h.1.size), (hb.cell (World.block_lt_of_cell? w1 _ h.2.1)).trans h.2.1, (hb.cell (World.block_lt_of_cell? w1 _ h.2.2)).trans h.2.2⟩
theorem blank_one : BlankS [32] := ⟨by simp, fun c hc => (by simp at hc; subst hc; rfl)⟩
theorem blank_more {bl : ByteArray} {m : List UInt8} {q : Nat} (hq : q < bl.size) (h : BlankS m) (hb : bl[q].toNat = 32 ∨ bl[q].toNat = 9) : BlankS (m ++ [bl[q]]) := by
  refine ⟨by simp, fun c hc => ?_⟩
  rcases List.mem_append.1 hc with hc | hc
  · exact h.2 c hc
  · rw [List.mem_singleton.1 hc]
    unfold isBl
    exact decide_eq_true hb
theorem more_step (bl : ByteArray) (m : List UInt8) (q : Nat) (hq : q < bl.size) : Value.string (⟨m.toArray⟩ ++ bl.extract q (q + 1)) = S (m ++ [bl[q]]) := by
  have hql : q < bl.data.toList.length := by rw [str_len]; exact hq
  have e : (bl.extract q (q + 1)).data.toList = [bl[q]] := by
    rw [extract_bytes, List.take_succ_eq_append_getElem hql, List.drop_append_of_le_length (by rw [List.length_take]; omega), str_getL bl q hq hql]
    simp
  rw [S_app, e]
/-! ### The texts -/
theorem one_zero : (⟨#[]⟩ : ByteArray).data.toList = textOf (linesOne []) := rfl
theorem two_zero (m : List UInt8) : (⟨#[35, 32, 99, 111, 109, 109, 101, 110, 116, 10, 32, 9, 10]⟩ : ByteArray).data.toList = textOf (linesTwo m []) := rfl
theorem one_step {a : ByteArray} {O : List KV} {j : Nat} {e : KV} (h : a.data.toList = textOf (linesOne (O.take j))) (he : O[j]? = some e) : (a ++ ⟨e.1.toArray⟩ ++ ⟨#[32]⟩ ++ ⟨e.2.toArray⟩ ++ ⟨#[10]⟩).data.toList = textOf (linesOne (O.take (j + 1))) := by
  have hj := (List.getElem?_eq_some_iff.1 he).1
  rw [List.take_succ_eq_append_getElem hj, (List.getElem?_eq_some_iff.1 he).2]
  unfold linesOne at h ⊢
  rw [List.map_append, textOf_app, ← h]
  simp [textOf, lineE]
theorem two_step {a : ByteArray} {O : List KV} {m : List UInt8} {j : Nat} {e : KV} (h : a.data.toList = textOf (linesTwo m (O.take j))) (he : O[j]? = some e) : (a ++ ⟨e.1.toArray⟩ ++ ⟨m.toArray⟩ ++ ⟨e.2.toArray⟩ ++ ⟨m.toArray⟩ ++ ⟨#[10, 32, 32, 35, 32, 120, 10, 10]⟩).data.toList = textOf (linesTwo m (O.take (j + 1))) := by
  have hj := (List.getElem?_eq_some_iff.1 he).1
  rw [List.take_succ_eq_append_getElem hj, (List.getElem?_eq_some_iff.1 he).2]
  unfold linesTwo at h ⊢
  rw [List.flatMap_append, ← List.append_assoc, textOf_app, ← h]
  simp [textOf, lineE, tailC]
theorem arr_sizeT (l : List UInt8) : (⟨l.toArray⟩ : ByteArray).size = l.length := by show l.toArray.size = _; simp
theorem one_size {a : ByteArray} {q : Nat} {k v : List UInt8} (h : a.size ≤ q * 1400) (h1 : k.length ≤ 320) (h2 : v.length ≤ 1000) : (a ++ ⟨k.toArray⟩ ++ ⟨#[32]⟩ ++ ⟨v.toArray⟩ ++ ⟨#[10]⟩).size ≤ (q + 1) * 1400 := by
  rw [ByteArray.size_append, ByteArray.size_append, ByteArray.size_append, ByteArray.size_append, arr_sizeT k, arr_sizeT v, show (⟨#[32]⟩ : ByteArray).size = 1 from rfl, show (⟨#[10]⟩ : ByteArray).size = 1 from rfl]
  omega
theorem two_size {a : ByteArray} {q : Nat} {k v m : List UInt8} (h : a.size ≤ 13 + q * 1400) (h1 : k.length ≤ 320) (h2 : v.length ≤ 1000) (hm : m.length ≤ 21) : (a ++ ⟨k.toArray⟩ ++ ⟨m.toArray⟩ ++ ⟨v.toArray⟩ ++ ⟨m.toArray⟩ ++ ⟨#[10, 32, 32, 35, 32, 120, 10, 10]⟩).size ≤ 13 + (q + 1) * 1400 := by
  rw [ByteArray.size_append, ByteArray.size_append, ByteArray.size_append, ByteArray.size_append, ByteArray.size_append, arr_sizeT k, arr_sizeT m, arr_sizeT v, show (⟨#[10, 32, 32, 35, 32, 120, 10, 10]⟩ : ByteArray).size = 8 from rfl]
  omega
/-- The order in which the other text has them. -/
def turnE (O : List KV) (turn : Int) : List KV := if 0 < turn then rotE O (turn.toNat % O.length) else O
theorem turn_perm (O : List KV) (turn : Int) : (turnE O turn).Perm O := by
  unfold turnE
  split
  · cases O with
    | nil => simp [rotE]
    | cons x r => exact rot_perm (Nat.mod_lt _ (by simp))
  · exact List.Perm.refl _
theorem turn_at {O : List KV} {p j : Nat} (hp : 0 < p) (hj : j < O.length) : (turnE O (p : Int))[j]? = O[(j + p % O.length) % O.length]? := by
  have hn : 0 < O.length := by omega
  unfold turnE
  rw [if_pos (by omega), Int.toNat_natCast]
  have hq : (j + p % O.length) % O.length < O.length := Nat.mod_lt _ hn
  rw [List.getElem?_eq_getElem hq]
  unfold rotE
  rw [List.getElem?_map, List.getElem?_range hj, Option.map_some, List.getD_eq_getElem?_getD, List.getElem?_eq_getElem hq]; rfl
theorem turn_zero {O : List KV} {turn : Int} (h : ¬ 0 < turn) : turnE O turn = O := if_neg h
/-- Behind the reading of both texts. -/
structure RInv (w wr : World) (b c : Nat) (U : List KV) : Prop where
  bel : Below w.heap.size w wr
  tb : TabAt 82 wr b U
  tc : TabAt 82 wr c U
theorem RInv.on {w wr w2 : World} {b c : Nat} {U : List KV} (h : RInv w wr b c U) (hb : Below wr.heap.size wr w2) : RInv w w2 b c U := ⟨h.bel.trans (hb.mono h.bel.size), h.tb.on hb, h.tc.on hb⟩
end Go.Proofs.YtbgdohggdaoojaaDoor.Table
