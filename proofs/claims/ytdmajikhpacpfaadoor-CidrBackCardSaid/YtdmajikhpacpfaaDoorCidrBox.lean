/-
  CIDR: ranges in boxes: stored whole, one byte stored, told as a result.
-/
import Derived.Test.YtdmajikhpacpfaaDoorCidrNet
namespace Go.Proofs.YtdmajikhpacpfaaDoor.Cidr
open Go.RowKit Base
def zeroN : NetM := ⟨false, 0, List.replicate 16 0⟩
abbrev netL (n : NetM) : List Value := .bool n.six :: .int .i64 n.bits :: n.a.map B8
theorem netL_one (n : NetM) : ∀ v ∈ netL n, v.oneCell' = true := fun v hv => by
  simp only [List.mem_cons, List.mem_map] at hv
  rcases hv with rfl | rfl | ⟨x, _, rfl⟩ <;> rfl
theorem netC_all (n : NetM) : (netC n).all (·.oneCell') = true := all_oneCell_toArray (netL_one n)
theorem netC_size {n : NetM} (ha : n.a.length = 16) : (netC n).size = 18 := by simp [ha]
theorem size25c {n : NetM} (ha : n.a.length = 16) : (Tryd.prog.info? 25).map (·.size) = some (netC n).size := by rw [size25, netC_size ha]
/-- Cells of a row, written from o on. -/
def setL (cur : Array Value) : Nat → List Value → Array Value
  | _, [] => cur
  | o, v :: r => setL (cur.setIfInBounds o v) (o + 1) r
theorem setL_size : ∀ (vs : List Value) (o : Nat) (cur : Array Value), (setL cur o vs).size = cur.size
  | [], _, _ => rfl
  | v :: r, o, cur => by unfold setL; rw [setL_size r]; simp
theorem setL_out : ∀ (vs : List Value) (o : Nat) (cur : Array Value) (j : Nat), j < o → (setL cur o vs)[j]? = cur[j]?
  | [], _, _, _, _ => rfl
  | v :: r, o, cur, j, h => by
    unfold setL
    rw [setL_out r (o + 1) _ j (by omega), Array.getElem?_setIfInBounds, if_neg (by omega)]
theorem setL_in : ∀ (vs : List Value) (o : Nat) (cur : Array Value) (j : Nat), j < vs.length → o + vs.length ≤ cur.size → (setL cur o vs)[o + j]? = vs[j]?
  | [], _, _, _, h, _ => by simp at h
  | v :: r, o, cur, j, h, hs => by
    unfold setL
    simp at hs
    cases j with
    | zero =>
      rw [setL_out r (o + 1) _ (o + 0) (by omega), Array.getElem?_setIfInBounds]
      simp
      omega
    | succ j =>
      have := setL_in r (o + 1) (cur.setIfInBounds o v) j (by simpa using h) (by simp; omega)
      rw [show o + (j + 1) = o + 1 + j by omega, this]
      simp
theorem setL_whole (vs : List Value) (cur : Array Value) (h : cur.size = vs.length) : setL cur 0 vs = vs.toArray := by
  apply Array.ext_getElem?
  intro j
  rcases Nat.lt_or_ge j vs.length with hj | hj
  · have := setL_in vs 0 cur j hj (by omega)
    rw [Nat.zero_add] at this
    rw [this]; simp
  · rw [Array.getElem?_eq_none (by rw [setL_size]; omega)]
    simp [hj]
theorem heap_setCells (b : Nat) (t : TypeId) (fz : Nat × Nat) : ∀ (vs : List Value) (o : Nat) (w : World) (cur : Array Value), w.heap[b]? = some (.cells cur t fz) → (w.setCells b o vs).heap[b]? = some (.cells (setL cur o vs) t fz)
  | [], _, _, _, h => h
  | v :: r, o, w, cur, h => by
    unfold setL
    exact heap_setCells b t fz r (o + 1) _ _ (heap_setCell_any w b o cur t fz v h)
theorem keep_setCells (b : Nat) : ∀ (vs : List Value) (o : Nat) (w : World), KeepX b w (w.setCells b o vs) ∧ (w.setCells b o vs).heap.size = w.heap.size
  | [], _, w => ⟨KeepX.refl _ _, rfl⟩
  | v :: r, o, w => by
    obtain ⟨h1, h2⟩ := keep_setCells b r (o + 1) (w.setCell ⟨b, o, none⟩ v)
    exact ⟨(KeepX.set b w o v).trans h1, h2.trans (by simp [World.setCell])⟩
theorem there_of {w : World} {b : Nat} {cur : Array Value} {t : TypeId} (h : w.heap[b]? = some (.cells cur t (0, 0))) {n : Nat} (hn : n ≤ cur.size) : w.there b 0 n := fun j hj => by
  refine ⟨?_, by simp [World.frozen?, h]⟩
  rw [Nat.zero_add, cell_of_row w b j _ _ _ h, Array.getElem?_eq_getElem (by omega)]; rfl
/-- A range stored whole. -/
theorem net_put {w w2 : World} {b : Nat} {cur : Array Value} (h : w.heap[b]? = some (.cells cur 25 (0, 0))) (hs : cur.size = 18) {n : NetM} (ha : n.a.length = 16) (hw : w.setCells b 0 (netC n).toList = w2) : NetAt w2 b n ∧ KeepX b w w2 ∧ w2.heap.size = w.heap.size := by
  subst hw
  have h1 := heap_setCells b 25 (0, 0) (netC n).toList 0 w cur h
  rw [setL_whole _ _ (by rw [hs]; simp [ha])] at h1
  exact ⟨by simpa [NetAt] using h1, (keep_setCells b _ 0 w).1, (keep_setCells b _ 0 w).2⟩
/-- One byte stored. -/
theorem NetAt.setA {w : World} {b : Nat} {n : NetM} (h : NetAt w b n) (k : Nat) (x : UInt8) : NetAt (w.setCell ⟨b, 2 + k, none⟩ (B8 x)) b { n with a := n.a.set k x } := by
  have h1 := heap_setCell_any w b (2 + k) _ _ _ (B8 x) h
  unfold NetAt
  rw [h1]
  congr 2
  apply Array.toList_inj.1
  rw [show 2 + k = k + 1 + 1 by omega]
  simp [List.map_set]
theorem NetAt.cellA {w : World} {b : Nat} {n : NetM} (h : NetAt w b n) {k : Nat} (hk : k < n.a.length) : w.cell? ⟨b, 2 + k, none⟩ = some (.int .u8 ((n.a.getD k 0).toNat : Int)) ∧ w.frozen? ⟨b, 2 + k, none⟩ = false := by
  refine ⟨?_, by simp [World.frozen?, show w.heap[b]? = _ from h]⟩
  have := h.range k (B8 (n.a.getD k 0)) (by simp [List.getElem?_eq_getElem hk])
  exact this
theorem NetAt.kept {w w' : World} {b g : Nat} {n : NetM} (h : NetAt w b n) (hk : KeepX g w w') (hne : b ≠ g) : NetAt w' b n := (hk.block b (heap_lt h) hne).trans h
theorem results_net {w : World} {fn : Func} {tmps : Array Value} {i j b : Nat} {n : NetM} {v : Value} (hr : fn.results = #[ResultVar.cell i 25, ResultVar.tmp j]) (h1 : tmps.getD i undef = .pointer (some ⟨b, 0, none⟩)) (h2 : tmps.getD j undef = v) (hat : NetAt w b n) (ha : n.a.length = 16) :
    (results fn tmps).run Tryd.prog w = .ok (.tuple #[netV n, v]) w := by
  have hl := run_loadVar_mid w b 0 25 (netL n) _ hat.range0 Tryd.underlying25 rfl (size25_of ha)
  unfold results
  rw [hr]
  rw [Array.getD_eq_getD_getElem?] at h1 h2
  simp [h1, h2, hl, asAddr]
end Go.Proofs.YtdmajikhpacpfaaDoor.Cidr
