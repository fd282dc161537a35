/-
  TABLE: rows of texts, and of entries, that came in; a chain's statement for its row.
-/
import Derived.Test.YtbgdohggdaoojaaDoorTabChW
import Derived.Test.YtbgdohggdaoojaaDoorTabFrame
namespace Go.Proofs.YtbgdohggdaoojaaDoor.Table
open Go.ChangeShapes Go.WideShapes Go.ChangeAt Go.RowKit Base
open Go.ChangeMaps (open_string shut_string)
theorem lt_of_cellT {w : World} {b o : Nat} {v : Value} (h : w.cell? ⟨b, o, none⟩ = some v) : b < w.heap.size := by
  cases hb : w.heap[b]? with
  | none => simp [World.cell?, hb] at h
  | some o => exact (Array.getElem?_eq_some_iff.1 hb).1
set_option maxRecDepth 100000 in
/-- Texts that came in. -/
theorem open_strings {H : Type} {enc : TypeId × Value → H} {W : World} {v : Value} {d : DataW H} {p : List MemPlace} (h : DataW.Trod enc Tryd.prog W 0 (fun _ => true) true 45 v d p)
    {ts : List TypeId} {ds : List (DataW H)} (hsz : (DataW.weightsEach Tryd.prog ts ds).all (· ≤ reachBytes) = true) {j : Nat} (ht : ts[j]? = some 45) (hd : ds[j]? = some d) (hv : ∃ a n c, v = .slice a n c) :
    ∃ A n c, v = .slice A n c ∧ TS W A n ∧ n * 16 ≤ 140737488351232 := by
  obtain ⟨a0, n0, c0, rfl⟩ := hv
  obtain ⟨fuel, hf⟩ := h
  have er : reachBytes = 140737488351232 := rfl
  rcases Go.Deep.open_slice Tryd.underlying45 hf with ⟨hcs, hx⟩ | ⟨a, len, cap, m, k0, D, Pl, hcs, _, hl, hm, hmm, hx, hi⟩
  · simp [Value.cells] at hcs
    obtain ⟨rfl, rfl, rfl⟩ := hcs
    exact ⟨none, 0, 0, rfl, fun k h => by omega, by simp⟩
  · simp [Value.cells] at hcs
    obtain ⟨rfl, rfl, rfl⟩ := hcs
    simp only [if_true] at hmm
    subst hmm
    have hd1 : d = .slice ((List.range n0).map D) ((List.range (m - n0)).map fun j => D (n0 + j)) := by have := congrArg Prod.fst hx; exact this
    rw [hd1] at hd
    have hs := sized_slice hsz ht hd Tryd.underlying45
    rw [show Tryd.prog.bytesOf 9 = 16 by kernel_rfl] at hs
    simp only [List.length_map, List.length_range] at hs
    refine ⟨some a, n0, _, rfl, fun i hil => ?_, by omega⟩
    have hel : ∀ i, i < n0 → ∃ S : ByteArray, W.cell? ((a.add (i * 1)).add 0) = some (.string S) := by
      intro i hil
      obtain ⟨cs', hcs, htr⟩ := hi i (by omega)
      rw [cellsStr] at hcs
      obtain ⟨_, hcl, hat⟩ := World.cells?_some hcs
      obtain ⟨S0, hS0, _⟩ := trod_str htr
      subst hS0
      exact ⟨S0, hat 0 (by omega)⟩
    obtain ⟨S0, hc0⟩ := hel i hil
    obtain ⟨ab, ao, spot⟩ := a
    have hspot : spot = none := by
      obtain ⟨S1, h1⟩ := hel 0 (by omega)
      simpa [Addr.add] using World.cell?_spot h1
    subst hspot
    rw [Addr.add_lit, Addr.add_lit] at hc0
    have hc1 : W.cell? ⟨ab, ao + i, none⟩ = some (.string S0) := by simpa using hc0
    exact ⟨ab, ao, S0, rfl, lt_of_cellT hc1, hc1⟩
/-- The entries, in their row. -/
def ES (w : World) (ea : Option Addr) (n : Nat) : Prop := ∀ k, k < n → ∃ (gb o : Nat) (kk vv : ByteArray), ea = some ⟨gb, o, none⟩ ∧ gb < w.heap.size ∧ w.cell? ⟨gb, o + k * 2, none⟩ = some (.string kk) ∧ w.cell? ⟨gb, o + k * 2 + 1, none⟩ = some (.string vv) ∧ kk.size ≤ 140737488355328 ∧ vv.size ≤ 140737488355328
theorem ES.on {w w' : World} {ea : Option Addr} {n : Nat} (h : ES w ea n) (hb : Below w.heap.size w w') : ES w' ea n := fun k hk => by
  obtain ⟨gb, o, kk, vv, h1, h2, h3, h4, h5, h6⟩ := h k hk
  exact ⟨gb, o, kk, vv, h1, Nat.lt_of_lt_of_le h2 hb.size, cell_on h3 h2 hb, cell_on h4 h2 hb, h5, h6⟩
theorem weight_field2 {H : Type} {d0 d1 : DataW H} {j : Nat} {S : ByteArray} (hd : [d0, d1][j]? = some (.lit (.string S.data.toList))) : S.data.toList.length ∈ (DataW.agg [d0, d1]).weights Tryd.prog 40 := by
  simp only [DataW.weights, Tryd.underlying40]
  have hj : j < 2 := (List.getElem?_eq_some_iff.1 hd).1
  refine DataW.weights_mem_each (j := j) (t := 9) (d := .lit (.string S.data.toList)) ?_ hd _ (by simp [DataW.weights])
  rcases (by omega : j = 0 ∨ j = 1) with rfl | rfl <;> rfl
set_option maxRecDepth 100000 in
/-- Entries that came in. -/
theorem open_entries {H : Type} {enc : TypeId × Value → H} {W : World} {v : Value} {d : DataW H} {p : List MemPlace} (h : DataW.Trod enc Tryd.prog W 0 (fun _ => true) true 34 v d p)
    {ts : List TypeId} {ds : List (DataW H)} (hsz : (DataW.weightsEach Tryd.prog ts ds).all (· ≤ reachBytes) = true) {j : Nat} (ht : ts[j]? = some 34) (hd : ds[j]? = some d) (hv : ∃ a n c, v = .slice a n c) :
    ∃ A n c, v = .slice A n c ∧ ES W A n ∧ n * 32 ≤ 140737488351232 := by
  obtain ⟨a0, n0, c0, rfl⟩ := hv
  obtain ⟨fuel, hf⟩ := h
  have er : reachBytes = 140737488351232 := rfl
  rcases Go.Deep.open_slice Tryd.underlying34 hf with ⟨hcs, hx⟩ | ⟨a, len, cap, m, k0, D, Pl, hcs, _, hl, hm, hmm, hx, hi⟩
  · simp [Value.cells] at hcs
    obtain ⟨rfl, rfl, rfl⟩ := hcs
    exact ⟨none, 0, 0, rfl, fun k h => by omega, by simp⟩
  · simp [Value.cells] at hcs
    obtain ⟨rfl, rfl, rfl⟩ := hcs
    simp only [if_true] at hmm
    subst hmm
    have hd1 : d = .slice ((List.range n0).map D) ((List.range (m - n0)).map fun j => D (n0 + j)) := by have := congrArg Prod.fst hx; exact this
    rw [hd1] at hd
    have hs := sized_slice hsz ht hd Tryd.underlying34
    rw [show Tryd.prog.bytesOf 40 = 32 by kernel_rfl] at hs
    simp only [List.length_map, List.length_range] at hs
    refine ⟨some a, n0, _, rfl, fun i hil => ?_, by omega⟩
    obtain ⟨cs', hcs, htr⟩ := hi i (by omega)
    rw [show Tryd.prog.cellsOf 40 = 2 by kernel_rfl] at hcs
    obtain ⟨_, hcl, hat⟩ := World.cells?_some hcs
    obtain ⟨y0, y1, k1, hD, _, ht0, ht1⟩ := trod_struct2 Tryd.underlying40 htr
    obtain ⟨u0, u1, rfl⟩ : ∃ u0 u1, cs' = [u0, u1] := by
      match cs', hcl with
      | [u0, u1], _ => exact ⟨u0, u1, rfl⟩
    have hc0 : W.cell? ((a.add (i * 2)).add 0) = some u0 := hat 0 (by omega)
    have hc1 : W.cell? ((a.add (i * 2)).add 1) = some u1 := hat 1 (by omega)
    rw [cellsStr] at ht0 ht1
    have hD1 : D i = .agg [y0.1, y1.1] := by have := congrArg Prod.fst hD; exact this
    obtain ⟨S0, hS0, e0⟩ := trod_str ht0
    obtain ⟨S1, hS1, e1⟩ := trod_str ht1
    simp at hS0 hS1
    subst hS0 hS1
    have small : ∀ S : ByteArray, S.data.toList.length ∈ (D i).weights Tryd.prog 40 → S.size ≤ 140737488355328 := by
      intro S hmem
      have h2 : S.data.toList.length ∈ DataW.weightsEach Tryd.prog ts ds := by
        refine DataW.weights_mem_each ht hd _ ?_
        simp only [DataW.weights, Tryd.underlying34, List.mem_cons, List.mem_append]
        exact Or.inr (Or.inl (mem_weightsAll (List.mem_map.2 ⟨i, List.mem_range.2 hil, rfl⟩) hmem))
      have h3 := List.all_eq_true.1 hsz _ h2
      have h4 : S.data.toList.length = S.size := Array.length_toList
      simp [er] at h3
      omega
    have s0 := small S0 (by rw [hD1]; exact weight_field2 (j := 0) (by rw [e0]; rfl))
    have s1 := small S1 (by rw [hD1]; exact weight_field2 (j := 1) (by rw [e1]; rfl))
    obtain ⟨ab, ao, spot⟩ := a
    have hspot : spot = none := by
      obtain ⟨cs0, hcs0, _⟩ := hi 0 (by omega)
      rw [show Tryd.prog.cellsOf 40 = 2 by kernel_rfl] at hcs0
      obtain ⟨_, hcl0, hat0⟩ := World.cells?_some hcs0
      have := (hat0 0 (by omega)).trans (List.getElem?_eq_getElem (by omega))
      simpa [Addr.add] using World.cell?_spot this
    subst hspot
    rw [Addr.add_lit, Addr.add_lit] at hc0 hc1
    have hc2 : W.cell? ⟨ab, ao + i * 2, none⟩ = some (.string S0) := by simpa using hc0
    exact ⟨ab, ao, S0, S1, rfl, lt_of_cellT hc2, hc2, hc1, s0, s1⟩
theorem wChainsT (A1 : Option Addr) (n1 c1 : Nat) (A2 : Option Addr) (n2 c2 : Nat) (w : World) (ht : TS w A1 n1) (_h1 : n1 * 16 ≤ 140737488351232) (hq : QS w A2 n2) (_h2 : n2 * 48 ≤ 140737488351232) (hm : MaxOk w) :
    Calls Tryd.prog 4 #[.slice A1 n1 c1, .slice A2 n2 c2] w fun e w' => e = .returned (.bool true) ∧ Below w.heap.size w w' := wChains A1 n1 c1 A2 n2 c2 w hm ht hq
end Go.Proofs.YtbgdohggdaoojaaDoor.Table
