/-
  TABLE: what every row of this layer shares: how arguments are opened, the library's variables, the witness.
-/
import Derived.Test.YtbgdohggdaoojaaDoorTabWal
import Derived.Test.YtbgdohggdaoojaaDoorRows
import Derived.ProofKit
import Derived.OpenShut
import Derived.ShutString
import Derived.ChangeOld
import Derived.Deep.DeepHandedRow
import Derived.Deep.Slices
import Derived.Deep.Strs
import Derived.Lib.LaidTab
import Derived.Stop.LaidErr
import Derived.MakeChecks
import Derived.LaidMore
import Derived.Shelf.Vars
import Derived.Lay
import Derived.PinnedBridge
namespace Go.Proofs.YtbgdohggdaoojaaDoor.Table
open Go.ChangeShapes Go.WideShapes Go.ChangeAt Go.RowKit Base
open Go.ChangeMaps (open_string shut_string)
theorem own : ownKnob Tryd.prog.godebug = none := by kernel_rfl
theorem laidOut : laidOutB Tryd.prog = true := by kernel_rfl
theorem cells43 : Tryd.prog.cellsOf 43 = 3 := by kernel_rfl
theorem bytes43 : Tryd.prog.bytesOf 43 = 48 := by kernel_rfl
theorem cellsStr : Tryd.prog.cellsOf 9 = 1 := by kernel_rfl
set_option maxRecDepth 100000 in
theorem max_of {W : World} (hsh : W.ShapedOpen Tryd.prog) : MaxOk W := by
  have h0 : ((begin Tryd.prog (fun _ _ => 0) default).world.heap[0]?).bind Obj.row? = some (#[.int .i64 0], 3) := by kernel_rfl
  obtain ⟨cs, hh, hs, hr⟩ := hsh.1 0 _ 3 (of_decide_eq_true (by kernel_rfl)) h0
  obtain ⟨ts, hts, _, hall⟩ := hr (by kernel_rfl)
  rw [show Tryd.prog.cellTypes Tryd.prog.depth 3 = some [3] by kernel_rfl] at hts
  cases hts
  have h1 : 0 < cs.size := by rw [hs]; decide
  obtain ⟨u, hu, hok⟩ := hall 0 cs[0] (by simp [h1])
  have hu3 : u = 3 := by simpa using hu.symm
  subst hu3
  have hv : ∃ m, cs[0] = .int .i64 m := by
    simp only [Cell.ok, Tryd.underlying3] at hok
    split at hok <;> simp_all
  obtain ⟨m, hm⟩ := hv
  refine ⟨m, ?_⟩
  simp [World.cell?, hh, h1, hm]
abbrev laidL : List (String × DataW Unit) := [("unicode/utf8.acceptRanges", Rows.laid_unicode_utf8_acceptRanges), ("unicode/utf8.first", Rows.laid_unicode_utf8_first)]
theorem env_of {W : World} (_h : laidMetH Tryd.prog laidL W) (hsh : W.ShapedOpen Tryd.prog) : MaxOk W := max_of hsh
/-- THE WITNESS: a world in which all the listed variables are laid. -/
theorem laid_met (os : Os) (args : Array Value) : laidMetH Tryd.prog laidL ((World.laidAll Tryd.prog os laidL).forCall (fun _ _ => 0) ⟨#[], args, []⟩).memory := by
  rw [MakeChecks.laidMetH_plain _ _ _ (by kernel_rfl)]
  exact laidMet_laidAll _ (by kernel_rfl) (by kernel_rfl)
theorem laid_shaped (os : Os) (args : Array Value) : ((World.laidAll Tryd.prog os laidL).forCall (fun _ _ => 0) ⟨#[], args, []⟩).Shaped Tryd.prog :=
  World.shaped_of_ZipB (by kernel_rfl) (by kernel_rfl)
theorem witness_laid {H : Type} {enc : TypeId × Value → H} {C : Checked} {os : Os} {f : FuncId} {fn : Func} {s : OpenSpec} {conds : List PathCond} {apart : Bool} {laid : List (String × DataW Unit)} (w0 : World) (args : Array Value) (hos : w0.os = os)
    (hsh : (w0.forCall (fun _ _ => 0) ⟨#[], args, []⟩).Shaped C.prog)
    (hok : Input.okWideB C.prog (w0.forCall (fun _ _ => 0) ⟨#[], args, []⟩) f ⟨#[], args, []⟩ = true)
    (hrow : s.preRow enc C.prog fn conds apart laid (w0.forCall (fun _ _ => 0) ⟨#[], args, []⟩).memory args) :
    ∃ (w : World) (tape : Tape) (i : Input), w.os = os ∧ (w.forCall tape i).Shaped C.prog ∧ i.vars = [] ∧ Input.okWide C.prog (w.forCall tape i) .any w.heap.size f i ∧
      s.preRow enc C.prog fn conds apart laid (w.forCall tape i).memory i.args ∧ ({} : Assume).holds C.prog (lone (Frame.enter C.prog f i.args .normal) [] (w.forCall tape i)) :=
  ⟨w0, fun _ _ => 0, ⟨#[], args, []⟩, hos, hsh, (Input.okWide_of_okWideB (base := 0) hok).1, (Input.okWide_of_okWideB hok).2, hrow, by
    simp only [Assume.holds]
    exact ⟨by simp, by simp, fun _ => Modest.zero, by simp, by simp⟩⟩
theorem mem_weightsAll {H : Type} {P : Program} {e : TypeId} {n : Nat} : ∀ {l : List (DataW H)} {d : DataW H}, d ∈ l → n ∈ d.weights P e → n ∈ DataW.weightsAll P e l := by
  intro l
  induction l with
  | nil => intro d h; cases h
  | cons a t ih =>
    intro d h hn
    simp only [DataW.weightsAll, List.mem_append]
    rcases List.mem_cons.1 h with rfl | h
    · exact Or.inl hn
    · exact Or.inr (ih h hn)
theorem trod_str {H : Type} {enc : TypeId × Value → H} {W : World} {n : Nat} {cs : List Value} {y : DataW H × List MemPlace} (h : DataW.trod enc Tryd.prog W 0 (fun _ => true) true n 9 cs = some y) : ∃ S : ByteArray, cs = [.string S] ∧ y.1 = .lit (.string S.data.toList) := by
  obtain ⟨S, hS, hyS, _⟩ := DataW.trod_string Tryd.underlying9 h
  exact ⟨S, hS, by rw [hyS]⟩
/-- A size of a query's text. -/
theorem weight_field {H : Type} {d0 d1 d2 : DataW H} {j : Nat} {S : ByteArray} (hd : [d0, d1, d2][j]? = some (.lit (.string S.data.toList))) : S.data.toList.length ∈ (DataW.agg [d0, d1, d2]).weights Tryd.prog 43 := by
  simp only [DataW.weights, Tryd.underlying43]
  have hj : j < 3 := (List.getElem?_eq_some_iff.1 hd).1
  refine DataW.weights_mem_each (j := j) (t := 9) (d := .lit (.string S.data.toList)) ?_ hd _ (by simp [DataW.weights])
  rcases (by omega : j = 0 ∨ j = 1 ∨ j = 2) with rfl | rfl | rfl <;> rfl
set_option maxRecDepth 100000 in
/-- Queries that came in. -/
theorem open_queries {H : Type} {enc : TypeId × Value → H} {W : World} {v : Value} {d : DataW H} {p : List MemPlace} (h : DataW.Trod enc Tryd.prog W 0 (fun _ => true) true 22 v d p)
    {ts : List TypeId} {ds : List (DataW H)} (hsz : (DataW.weightsEach Tryd.prog ts ds).all (· ≤ reachBytes) = true) {j : Nat} (ht : ts[j]? = some 22) (hd : ds[j]? = some d) (hv : ∃ a n c, v = .slice a n c) :
    ∃ A n c, v = .slice A n c ∧ QS W A n ∧ n * 48 ≤ 140737488351232 := by
  obtain ⟨a0, n0, c0, rfl⟩ := hv
  obtain ⟨fuel, hf⟩ := h
  have er : reachBytes = 140737488351232 := rfl
  rcases Go.Deep.open_slice Tryd.underlying22 hf with ⟨hcs, hx⟩ | ⟨a, len, cap, m, k0, D, Pl, hcs, _, hl, hm, hmm, hx, hi⟩
  · simp [Value.cells] at hcs
    obtain ⟨rfl, rfl, rfl⟩ := hcs
    exact ⟨none, 0, 0, rfl, fun k h => by omega, by simp⟩
  · simp [Value.cells] at hcs
    obtain ⟨rfl, rfl, rfl⟩ := hcs
    simp only [if_true] at hmm
    subst hmm
    have hd1 : d = .slice ((List.range n0).map D) ((List.range (m - n0)).map fun j => D (n0 + j)) := by have := congrArg Prod.fst hx; exact this
    rw [hd1] at hd
    have hs := sized_slice hsz ht hd Tryd.underlying22
    rw [bytes43] at hs
    simp only [List.length_map, List.length_range] at hs
    refine ⟨some a, n0, _, rfl, fun i hil => ?_, by omega⟩
    obtain ⟨cs', hcs, htr⟩ := hi i (by omega)
    rw [cells43] at hcs
    obtain ⟨_, hcl, hat⟩ := World.cells?_some hcs
    obtain ⟨y0, y1, y2, k1, hD, _, ht0, ht1, ht2⟩ := Go.Deep.trod_struct3 Tryd.underlying43 htr
    obtain ⟨u0, u1, u2, rfl⟩ : ∃ u0 u1 u2, cs' = [u0, u1, u2] := by
      match cs', hcl with
      | [u0, u1, u2], _ => exact ⟨u0, u1, u2, rfl⟩
    have hc0 : W.cell? ((a.add (i * 3)).add 0) = some u0 := hat 0 (by omega)
    have hc1 : W.cell? ((a.add (i * 3)).add 1) = some u1 := hat 1 (by omega)
    have hc2 : W.cell? ((a.add (i * 3)).add 2) = some u2 := hat 2 (by omega)
    rw [cellsStr] at ht0 ht1 ht2
    have hD1 : D i = .agg [y0.1, y1.1, y2.1] := by have := congrArg Prod.fst hD; exact this
    obtain ⟨S0, hS0, e0⟩ := trod_str ht0
    obtain ⟨S1, hS1, e1⟩ := trod_str ht1
    obtain ⟨S2, hS2, e2⟩ := trod_str ht2
    simp at hS0 hS1 hS2
    subst hS0 hS1 hS2
    have small : ∀ S : ByteArray, S.data.toList.length ∈ (D i).weights Tryd.prog 43 → S.size ≤ 140737488355328 := by
      intro S hmem
      have h2 : S.data.toList.length ∈ DataW.weightsEach Tryd.prog ts ds := by
        refine DataW.weights_mem_each ht hd _ ?_
        simp only [DataW.weights, Tryd.underlying22, List.mem_cons, List.mem_append]
        exact Or.inr (Or.inl (mem_weightsAll (List.mem_map.2 ⟨i, List.mem_range.2 hil, rfl⟩) hmem))
      have h3 := List.all_eq_true.1 hsz _ h2
      have h4 : S.data.toList.length = S.size := Array.length_toList
      simp [er] at h3
      omega
    have s0 := small S0 (by rw [hD1]; exact weight_field (j := 0) (by rw [e0]; rfl))
    have s1 := small S1 (by rw [hD1]; exact weight_field (j := 1) (by rw [e1]; rfl))
    have s2 := small S2 (by rw [hD1]; exact weight_field (j := 2) (by rw [e2]; rfl))
    obtain ⟨ab, ao, spot⟩ := a
    have hspot : spot = none := by
      obtain ⟨cs0, hcs0, _⟩ := hi 0 (by omega)
      rw [cells43] at hcs0
      obtain ⟨_, hcl0, hat0⟩ := World.cells?_some hcs0
      have := (hat0 0 (by omega)).trans (List.getElem?_eq_getElem (by omega))
      simpa [Addr.add] using World.cell?_spot this
    subst hspot
    rw [Addr.add_lit, Addr.add_lit] at hc0 hc1 hc2
    have hlt : ab < W.heap.size := by
      cases hb : W.heap[ab]? with
      | none => simp [World.cell?, hb] at hc0
      | some o => exact (Array.getElem?_eq_some_iff.1 hb).1
    exact ⟨ab, ao, S0, S1, S2, rfl, by simpa using hc0, hc1, hc2, hlt, s0, s1, s2⟩
end Go.Proofs.YtbgdohggdaoojaaDoor.Table
