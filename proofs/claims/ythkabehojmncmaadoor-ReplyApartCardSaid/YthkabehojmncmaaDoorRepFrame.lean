/-
  REPLY: what every row of this layer shares: the listed variables, the witness, how arguments are opened.
-/
import Derived.Test.YthkabehojmncmaaDoorRepPrt
import Derived.Test.YthkabehojmncmaaDoorRows
import Derived.ProofKit
import Derived.OpenShut
import Derived.ShutString
import Derived.ChangeOld
import Derived.Deep.DeepHandedRow
import Derived.Deep.Slices
import Derived.Deep.Strs
import Derived.Deep.Fields
import Derived.Deep.Matrix
import Derived.Deep.Grids
import Derived.SizedLaws
import Derived.Lib.LaidTab
import Derived.Lib.SmallJoins
import Derived.MakeChecks
import Derived.LaidMore
import Derived.Stop.LaidErr
import Derived.Lay
import Derived.PinnedBridge
namespace Go.Proofs.YthkabehojmncmaaDoor.Reply
open Go.ChangeShapes Go.WideShapes Go.ChangeAt Go.RowKit Base
open Go.ChangeMaps (open_string shut_string)
theorem own : ownKnob Tryd.prog.godebug = none := by kernel_rfl
theorem laidOut : laidOutB Tryd.prog = true := by kernel_rfl
theorem cells5 : Tryd.prog.cellsOf 5 = 1 := by kernel_rfl
theorem bytes5 : Tryd.prog.bytesOf 5 = 1 := by kernel_rfl
theorem bytesStr : Tryd.prog.bytesOf 9 = 16 := by kernel_rfl
theorem cellsStr : Tryd.prog.cellsOf 9 = 1 := by kernel_rfl
theorem cellsRep : Tryd.prog.cellsOf 24 = 2 := by kernel_rfl
theorem cells73 : Tryd.prog.cellsOf 62 = 1 := by kernel_rfl
theorem cells131 : Tryd.prog.cellsOf 74 = 20 := by kernel_rfl
theorem gPowType : (Tryd.prog.globals[1]?).map (·.type) = some 74 := by kernel_rfl
/-- A slice of bytes that came in reads as some bytes; how many the reach lets it have. -/
theorem open_bytes {H : Type} {enc : TypeId × Value → H} {W : World} {v : Value} {d : DataW H} {p : List MemPlace} {base : Nat} (hval : Value.okWide Tryd.prog W .any base 27 v)
    (h : DataW.Trod enc Tryd.prog W 0 (fun _ => true) true 27 v d p) {ts : List TypeId} {ds : List (DataW H)} (hsz : (DataW.weightsEach Tryd.prog ts ds).all (· ≤ reachBytes) = true) {j : Nat} (ht : ts[j]? = some 27) (hd : ds[j]? = some d) :
    ∃ l, Reads W v l ∧ l.length ≤ 140737488351232 := by
  obtain ⟨a1, len, cap, rfl⟩ := okWide_slice Tryd.underlying27 hval
  obtain ⟨fuel, hf⟩ := h
  rcases open_ints Tryd.underlying27 Tryd.underlying5 cells5 hf with ⟨hcs, hx⟩ | ⟨a, len', cap', zs, hcs, _, hl, hm, hz, hx, hcell, hwz⟩
  · simp [Value.cells] at hcs
    obtain ⟨rfl, rfl, rfl⟩ := hcs
    exact ⟨[], Or.inl ⟨rfl, none, 0, rfl, fun _ => rfl⟩, Nat.zero_le _⟩
  · simp [Value.cells] at hcs
    obtain ⟨rfl, rfl, rfl⟩ := hcs
    simp only [Prod.mk.injEq] at hx
    obtain ⟨rfl, _⟩ := hx
    simp only [if_true] at hz
    have hs := sized_slice hsz ht hd Tryd.underlying27
    rw [bytes5] at hs
    have hlen : ((zs.take len).map fun n => UInt8.ofNat n.toNat).length = len := by simp; omega
    have hb : len ≤ 140737488351232 := by
      have e : reachBytes = 140737488351232 := rfl
      simp [lits] at hs
      omega
    by_cases h0 : len = 0
    · subst h0
      exact ⟨[], Or.inl ⟨rfl, some a, cap, rfl, fun h => by cases h⟩, Nat.zero_le _⟩
    · refine ⟨(zs.take len).map fun n => UInt8.ofNat n.toNat, ?_, by omega⟩
      obtain ⟨ab, ao, spot⟩ := a
      have hspot : spot = none := by simpa [Addr.add] using World.cell?_spot (hcell 0 (by omega))
      subst hspot
      refine Or.inr ⟨ab, ao, cap, by rw [hlen], by omega, fun i hi => ?_⟩
      rw [hlen] at hi
      have hcj := hcell i (by omega)
      rw [Addr.add_lit] at hcj
      rw [hcj]
      have hr := range_u8 hwz i
      have e : zs.getD i 0 = zs[i]'(by omega) := by simp [List.getD, List.getElem?_eq_getElem (show i < zs.length by omega)]
      have hi2 : i < ((zs.take len).map fun n => UInt8.ofNat n.toNat).length := by rw [hlen]; exact hi
      have e2 : ((zs.take len).map fun n => UInt8.ofNat n.toNat).getD i 0 = UInt8.ofNat (zs[i]'(by omega)).toNat := by
        rw [List.getD_eq_getElem?_getD, List.getElem?_eq_getElem hi2]
        simp
      rw [e2, e]
      rw [List.getD_eq_getElem?_getD] at e
      rw [e] at hr
      congr 2
      simp only [UInt8.toNat_ofNat']
      omega
/-! ### A reply that came in -/
theorem weights_all {H : Type} {P : Program} {e : TypeId} : ∀ {l : List (DataW H)} {i : Nat} {d : DataW H}, l[i]? = some d → (DataW.weightsAll P e l).all (· ≤ reachBytes) = true → (d.weights P e).all (· ≤ reachBytes) = true
  | [], i, d, hi, _ => by simp at hi
  | x :: r, i, d, hi, h => by
    unfold DataW.weightsAll at h
    rw [List.all_append, Bool.and_eq_true] at h
    cases i with
    | zero => simp at hi; subst hi; exact h.1
    | succ n => exact weights_all (by simpa using hi) h.2
theorem weights_each {H : Type} {P : Program} : ∀ {ts : List TypeId} {l : List (DataW H)} {j : Nat} {t : TypeId} {d : DataW H}, ts[j]? = some t → l[j]? = some d → (DataW.weightsEach P ts l).all (· ≤ reachBytes) = true → (d.weights P t).all (· ≤ reachBytes) = true
  | [], _, j, _, _, hj, _, _ => by simp at hj
  | _ :: _, [], j, _, _, _, hj, _ => by simp at hj
  | u :: us, x :: r, j, t, d, hj, hd, h => by
    unfold DataW.weightsEach at h
    rw [List.all_append, Bool.and_eq_true] at h
    cases j with
    | zero => simp at hj hd; subst hj; subst hd; exact h.1
    | succ n => exact weights_each (by simpa using hj) (by simpa using hd) h.2
theorem strs_in {H : Type} {enc : TypeId × Value → H} {W : World} {a0 : Option Addr} {n0 c0 : Nat} {n : Nat} {y : DataW H × List MemPlace} (h : DataW.trod enc Tryd.prog W 0 (fun _ => true) true n 22 [.slice a0 n0 c0] = some y) (hw : (y.1.weights Tryd.prog 22).all (· ≤ reachBytes) = true) :
    ∃ ls : List (List UInt8), VReads W (.slice a0 n0 c0) (ls.map S) ∧ ls.length ≤ 140737488351232 ∧ ∀ k, (ls.getD k []).length ≤ 140737488351232 := by
  have er : reachBytes = 140737488351232 := rfl
  obtain ⟨d, p⟩ := y
  rcases Go.Deep.open_slice Tryd.underlying22 h with ⟨hcs, hx⟩ | ⟨a, len, cap, m, k0, D, Pl, hcs, _, hl, hm, hmm, hx, hi⟩
  · simp at hcs
    obtain ⟨rfl, rfl, rfl⟩ := hcs
    exact ⟨[], Or.inl ⟨rfl, none, 0, rfl, fun _ => rfl⟩, Nat.zero_le _, fun k => by simp⟩
  · simp at hcs
    obtain ⟨rfl, rfl, rfl⟩ := hcs
    simp only [Prod.mk.injEq] at hx
    obtain ⟨rfl, _⟩ := hx
    dsimp only at hw
    unfold DataW.weights at hw
    rw [Tryd.underlying22] at hw
    simp only [List.all_cons, List.all_append, Bool.and_eq_true, decide_eq_true_eq] at hw
    have hw0 := hw.1
    have hw1 := hw.2.1
    rw [bytesStr, er] at hw0
    simp only [List.length_map, List.length_range] at hw0
    rw [cellsStr] at hi
    by_cases h0 : n0 = 0
    · subst h0
      exact ⟨[], Or.inl ⟨rfl, some a, c0, rfl, fun h => by cases h⟩, Nat.zero_le _, fun k => by simp⟩
    have el : ∀ r, r < n0 → ∃ S0 : ByteArray, W.cell? ((a.add (r * 1)).add 0) = some (.string S0) ∧ S0.size ≤ 140737488351232 := fun r hr => by
      obtain ⟨cs', h1, h2⟩ := hi r (by simp at hmm; omega)
      obtain ⟨_, hcl, hat⟩ := World.cells?_some h1
      obtain ⟨S0, hS0, hy, _⟩ := DataW.trod_string Tryd.underlying9 h2
      subst hS0
      have hwr := weights_all (i := r) (d := D r) (by simp [hr]) hw1
      have hD : D r = .lit (.string S0.data.toList) := congrArg Prod.fst hy
      rw [hD] at hwr
      simp only [DataW.weights, List.all_cons, List.all_nil, Bool.and_true, decide_eq_true_eq, er] at hwr
      rw [str_len] at hwr
      exact ⟨S0, hat 0 (by omega), hwr⟩
    obtain ⟨ab, ao, spot⟩ := a
    have hspot : spot = none := by
      obtain ⟨S1, h1, _⟩ := el 0 (by omega)
      simpa [Addr.add] using World.cell?_spot h1
    subst hspot
    have each : ∀ r, r < n0 → ∃ S0 : ByteArray, W.cell? ⟨ab, ao + r, none⟩ = some (.string S0) ∧ S0.size ≤ 140737488351232 := fun r hr => by
      obtain ⟨S0, h1, h2⟩ := el r hr
      rw [Addr.add_lit, Addr.add_lit] at h1
      exact ⟨S0, by simpa using h1, h2⟩
    obtain ⟨F, hF⟩ := Go.Deep.choose_lt (α := ByteArray) each
    have hln : ((List.range n0).map fun i => (F i).data.toList).length = n0 := by simp
    refine ⟨(List.range n0).map fun i => (F i).data.toList, Or.inr ⟨ab, ao, c0, by simp, by simp; omega, fun i x hx => ?_⟩, by rw [hln]; omega, fun k => ?_⟩
    · have hil : i < n0 := by simpa using (List.getElem?_eq_some_iff.1 hx).1
      simp [hil] at hx
      subst hx
      exact (hF i hil).1
    · rw [List.getD_eq_getElem?_getD]
      by_cases hk : k < n0
      · simp [hk]
        exact (hF k hk).2
      · rw [List.getElem?_eq_none (by rw [hln]; omega)]
        simp
theorem open_reply {H : Type} {enc : TypeId × Value → H} {W : World} {v : Value} {d : DataW H} {p : List MemPlace} {base : Nat} (hval : Value.okWide Tryd.prog W .any base 24 v)
    (h : DataW.Trod enc Tryd.prog W 0 (fun _ => true) true 24 v d p) {ts : List TypeId} {ds : List (DataW H)} (hsz : (DataW.weightsEach Tryd.prog ts ds).all (· ≤ reachBytes) = true) {j : Nat} (ht : ts[j]? = some 24) (hd : ds[j]? = some d) :
    ∃ (c : Int) (lv : Value) (ls : List (List UInt8)), v = replyV c lv ∧ VReads W lv (ls.map S) ∧ ls.length ≤ 9000000000000000000 ∧ ∀ k, (ls.getD k []).length ≤ 9000000000000000000 := by
  obtain ⟨v0, v1, y0, y1, n, rfl, rfl, _, t0, t1⟩ := Joins.open_agg2 Tryd.underlying24 (by kernel_rfl) cellsRep hval h
  have hin := weights_each ht hd hsz
  unfold DataW.weights at hin
  rw [Tryd.underlying24] at hin
  have h1 := weights_each (j := 1) (t := 22) (d := y1.1) (by rfl) (by rfl) hin
  obtain ⟨c, hc, _, _⟩ := DataW.trod_int Tryd.underlying3 t0
  simp at hc
  subst hc
  have hform : ∃ a n c, v1 = .slice a n c := by
    rcases Go.Deep.open_slice Tryd.underlying22 t1 with ⟨hcs, _⟩ | ⟨a, len, cap, m, k0, D, Pl, hcs, _⟩
    · simp at hcs; exact ⟨none, 0, 0, hcs⟩
    · simp at hcs; exact ⟨some a, len, cap, hcs⟩
  obtain ⟨a, m, cc, rfl⟩ := hform
  obtain ⟨ls, hr, hn, hl⟩ := strs_in t1 h1
  exact ⟨c, _, ls, rfl, hr, by omega, fun k => Nat.le_trans (hl k) (by decide)⟩
/-! ### The listed variables, the witness -/
abbrev laidL : List (String × DataW Unit) := [("math/bits.deBruijn32tab", Rows.laid_math_bits_deBruijn32tab), ("math/bits.deBruijn64tab", Rows.laid_math_bits_deBruijn64tab), ("internal/strconv.uint64pow10", Rows.laid_internal_strconv_uint64pow10)]
theorem env_of {W : World} (h : laidMetH Tryd.prog laidL W) : Vars W := by
  rw [MakeChecks.laidMetH_plain _ _ _ (by kernel_rfl)] at h
  have h0 : laidMet Tryd.prog laidL W := h
  have h2 : laidMet Tryd.prog [("internal/strconv.uint64pow10", Rows.laid_internal_strconv_uint64pow10)] W := laidMet.tail (laidMet.tail h0)
  exact ⟨Lib.tabIs_of_head (rest := []) gPow gPowType Tryd.underlying74 Tryd.underlying62 cells73 cells131 h2⟩
/-- THE WITNESS: a world in which all the listed variables are laid. -/
theorem laid_met (os : Os) (args : Array Value) : laidMetH Tryd.prog laidL ((World.laidAll Tryd.prog os laidL).forCall (fun _ _ => 0) ⟨#[], args, []⟩).memory := by
  rw [MakeChecks.laidMetH_plain _ _ _ (by kernel_rfl)]
  exact laidMet_laidAll _ (by kernel_rfl) (by kernel_rfl)
theorem laid_shaped (os : Os) (args : Array Value) : ((World.laidAll Tryd.prog os laidL).forCall (fun _ _ => 0) ⟨#[], args, []⟩).Shaped Tryd.prog :=
  World.shaped_of_ZipB (by kernel_rfl) (by kernel_rfl)
theorem witness_laid {H : Type} {enc : TypeId × Value → H} {C : Checked} {os : Os} {f : FuncId} {fn : Func} {s : OpenSpec} {conds : List PathCond} {apart : Bool} {laid : List (String × DataW Unit)} (w0 : World) (args : Array Value) (hos : w0.os = os)
    (hsh : (w0.forCall (fun _ _ => 0) ⟨#[], args, []⟩).Shaped C.prog)
    (hok : Input.okWideB C.prog (w0.forCall (fun _ _ => 0) ⟨#[], args, []⟩) f ⟨#[], args, []⟩ = true)
    (hrow : s.preRow enc C.prog fn conds apart laid (w0.forCall (fun _ _ => 0) ⟨#[], args, []⟩).memory args) :
    ∃ (w : World) (tape : Tape) (i : Input), w.os = os ∧ (w.forCall tape i).Shaped C.prog ∧ i.vars = [] ∧ Input.okWide C.prog (w.forCall tape i) .any w.heap.size f i ∧
      s.preRow enc C.prog fn conds apart laid (w.forCall tape i).memory i.args ∧ ({} : Assume).holds C.prog (lone (Frame.enter C.prog f i.args .normal) [] (w.forCall tape i)) :=
  ⟨w0, fun _ _ => 0, ⟨#[], args, []⟩, hos, hsh, (Input.okWide_of_okWideB (base := 0) hok).1, (Input.okWide_of_okWideB hok).2, hrow, by
    simp only [Assume.holds]
    exact ⟨by simp, by simp, fun _ => Modest.zero, by simp, by simp⟩⟩
end Go.Proofs.YthkabehojmncmaaDoor.Reply
