/-
  RECORD: what every row of this layer shares: how arguments are opened, the table, the witness.
-/
import Derived.Test.YthoeicidilnleaaDoorRecordMsg
import Derived.Test.YthoeicidilnleaaDoorRows
import Derived.ProofKit
import Derived.OpenShut
import Derived.ShutString
import Derived.ChangeOld
import Derived.Deep.DeepHandedRow
import Derived.Lib.LaidTab
import Derived.Stop.LaidErr
import Derived.MakeChecks
import Derived.LaidMore
import Derived.Deep.Slices
import Derived.Deep.Fields
import Derived.ChangeSame
import Derived.Lib.SmallJoins
namespace Go.Proofs.YthoeicidilnleaaDoor.Codec
open Go.ChangeShapes Go.WideShapes Go.ChangeAt Go.RowKit
open Go.ChangeMaps (open_string shut_string)

theorem own : ownKnob Tryd.prog.godebug = none := by kernel_rfl
theorem laidOut : laidOutB Tryd.prog = true := by kernel_rfl
theorem cells5 : Tryd.prog.cellsOf 5 = 1 := by kernel_rfl
theorem bytes5 : Tryd.prog.bytesOf 5 = 1 := by kernel_rfl

/-- A slice of bytes that came in, at a place inside. -/
theorem open_bytes_in {H : Type} {enc : TypeId × Value → H} {W : World} {v : Value} {n : Nat} {y : DataW H × List MemPlace} (hf : DataW.trod enc Tryd.prog W 0 (fun _ => true) true n 23 [v] = some y)
    {ts : List TypeId} {ds : List (DataW H)} (hsz : (DataW.weightsEach Tryd.prog ts ds).all (· ≤ reachBytes) = true) {j : Nat} (ht : ts[j]? = some 23) (hd : ds[j]? = some y.1) :
    ∃ l, Reads W v l ∧ l.length ≤ 140737488351232 := by
  rcases open_ints Tryd.underlying23 Tryd.underlying5 cells5 hf with ⟨hcs, hx⟩ | ⟨a, len, cap, zs, hcs, _, hl, hm, hz, hx, hcell, hwz⟩
  · simp at hcs
    subst hcs
    exact ⟨[], Or.inl ⟨rfl, none, 0, rfl, fun _ => rfl⟩, Nat.zero_le _⟩
  · simp at hcs
    subst hcs
    rw [hx] at hd
    simp only [if_true] at hz
    have hs := sized_slice hsz ht hd Tryd.underlying23
    rw [bytes5] at hs
    have hlen : ((zs.take len).map fun n => UInt8.ofNat n.toNat).length = len := by simp; omega
    have hb : len ≤ 140737488351232 := by
      have e : reachBytes = 140737488351232 := rfl
      simp [lits] at hs
      omega
    by_cases h0 : len = 0
    · subst h0
      exact ⟨[], Or.inl ⟨rfl, some a, cap, rfl, fun h => by cases h⟩, Nat.zero_le _⟩
    · refine ⟨(zs.take len).map fun n => UInt8.ofNat n.toNat, ?_, by omega⟩
      obtain ⟨ab, ao, spot⟩ := a
      have hspot : spot = none := by simpa [Addr.add] using World.cell?_spot (hcell 0 (by omega))
      subst hspot
      refine Or.inr ⟨ab, ao, cap, by rw [hlen], by omega, fun i hi => ?_⟩
      rw [hlen] at hi
      have hcj := hcell i (by omega)
      rw [Addr.add_lit] at hcj
      rw [hcj]
      have hr := range_u8 hwz i
      have e : zs.getD i 0 = zs[i]'(by omega) := by simp [List.getD, List.getElem?_eq_getElem (show i < zs.length by omega)]
      have hi2 : i < ((zs.take len).map fun n => UInt8.ofNat n.toNat).length := by rw [hlen]; exact hi
      have e2 : ((zs.take len).map fun n => UInt8.ofNat n.toNat).getD i 0 = UInt8.ofNat (zs[i]'(by omega)).toNat := by
        rw [List.getD_eq_getElem?_getD, List.getElem?_eq_getElem hi2]
        simp
      rw [e2, e]
      rw [List.getD_eq_getElem?_getD] at e
      rw [e] at hr
      congr 2
      simp only [UInt8.toNat_ofNat']
      omega

theorem mem_weightsAll {H : Type} {P : Program} {e : TypeId} {n : Nat} : ∀ {l : List (DataW H)} {d : DataW H}, d ∈ l → n ∈ d.weights P e → n ∈ DataW.weightsAll P e l := by
  intro l
  induction l with
  | nil => intro d h; cases h
  | cons a t ih =>
    intro d h hn
    simp only [DataW.weightsAll, List.mem_append]
    rcases List.mem_cons.1 h with rfl | h
    · exact Or.inl hn
    · exact Or.inr (ih h hn)
theorem list_of {Q : Nat → Rc → Prop} : ∀ n, (∀ i, i < n → ∃ r, Q i r) → ∃ rs : List Rc, rs.length = n ∧ ∀ i, i < n → Q i (rs.getD i rc0) := by
  intro n
  induction n with
  | zero => intro _; exact ⟨[], rfl, fun i h => by omega⟩
  | succ n ih =>
    intro h
    obtain ⟨rs, h1, h2⟩ := ih fun i hi => h i (by omega)
    obtain ⟨r, hr⟩ := h n (by omega)
    refine ⟨rs ++ [r], by simp [h1], fun i hi => ?_⟩
    by_cases e : i = n
    · subst e
      simpa [List.getD, ← h1] using hr
    · have := h2 i (by omega)
      simpa [List.getD, List.getElem?_append_left (show i < rs.length by omega)] using this
theorem cells41 : Tryd.prog.cellsOf 41 = 2 := by kernel_rfl
theorem bytes41 : Tryd.prog.bytesOf 41 = 24 := by kernel_rfl
theorem cells25 : Tryd.prog.cellsOf 25 = 4 := by kernel_rfl

/-- The two cells of a recipient. -/
def w_cell (W : World) (a : Addr) (i : Nat) (r : Rc) : Prop := W.cell? ((a.add (i * 2)).add 0) = some (.string r.1) ∧ W.cell? ((a.add (i * 2)).add 1) = some (.int .u8 (r.2.toNat : Int))
set_option maxRecDepth 100000 in
/-- Recipients that came in. -/
theorem open_rcpts {H : Type} {enc : TypeId × Value → H} {W : World} {v : Value} {n : Nat} {y : DataW H × List MemPlace} (hf : DataW.trod enc Tryd.prog W 0 (fun _ => true) true n 22 [v] = some y)
    {ts : List TypeId} {ds : List (DataW H)} (hsz : (DataW.weightsEach Tryd.prog ts ds).all (· ≤ reachBytes) = true) {j : Nat} (ht : ts[j]? = some 22) (hd : ds[j]? = some y.1) :
    ∃ A c rs, v = .slice A rs.length c ∧ RR W A c rs ∧ rs.length * 24 ≤ 140737488351232 ∧ ∀ r ∈ rs, r.1.size ≤ 140737488351232 := by
  have er : reachBytes = 140737488351232 := rfl
  rcases Go.Deep.open_slice Tryd.underlying22 hf with ⟨hcs, hx⟩ | ⟨a, len, cap, m, k0, D, Pl, hcs, _, hl, hm, hmm, hx, hi⟩
  · simp at hcs
    subst hcs
    exact ⟨none, 0, [], rfl, ⟨Nat.le_refl _, fun h => by simp at h⟩, by simp, fun r h => by cases h⟩
  · simp at hcs
    subst hcs
    simp only [if_true] at hmm
    subst hmm
    rw [hx] at hd
    have hs := sized_slice hsz ht hd Tryd.underlying22
    rw [bytes41] at hs
    simp only [List.length_map, List.length_range] at hs
    have hel : ∀ i, i < len → ∃ r : Rc, (w_cell W a i r) ∧ r.1.size ≤ 140737488351232 := by
      intro i hil
      obtain ⟨cs', hcs, htr⟩ := hi i (by omega)
      rw [cells41] at hcs
      obtain ⟨_, hcl, hat⟩ := World.cells?_some hcs
      obtain ⟨y0, y1, k1, hD, _, ht0, ht1⟩ := trod_struct2 Tryd.underlying41 htr
      obtain ⟨u0, u1, rfl⟩ : ∃ u0 u1, cs' = [u0, u1] := by
        match cs', hcl with
        | [u0, u1], _ => exact ⟨u0, u1, rfl⟩
      have hc0 : W.cell? ((a.add (i * 2)).add 0) = some u0 := hat 0 (by omega)
      have hc1 : W.cell? ((a.add (i * 2)).add 1) = some u1 := hat 1 (by omega)
      rw [show Tryd.prog.cellsOf 9 = 1 by kernel_rfl] at ht0
      rw [show Tryd.prog.cellsOf 5 = 1 by kernel_rfl] at ht1
      have hD1 : D i = .agg [y0.1, y1.1] := by have := congrArg Prod.fst hD; exact this
      obtain ⟨S, hS, hyS, _⟩ := DataW.trod_string Tryd.underlying9 ht0
      obtain ⟨z, hz, hyz, hwf⟩ := DataW.trod_int Tryd.underlying5 ht1
      simp at hS hz
      subst hS hz
      have bz := bounds_u8 hwf
      refine ⟨(S, UInt8.ofNat z.toNat), ⟨hc0, ?_⟩, ?_⟩
      · have : ((UInt8.ofNat z.toNat).toNat : Int) = z := by simp; omega
        show W.cell? ((a.add (i * 2)).add 1) = some (.int .u8 ((UInt8.ofNat z.toNat).toNat : Int)); rw [this]; exact hc1
      · have hmem : S.data.toList.length ∈ (D i).weights Tryd.prog 41 := by
          rw [hD1]
          simp only [DataW.weights, Tryd.underlying41]
          refine DataW.weights_mem_each (j := 0) (t := 9) (d := y0.1) rfl rfl _ ?_
          · rw [hyS]; simp [DataW.weights]
        have h2 : S.data.toList.length ∈ DataW.weightsEach Tryd.prog ts ds := by
          refine DataW.weights_mem_each ht hd _ ?_
          simp only [DataW.weights, Tryd.underlying22, List.mem_cons, List.mem_append]
          exact Or.inr (Or.inl (mem_weightsAll (List.mem_map.2 ⟨i, List.mem_range.2 hil, rfl⟩) hmem))
        have h3 := List.all_eq_true.1 hsz _ h2
        have h4 : S.data.toList.length = S.size := Array.length_toList
        simp [er] at h3
        show S.size ≤ _
        omega
    obtain ⟨rs, hrl, hrs⟩ := list_of len hel
    refine ⟨some a, m, rs, by rw [hrl], ⟨by omega, fun h0 => ?_⟩, by rw [er] at hs; omega, fun r hr => ?_⟩
    · have hsp := (hrs 0 (by omega)).1.1
      obtain ⟨ab, ao, spot⟩ := a
      have hspot : spot = none := by simpa [Addr.add] using World.cell?_spot hsp
      subst hspot
      refine ⟨ab, ao, rfl, fun i hil => ?_⟩
      have := (hrs i (by omega)).1
      unfold w_cell at this
      rw [Addr.add_lit, Addr.add_lit, Addr.add_lit] at this
      exact ⟨by simpa using this.1, this.2⟩
    · obtain ⟨i, hi2, rfl⟩ := List.getElem_of_mem hr
      have := (hrs i (by omega)).2
      simpa [List.getD, List.getElem?_eq_getElem hi2] using this
set_option maxRecDepth 100000 in
/-- A message that came in. -/
theorem open_msg {H : Type} {enc : TypeId × Value → H} {W : World} {v : Value} {d : DataW H} {p : List MemPlace} {base : Nat} (hval : Value.okWide Tryd.prog W .any base 25 v)
    (h : DataW.Trod enc Tryd.prog W 0 (fun _ => true) true 25 v d p) {ts : List TypeId} {ds : List (DataW H)} (hsz : (DataW.weightsEach Tryd.prog ts ds).all (· ≤ reachBytes) = true) {j : Nat} (ht : ts[j]? = some 25) (hd : ds[j]? = some d) :
    ∃ m, MR W v m ∧ Fits m ∧ m.rcpts.length * 24 ≤ 140737488351232 := by
  obtain ⟨v0, v1, v2, v3, y0, y1, y2, y3, n, rfl, rfl, _, t0, t1, t2, t3⟩ := Joins.open_agg4 Tryd.underlying25 (by kernel_rfl) cells25 hval h
  have hin : (DataW.weightsEach Tryd.prog [3, 9, 22, 23] [y0.1, y1.1, y2.1, y3.1]).all (· ≤ reachBytes) = true := by
    refine List.all_eq_true.2 fun x hx => List.all_eq_true.1 hsz x (DataW.weights_mem_each ht hd x ?_)
    simp only [DataW.weights, Tryd.underlying25]
    exact hx
  obtain ⟨t, hT, hy0, hwf⟩ := DataW.trod_int Tryd.underlying3 t0
  obtain ⟨S, hS, hyS, _⟩ := DataW.trod_string Tryd.underlying9 t1
  simp at hT hS
  subst hT hS
  obtain ⟨A, c, rs, rfl, hrr, h24, hrs⟩ := open_rcpts t2 hin (j := 2) rfl rfl
  obtain ⟨l, hl, hll⟩ := open_bytes_in t3 hin (j := 3) rfl rfl
  obtain ⟨D, e, rfl⟩ := hl.form
  have bt := bounds_i64 hwf
  have hs := sized_string hin (j := 1) (bytes := S.data.toList) rfl (by rw [hyS]; rfl)
  have h4 : S.data.toList.length = S.size := Array.length_toList
  have er : reachBytes = 140737488351232 := rfl
  exact ⟨⟨t, S, rs, l⟩, ⟨A, c, D, e, rfl, hrr, hl⟩, ⟨hll, by show rs.length ≤ _; omega, by show S.size ≤ _; omega, hrs, by show -9223372036854775808 ≤ t; omega, by show t ≤ 9223372036854775807; omega⟩, h24⟩

/-! ### The table that AppendInt reads, as the row lists it -/
theorem gTab : Tryd.prog.globalNamed "internal/strconv.uint64pow10" = some 1 := by kernel_rfl
theorem gTabType : (Tryd.prog.globals[1]?).map (·.type) = some 108 := by kernel_rfl
theorem cells50 : Tryd.prog.cellsOf 99 = 1 := by kernel_rfl
theorem cells59 : Tryd.prog.cellsOf 108 = 20 := by kernel_rfl
theorem table {W : World} (h : laidMetH Tryd.prog [("math/bits.deBruijn32tab", Rows.laid_math_bits_deBruijn32tab), ("math/bits.deBruijn64tab", Rows.laid_math_bits_deBruijn64tab), ("internal/strconv.uint64pow10", Rows.laid_internal_strconv_uint64pow10)] W) : Tab W.heap.size W := by
  rw [MakeChecks.laidMetH_plain _ _ _ (by kernel_rfl)] at h
  exact Lib.tabBelow_of_tabIs (Lib.tabIs_of_head (rest := []) gTab gTabType Tryd.underlying108 Tryd.underlying99 cells50 cells59 h.tail.tail)

/-- THE DOOR's OWN HEAP MEETS THE CONDITION. -/
theorem door_met (os : Os) (args : Array Value) : laidMet Tryd.prog [("math/bits.deBruijn32tab", Rows.laid_math_bits_deBruijn32tab), ("math/bits.deBruijn64tab", Rows.laid_math_bits_deBruijn64tab), ("internal/strconv.uint64pow10", Rows.laid_internal_strconv_uint64pow10)] ((World.doorLaid Tryd.prog 400 os).forCall (fun _ _ => 0) ⟨#[], args, []⟩).memory :=
  laidMet_of_run' 8 (by kernel_rfl) (by kernel_rfl)
end Go.Proofs.YthoeicidilnleaaDoor.Codec
