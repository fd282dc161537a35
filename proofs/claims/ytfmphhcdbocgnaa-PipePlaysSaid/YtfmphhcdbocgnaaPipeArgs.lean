/-
  How the law's arguments are opened: rows of bytes, bools.
-/
import Derived.Test.YtfmphhcdbocgnaaPipeOrdR
import Derived.Test.YtfmphhcdbocgnaaRows
import Derived.ProofKit
import Derived.OpenShut
import Derived.ShutString
import Derived.ChangeOld
import Derived.Deep.DeepHandedRow
import Derived.Deep.Matrix
import Derived.Deep.Grids
import Derived.LaidMore
namespace Go.Proofs.Ytfmphhcdbocgnaa.Pipe
open Go.ChangeShapes Go.WideShapes Go.ChangeAt Go.RowKit Base
theorem own1 : ownKnob Try.prog.godebug = none := by kernel_rfl
theorem cells5 : Try.prog.cellsOf 5 = 1 := by kernel_rfl
theorem cells29 : Try.prog.cellsOf 29 = 1 := by kernel_rfl
theorem cellsBool : Try.prog.cellsOf 4 = 1 := by kernel_rfl
theorem add_none {a : Addr} {w : World} {v : Value} (h : w.cell? (a.add 0) = some v) : ∃ b o, a = ⟨b, o, none⟩ := by
  obtain ⟨b, o, s⟩ := a
  have : s = none := by simpa [Addr.add] using World.cell?_spot h
  subst this
  exact ⟨b, o, rfl⟩
theorem reads_of_cells {W : World} {a : Option Addr} {n c : Nat} {zs : List Int} (hl : n ≤ c) (hz : zs.length = c) (hw : ∀ x ∈ zs, (Lit.int .u8 x).wf = true) (hn : a = none → c = 0)
    (hc : ∀ a', a = some a' → ∀ i, i < c → W.cell? (a'.add i) = some (.int .u8 (zs.getD i 0))) : ∃ l : List UInt8, l.length = n ∧ Reads W (.slice a n c) l := by
  have hlen : ((zs.take n).map fun x => UInt8.ofNat x.toNat).length = n := by simp; omega
  by_cases h0 : n = 0
  · subst h0
    exact ⟨[], rfl, Or.inl ⟨rfl, a, c, rfl, hn⟩⟩
  · refine ⟨(zs.take n).map fun x => UInt8.ofNat x.toNat, hlen, ?_⟩
    cases a with
    | none => have := hn rfl; omega
    | some a' =>
      obtain ⟨b, o, rfl⟩ := add_none (hc a' rfl 0 (by omega))
      refine Or.inr ⟨b, o, c, by rw [hlen], by omega, fun i hi => ?_⟩
      rw [hlen] at hi
      have hcj := hc _ rfl i (by omega)
      rw [Addr.add_lit] at hcj
      rw [hcj]
      have hr := range_u8 hw i
      have hi2 : i < ((zs.take n).map fun x => UInt8.ofNat x.toNat).length := by rw [hlen]; exact hi
      have e : zs.getD i 0 = zs[i]'(by omega) := by simp [List.getD, List.getElem?_eq_getElem (show i < zs.length by omega)]
      have e2 : ((zs.take n).map fun x => UInt8.ofNat x.toNat).getD i 0 = UInt8.ofNat (zs[i]'(by omega)).toNat := by
        rw [List.getD_eq_getElem?_getD, List.getElem?_eq_getElem hi2]
        simp
      rw [e2, e]
      rw [List.getD_eq_getElem?_getD] at e
      rw [e] at hr
      congr 2
      simp only [UInt8.toNat_ofNat']
      omega
theorem open_rows {H : Type} {enc : TypeId × Value → H} {W : World} {v : Value} {d : DataW H} {p : List MemPlace} {base : Nat} (hval : Value.okWide Try.prog W .any base 33 v)
    (h : DataW.Trod enc Try.prog W 0 (fun _ => true) true 33 v d p) : ∃ A c ls, v = .slice A ls.length c ∧ Rows2 W A ls ∧ ls.length ≤ 9223372036854775807 := by
  obtain ⟨a1, len, cap, rfl⟩ := okWide_slice Try.underlying33 hval
  obtain ⟨fuel, hf⟩ := h
  rcases Go.Deep.open_int_rows Try.underlying33 Try.underlying29 Try.underlying5 cells29 cells5 hf with ⟨hcs, _⟩ | ⟨a, len', cap', A, L, C, Z, hcs, _, hl, hm, _, hr⟩
  · simp [Value.cells] at hcs
    obtain ⟨rfl, rfl, rfl⟩ := hcs
    exact ⟨none, 0, [], rfl, (fun i l hi => by simp at hi), Nat.zero_le _⟩
  · simp [Value.cells] at hcs
    obtain ⟨rfl, rfl, rfl⟩ := hcs
    have each : ∀ r, r < len → ∃ l : List UInt8, l.length = L r ∧ Reads W (.slice (A r) (L r) (C r)) l := fun r hrl => by
      obtain ⟨_, k2, _, k4, k5, k6, k7⟩ := hr r (by omega)
      exact reads_of_cells k2 k4 k5 k6 (fun a' ha => (k7 a' ha).2)
    obtain ⟨F, hF⟩ := Go.Deep.choose_lt (α := List UInt8) each
    refine ⟨some a, cap, (List.range len).map F, by simp, fun i l hi => ?_, by unfold maxLen at hm; simp; omega⟩
    have hil : i < len := by simpa using (List.getElem?_eq_some_iff.1 hi).1
    simp [hil] at hi
    subst hi
    obtain ⟨k1, _⟩ := hr i (by omega)
    obtain ⟨b, o, rfl⟩ := add_none (hr 0 (by omega)).1
    rw [Addr.add_lit] at k1
    refine ⟨b, o, A i, C i, rfl, ?_, ?_⟩
    · rw [(hF i hil).1]; exact k1
    · rw [(hF i hil).1]; exact (hF i hil).2
theorem open_bools2 {H : Type} {enc : TypeId × Value → H} {W : World} {v : Value} {d : DataW H} {p : List MemPlace} {base : Nat} (hval : Value.okWide Try.prog W .any base 34 v)
    (h : DataW.Trod enc Try.prog W 0 (fun _ => true) true 34 v d p) : ∃ A c bs, v = .slice A (List.length bs) c ∧ Bools W A bs ∧ bs.length ≤ 9223372036854775807 := by
  obtain ⟨a1, len, cap, rfl⟩ := okWide_slice Try.underlying34 hval
  obtain ⟨fuel, hf⟩ := h
  rcases Go.Deep.open_bools Try.underlying34 Try.underlying4 cellsBool hf with ⟨hcs, _⟩ | ⟨a, len', cap', B, hcs, _, hl, hm, _, hr⟩
  · simp [Value.cells] at hcs
    obtain ⟨rfl, rfl, rfl⟩ := hcs
    exact ⟨none, 0, [], rfl, (fun i l hi => by simp at hi), Nat.zero_le _⟩
  · simp [Value.cells] at hcs
    obtain ⟨rfl, rfl, rfl⟩ := hcs
    refine ⟨some a, cap, (List.range len).map B, by simp, fun i l hi => ?_, by unfold maxLen at hm; simp; omega⟩
    have hil : i < len := by simpa using (List.getElem?_eq_some_iff.1 hi).1
    simp [hil] at hi
    subst hi
    have k1 := hr i (by omega)
    obtain ⟨b, o, rfl⟩ := add_none (hr 0 (by omega))
    rw [Addr.add_lit] at k1
    exact ⟨b, o, rfl, k1⟩
theorem door_met (os : Os) (args : Array Value) : laidMet Try.prog [] ((World.doorLaid Try.prog 400 os).forCall (fun _ _ => 0) ⟨#[], args, []⟩).memory :=
  ⟨[], rfl, List.nodup_nil, fun _ _ h => by cases h⟩
end Go.Proofs.Ytfmphhcdbocgnaa.Pipe
