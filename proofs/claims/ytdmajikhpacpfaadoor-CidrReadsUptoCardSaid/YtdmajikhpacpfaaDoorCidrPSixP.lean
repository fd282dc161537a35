/-
  CIDR, the program: groups of IPv6 as bytes (plain); '::' found.
-/
import Derived.Test.YtdmajikhpacpfaaDoorCidrPGrps
import Derived.Laws.CopyOwn
namespace Go.Proofs.YtdmajikhpacpfaaDoor.Cidr
open Go.RowKit Base
theorem occ_cc (l : List UInt8) (j : Nat) (h : j + 1 < l.length) : Lib.occAt l [58, 58] j = ccB l j := by
  have e : l.drop j = l[j] :: l[j + 1] :: l.drop (j + 2) := by
    rw [List.getElem_cons_drop, List.getElem_cons_drop]
  unfold Lib.occAt ccB
  rw [e]
  simp only [List.isPrefixOf, Bool.and_true]
  rw [List.getD_eq_getElem?_getD, List.getD_eq_getElem?_getD, List.getElem?_eq_getElem (show j < l.length by omega), List.getElem?_eq_getElem h]
  simp only [Option.getD_some]
  clear e
  generalize l[j] = x
  generalize l[j + 1] = y
  rw [Bool.eq_iff_iff]
  rw [Bool.and_eq_true, Bool.and_eq_true, beq_iff_eq, beq_iff_eq, decide_eq_true_iff, decide_eq_true_iff]
  exact ⟨fun h => ⟨h.1.symm, h.2.symm⟩, fun h => ⟨h.1.symm, h.2.symm⟩⟩
theorem index_cc (l : List UInt8) : Lib.index l [58, 58] = match firstCC l with | some a => (a : Int) | none => -1 := by
  unfold firstCC
  cases hf : (List.range (l.length - 1)).find? (ccB l) with
  | none =>
    rw [List.find?_eq_none] at hf
    by_cases h0 : l.length = 0
    · rw [List.eq_nil_of_length_eq_zero h0]; rfl
    · refine Lib.index_past (i := l.length - 1) (by simp) (fun j hj => ?_) (by simp; omega)
      rw [occ_cc l j (by omega)]
      simpa using hf j (List.mem_range.2 hj)
  | some a =>
    obtain ⟨h1, i, hi, h2, h3⟩ := List.find?_eq_some_iff_getElem.1 hf
    rw [List.length_range] at hi
    simp only [List.getElem_range] at h2
    subst h2
    refine Lib.index_hit (fun j hj => ?_) (by omega) ?_
    · rw [occ_cc l j (by omega)]
      simpa using h3 j hj
    · rw [occ_cc l i (by omega)]; exact h1
theorem pCC (s : ByteArray) (w : World) (hs : s.size ≤ 100) (he : Env w) : Calls Tryd.prog 30 #[.string s, .string ⟨#[58, 58]⟩] w fun e w' => e = .returned (.tuple #[.string (headS s (firstCC s.data.toList)), .string (tailS s (firstCC s.data.toList)), .bool (firstCC s.data.toList).isSome]) ∧ Below w.heap.size w w' := by
  obtain ⟨m, hm⟩ := he.maxCell
  refine (Tryd.strings_Cut s ⟨#[58, 58]⟩ m w (by omega) hm).mono ?_
  rintro e w' ⟨rfl, n, rfl⟩
  refine ⟨?_, bel_drew _ _⟩
  have hi := index_cc s.data.toList
  have hlt := fun a => @firstCC_lt s a
  generalize firstCC s.data.toList = cc at *
  have e2 : (⟨#[58, 58]⟩ : ByteArray).data.toList = [58, 58] := rfl
  rw [e2]
  unfold Lib.cut
  cases cc with
  | none =>
    simp only at hi
    rw [hi, if_neg (by omega)]
    rfl
  | some a =>
    simp only at hi
    have := hlt a rfl
    rw [hi, if_pos (by omega), Int.toNat_natCast]
    simp only [headS, tailS, extract_bytes]
    have ht : List.take s.size s.data.toList = s.data.toList := List.take_of_length_le (by rw [str_len]; omega)
    rw [ht]
    simp
theorem flat_zero : ∀ (k : Nat), (List.replicate k 0).flatMap two = List.replicate (2 * k) 0
  | 0 => rfl
  | k + 1 => by
    rw [List.replicate_succ, List.flatMap_cons, flat_zero k, show 2 * (k + 1) = 2 * k + 1 + 1 by omega, List.replicate_succ, List.replicate_succ]
    rfl
theorem splice_16 {X Y : List Value} (z : Value) (h : X.length + Y.length ≤ 16) : splice (splice (List.replicate 16 z) 0 X) (16 - Y.length) Y = X ++ (List.replicate (16 - X.length - Y.length) z ++ Y) := by
  unfold splice
  simp only [List.take_zero, List.nil_append, Nat.zero_add, List.drop_replicate]
  rw [List.take_append, List.drop_append, List.take_of_length_le (by omega), List.drop_eq_nil_of_le (by omega)]
  simp
  rw [show min (16 - Y.length - X.length) (16 - X.length) = 16 - X.length - Y.length by omega, show 16 - X.length - (16 - Y.length + Y.length - X.length) = 0 by omega]
  simp
theorem splice_all {A B : List Nat} (h : A.length + B.length ≤ 8) : splice (splice (zA.map B8) 0 ((A.flatMap two).map B8)) (16 - ((B.flatMap two).map B8).length) ((B.flatMap two).map B8) = ((allG A B).flatMap two).map B8 := by
  have e : zA.map B8 = List.replicate 16 (B8 0) := by simp [zA]
  rw [e, splice_16 (B8 0) (by rw [List.length_map, List.length_map, flat_two_len, flat_two_len]; omega)]
  unfold allG
  rw [List.flatMap_append, List.flatMap_append, flat_zero, List.map_append, List.map_append, List.map_replicate, List.length_map, List.length_map, flat_two_len, flat_two_len]
  rw [show 16 - 2 * A.length - 2 * B.length = 2 * (8 - A.length - B.length) by omega]
theorem bytes_one (l : List UInt8) : ∀ v ∈ l.map B8, v.oneCell' = true := fun v hv => by
  obtain ⟨x, _, rfl⟩ := List.mem_map.1 hv; rfl
theorem copy_src8 {w : World} {B : Nat} {a : Option Addr} {n c : Nat} {l : List UInt8} (h : Owns w B (.slice a n c) l) : 0 < (l.map B8).length → ∃ ad, a = some ad ∧ ∀ j v, (l.map B8)[j]? = some v → w.cell? (ad.add j) = some v := fun h0 => by
  rw [List.length_map] at h0
  obtain ⟨g, c', he, _⟩ := h.form h0
  cases he
  refine ⟨⟨g, 0, none⟩, rfl, fun j v hv => ?_⟩
  rw [List.getElem?_map] at hv
  cases hj : l[j]? with
  | none => rw [hj] at hv; cases hv
  | some x =>
    rw [hj] at hv
    cases hv
    have hjl := (List.getElem?_eq_some_iff.1 hj).1
    have := h.cell j hjl
    rw [Addr.add_lit, Nat.zero_add, this, List.getD_eq_getElem?_getD, hj]
    rfl
theorem grps_len {l : List UInt8} {A : List Nat} (h : grpsN l = some A) : l.length ≤ 5 * A.length ∧ (l ≠ [] → l.length + 1 ≤ 5 * A.length) := by
  unfold grpsN at h
  by_cases h0 : l = []
  · rw [if_pos h0] at h; cases h; subst h0; simp
  · rw [if_neg h0] at h
    obtain ⟨h1, h2⟩ := mapO_all h
    have h3 := pieces_len 58 l
    have h5 := sum_le (fun p : List UInt8 => p.length + 1) 5 (splitB 58 l) fun p hp => by
      obtain ⟨y, hy⟩ := h2 p hp
      unfold grpN at hy
      split at hy
      · rename_i hh; show p.length + 1 ≤ 5; omega
      · cases hy
    rw [← h1] at h5
    exact ⟨by omega, fun _ => by omega⟩
theorem sixS_big {s : ByteArray} (h : 39 < s.size) : sixS s = none := by
  unfold sixS
  have hlt := fun a => @firstCC_lt s a
  generalize firstCC s.data.toList = cc at *
  cases hA : grpsN (headS s cc).data.toList with
  | none => rfl
  | some A =>
    cases hB : grpsN (tailS s cc).data.toList with
    | none => rfl
    | some B =>
      obtain ⟨a1, a2⟩ := grps_len hA
      obtain ⟨b1, b2⟩ := grps_len hB
      rw [str_len] at a1 a2 b1 b2
      simp only
      rw [if_neg]
      intro hok
      unfold okG at hok
      cases cc with
      | none =>
        have h8 := of_decide_eq_true hok
        have hh : (headS s none).size = s.size := rfl
        rw [hh] at a1 a2
        have hne : (headS s none).data.toList ≠ [] := fun e => by have := str_len (headS s none); rw [e, hh] at this; simp at this; omega
        have := a2 hne
        omega
      | some a =>
        have h7 := of_decide_eq_true hok
        have hl := hlt a rfl
        have hh : (headS s (some a)).size = a := by unfold headS; rw [ByteArray.size_extract]; omega
        have ht : (tailS s (some a)).size = s.size - (a + 2) := by unfold tailS; rw [ByteArray.size_extract]; omega
        rw [hh] at a1; rw [ht] at b1
        omega
end Go.Proofs.YtdmajikhpacpfaaDoor.Cidr
