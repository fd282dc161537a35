/-
  HEADER, plain: the program's way of cutting a content, and the document's: the same.
-/
import Derived.Test.YtnogpoojhhmadaaDoorHdrSplM
import Derived.Lib.Index
import Derived.Lib.Strings
namespace Go.Proofs.YtnogpoojhhmadaaDoor.Header
open Go.RowKit Base
/-- How many bytes the first line has, with its end: as the program finds it. -/
theorem index_line : ∀ (l : List UInt8), (Lib.index l [13, 10] = -1 ∧ lineL l = (l.length, l.length)) ∨ ∃ i : Nat, Lib.index l [13, 10] = (i : Int) ∧ lineL l = (i, i + 2) ∧ i + 2 ≤ l.length
  | [] => Or.inl ⟨rfl, rfl⟩
  | [c] => Or.inl ⟨by simp [Lib.index], rfl⟩
  | c :: d :: r => by
    rw [Lib.index, lineL]
    by_cases h : c.toNat = 13 ∧ d.toNat = 10
    · have e1 : c = 13 := UInt8.toNat_inj.1 h.1
      have e2 : d = 10 := UInt8.toNat_inj.1 h.2
      rw [if_pos h]
      subst e1; subst e2
      exact Or.inr ⟨0, by simp, rfl, by simp⟩
    · rw [if_neg h]
      have hp : ([13, 10] : List UInt8).isPrefixOf (c :: d :: r) = false := by
        simp only [List.isPrefixOf, Bool.and_eq_false_imp, Bool.and_true, beq_iff_eq, beq_eq_false_iff_ne]
        intro e1 e2
        exact h ⟨by rw [← e1]; rfl, by rw [← e2]; rfl⟩
      rcases index_line (d :: r) with ⟨h1, h2⟩ | ⟨i, h1, h2, h3⟩
      · left
        rw [h1, h2]
        simp [hp]
      · right
        refine ⟨i + 1, ?_, by rw [h2], by simp at h3 ⊢; omega⟩
        rw [h1]
        simp [hp]
/-- How many bytes the name has of the field that begins there. -/
def nsz (l : List UInt8) : Nat := if (l.takeWhile nameC).length < l.length ∧ (l.getD (l.takeWhile nameC).length 0).toNat = 58 then (l.takeWhile nameC).length else 0
theorem nameC_is {c : UInt8} (h : nameC c = true) : c.toNat ≠ 58 ∧ c.toNat ≠ 13 ∧ c.toNat ≠ 10 := by
  unfold nameC at h
  rw [decide_eq_true_eq] at h
  omega
theorem tw_take {p : UInt8 → Bool} : ∀ (l : List UInt8) (k : Nat), k < l.length → (∀ c ∈ l.take k, p c = true) → p (l.getD k 0) = false → l.takeWhile p = l.take k
  | [], k, h, _, _ => by simp at h
  | c :: r, 0, _, _, h2 => by
    rw [List.takeWhile_cons_of_neg (by simpa using h2), List.take_zero]
  | c :: r, k + 1, h, h1, h2 => by
    have hc : p c = true := h1 c (by simp)
    rw [List.takeWhile_cons_of_pos hc, List.take_succ_cons, tw_take r k (by simpa using h) (fun x hx => h1 x (by rw [List.take_succ_cons]; exact List.mem_cons_of_mem _ hx)) (by simpa using h2)]
theorem tw_full {p : UInt8 → Bool} : ∀ (s : List UInt8), (∀ c ∈ s, p c = true) → s.takeWhile p = s
  | [], _ => rfl
  | c :: r, h => by rw [List.takeWhile_cons_of_pos (h c List.mem_cons_self), tw_full r fun x hx => h x (List.mem_cons_of_mem _ hx)]
theorem tw_stop {p : UInt8 → Bool} : ∀ (l : List UInt8), (l.takeWhile p).length < l.length → p (l.getD (l.takeWhile p).length 0) = false
  | [], h => by simp at h
  | c :: r, h => by
    cases hc : p c
    · rw [List.takeWhile_cons_of_neg (by rw [hc]; simp)]; simpa using hc
    · rw [List.takeWhile_cons_of_pos hc] at h ⊢
      have := tw_stop r (by simpa using h)
      simpa using this
theorem nsz_at {l : List UInt8} {k : Nat} (hk : k < l.length) (h : ∀ c ∈ l.take k, nameC c = true) (h2 : (l.getD k 0).toNat = 58) : nsz l = k := by
  unfold nsz
  have hn : nameC (l.getD k 0) = false := by unfold nameC; rw [decide_eq_false_iff_not]; omega
  rw [tw_take l k hk h hn]
  have hl : (l.take k).length = k := by rw [List.length_take]; omega
  rw [hl, if_pos ⟨hk, h2⟩]
theorem nsz_stop {l : List UInt8} {k : Nat} (hk : k < l.length) (h : ∀ c ∈ l.take k, nameC c = true) (h2 : nameC (l.getD k 0) = false) (h3 : (l.getD k 0).toNat ≠ 58) : nsz l = 0 := by
  unfold nsz
  rw [tw_take l k hk h h2]
  have hl : (l.take k).length = k := by rw [List.length_take]; omega
  rw [hl, if_neg (fun x => h3 x.2)]
theorem nsz_none {l : List UInt8} (h : ∀ c ∈ l, nameC c = true) : nsz l = 0 := by
  unfold nsz
  have : l.takeWhile nameC = l := by
    exact tw_full l h
  rw [this, if_neg (fun x => absurd x.1 (Nat.lt_irrefl _))]
theorem nsz_facts {l : List UInt8} (h : 0 < nsz l) : nsz l < l.length ∧ (l.getD (nsz l) 0).toNat = 58 ∧ ∀ c ∈ l.take (nsz l), nameC c = true := by
  unfold nsz at h ⊢
  split at h
  · rename_i hh
    rw [if_pos hh]
    refine ⟨hh.1, hh.2, fun c hc => ?_⟩
    have hp := List.prefix_iff_eq_take.1 (List.takeWhile_prefix nameC (l := l))
    rw [← hp] at hc
    exact List.all_eq_true.1 List.all_takeWhile c hc
  · omega
theorem nsz_le (l : List UInt8) : nsz l ≤ l.length := by
  by_cases h : 0 < nsz l
  · have := (nsz_facts h).1; omega
  · omega
/-- A line's end is where a 13 stands, or nothing. -/
theorem lineL_cr : ∀ (l : List UInt8), lineL l = (l.length, l.length) ∨ ((lineL l).2 = (lineL l).1 + 2 ∧ (lineL l).2 ≤ l.length ∧ (l.getD (lineL l).1 0).toNat = 13 ∧ (l.getD ((lineL l).1 + 1) 0).toNat = 10)
  | [] => Or.inl rfl
  | [_] => Or.inl rfl
  | c :: d :: r => by
    rw [lineL]
    by_cases h : c.toNat = 13 ∧ d.toNat = 10
    · rw [if_pos h]
      exact Or.inr ⟨rfl, by simp, h.1, h.2⟩
    · rw [if_neg h]
      rcases lineL_cr (d :: r) with h1 | ⟨h1, h2, h3, h4⟩
      · left
        rw [h1]; rfl
      · right
        refine ⟨by show _ + 1 = _; omega, by simp at h2 ⊢; omega, by simpa using h3, by simpa using h4⟩
/-- No pair of 13 and 10 stands ahead of a line's end. -/
theorem lineL_no : ∀ (l : List UInt8) (i : Nat), i + 1 < l.length → (l.getD i 0).toNat = 13 → (l.getD (i + 1) 0).toNat = 10 → (lineL l).1 ≤ i
  | [], i, h, _, _ => by simp at h
  | [_], i, h, _, _ => by simp at h
  | c :: d :: r, i, h, h1, h2 => by
    rw [lineL]
    by_cases hh : c.toNat = 13 ∧ d.toNat = 10
    · rw [if_pos hh]; exact Nat.zero_le _
    · rw [if_neg hh]
      cases i with
      | zero => exact absurd ⟨by simpa using h1, by simpa using h2⟩ hh
      | succ j =>
        have := lineL_no (d :: r) j (by simpa using h) (by simpa using h1) (by simpa using h2)
        show _ + 1 ≤ j + 1
        omega
theorem getD_take {l : List UInt8} {k j : Nat} (h : j < k) : (l.take k).getD j 0 = l.getD j 0 := by
  rw [List.getD_eq_getElem?_getD, List.getElem?_take_of_lt h, ← List.getD_eq_getElem?_getD]
/-- What the document says of a line's colon is what the program's count says. -/
theorem colon_nsz (t : List UInt8) : colonOf (t.take (lineL t).1) = if 0 < nsz t then some (nsz t) else none := by
  by_cases hz : 0 < nsz t
  · rw [if_pos hz]
    obtain ⟨h1, h2, h3⟩ := nsz_facts hz
    have hm : nsz t < (lineL t).1 := by
      rcases lineL_cr t with h | ⟨_, h5, h6, _⟩
      · rw [h]; exact h1
      · apply Classical.byContradiction
        intro hn
        have hle : (lineL t).1 ≤ nsz t := by omega
        rcases Nat.lt_or_ge (lineL t).1 (nsz t) with hlt | hge
        · have hl : (lineL t).1 < t.length := by omega
          have hmem : t.getD (lineL t).1 0 ∈ t.take (nsz t) := by
            rw [List.getD_eq_getElem?_getD, List.getElem?_eq_getElem hl]
            show t[(lineL t).1] ∈ _
            rw [List.mem_take_iff_getElem]
            exact ⟨_, by omega, rfl⟩
          have := nameC_is (h3 _ hmem)
          omega
        · have : (lineL t).1 = nsz t := by omega
          rw [this] at h6; omega
    have hlen : nsz t < (t.take (lineL t).1).length := by rw [List.length_take]; omega
    have htk : (t.take (lineL t).1).take (nsz t) = t.take (nsz t) := by rw [List.take_take, Nat.min_eq_left (by omega)]
    rw [colon_at hlen (by rw [htk]; intro c hc; have := nameC_is (h3 c hc); unfold notColon; rw [decide_eq_true_eq]; exact this.1) (by rw [getD_take hm]; exact h2), htk, if_pos]
    unfold nameB
    rw [List.all_eq_true.2 h3, List.length_take]
    simp; omega
  · rw [if_neg hz]
    cases hc : colonOf (t.take (lineL t).1) with
    | none => rfl
    | some c =>
      exfalso
      obtain ⟨h1, h2, h3⟩ := colon_pos hc
      have hcl : c < (lineL t).1 ∧ c < t.length := by rw [List.length_take] at h2; omega
      have htk : (t.take (lineL t).1).take c = t.take c := by rw [List.take_take, Nat.min_eq_left (by omega)]
      rw [htk] at h3
      have hall : ∀ x ∈ t.take c, nameC x = true := by
        unfold nameB at h3
        simp only [Bool.and_eq_true] at h3
        exact List.all_eq_true.1 h3.1
      have h58 : (t.getD c 0).toNat = 58 := by
        unfold colonOf at hc
        split at hc
        · rename_i hh
          have he := Option.some.inj hc
          have hk : ((t.take (lineL t).1).takeWhile notColon).length < (t.take (lineL t).1).length := hh.1
          have hx := tw_stop (p := notColon) (t.take (lineL t).1) hk
          rw [← getD_take hcl.1]
          rw [he] at hx
          unfold notColon at hx
          rw [decide_eq_false_iff_not] at hx
          omega
        · cases hc
      have := nsz_at hcl.2 hall h58
      omega
end Go.Proofs.YtnogpoojhhmadaaDoor.Header
