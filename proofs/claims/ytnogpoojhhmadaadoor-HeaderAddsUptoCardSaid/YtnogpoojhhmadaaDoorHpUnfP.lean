/-
  HEADER, plain: the program's way of unfolding, and the document's: the same.
-/
import Derived.Test.YtnogpoojhhmadaaDoorHdrJoin
import Derived.Lib.Replace
import Derived.Lib.CountLaws
import Derived.Lib.IndexMore
import Derived.Lib.SlTrimSet
namespace Go.Proofs.YtnogpoojhhmadaaDoor.Header
open Go.RowKit Base
/-- Each 13 10 x becomes x. -/
def repX (x : UInt8) : List UInt8 → List UInt8
  | [] => []
  | c :: r => if ([13, 10, x] : List UInt8).isPrefixOf (c :: r) = true then x :: repX x (r.drop 2) else c :: repX x r
  termination_by l => l.length
  decreasing_by
    · simp; omega
    · simp
theorem repX_step (x : UInt8) : ∀ (i : Nat) (s : List UInt8), i ≤ s.length → (∀ j, j < i → Lib.occAt s [13, 10, x] j = false) → repX x s = s.take i ++ repX x (s.drop i)
  | 0, s, _, _ => by simp
  | i + 1, [], h, _ => by simp at h
  | i + 1, c :: r, h, hno => by
    have h0 := hno 0 (by omega)
    unfold Lib.occAt at h0
    rw [List.drop_zero] at h0
    rw [repX, if_neg (by rw [h0]; simp), repX_step x i r (by simpa using h) (fun j hj => by have := hno (j + 1) (by omega); unfold Lib.occAt at this ⊢; simpa using this)]
    rfl
theorem rep_is (x : UInt8) : ∀ (n : Nat) (s : List UInt8), s.length ≤ n → Lib.replaceK [13, 10, x] [x] (Lib.count s [13, 10, x]) s = repX x s := by
  intro n
  induction n with
  | zero =>
    intro s h
    rw [List.eq_nil_of_length_eq_zero (Nat.le_zero.1 h)]
    rw [Lib.count_miss (by rfl), repX]
    rfl
  | succ n ih =>
    intro s h
    rcases Lib.index_spec s [13, 10, x] with ⟨h1, h2⟩ | ⟨i, h1, h2, h3, h4⟩
    · rw [Lib.count_miss h1, repX_step x s.length s (Nat.le_refl _) (fun j hj => h2 j (by omega)), List.drop_length, repX, List.take_length, List.append_nil]
      rfl
    · rw [Lib.count_hit (by simp) h1, Nat.add_comm, Lib.replaceK_hit _ _ _ _ i h1]
      have hpre := List.isPrefixOf_iff_prefix.1 (show ([13, 10, x] : List UInt8).isPrefixOf (s.drop i) = true from h3)
      obtain ⟨t, ht⟩ := hpre
      have hlen := congrArg List.length ht
      rw [List.length_append, List.length_drop] at hlen
      simp only [List.length_cons, List.length_nil] at hlen
      have hd : s.drop (i + 3) = t := by rw [← List.drop_drop, ← ht]; rfl
      rw [show i + ([13, 10, x] : List UInt8).length = i + 3 from rfl, ih _ (by rw [List.length_drop]; omega), repX_step x i s h2 h4, hd, ← ht]
      show _ = s.take i ++ repX x (13 :: 10 :: x :: t)
      rw [repX, if_pos (by simp [List.isPrefixOf])]
      simp
theorem replace_is (x : UInt8) (s : List UInt8) : Lib.replaceAll s [13, 10, x] [x] = repX x s := by
  unfold Lib.replaceAll Lib.replace
  rw [if_neg (by simp)]
  have : Lib.replaceNum s [13, 10, x] (-1) = Lib.count s [13, 10, x] := by unfold Lib.replaceNum; rw [if_pos (Or.inl (by omega))]
  rw [this]
  exact rep_is x s.length s (Nat.le_refl _)
theorem repX_len (x : UInt8) : ∀ (n : Nat) (s : List UInt8), s.length ≤ n → (repX x s).length ≤ s.length := by
  intro n
  induction n with
  | zero => intro s h; rw [List.eq_nil_of_length_eq_zero (Nat.le_zero.1 h), repX]; exact Nat.le_refl _
  | succ n ih =>
    intro s h
    cases s with
    | nil => rw [repX]; exact Nat.le_refl _
    | cons c r =>
      rw [repX]
      simp only [List.length_cons] at h
      split
      · have := ih (r.drop 2) (by rw [List.length_drop]; omega)
        rw [List.length_drop] at this
        simp only [List.length_cons]; omega
      · have := ih r (by omega)
        simp only [List.length_cons]; omega
theorem repX_no {x c : UInt8} {r : List UInt8} (h : ¬ ([13, 10, x] : List UInt8).isPrefixOf (c :: r) = true) : repX x (c :: r) = c :: repX x r := by rw [repX, if_neg h]
theorem pre3 {x c : UInt8} {r : List UInt8} : ([13, 10, x] : List UInt8).isPrefixOf (c :: r) = true ↔ c = 13 ∧ ∃ t, r = 10 :: x :: t := by
  rw [List.isPrefixOf_iff_prefix]
  constructor
  · rintro ⟨t, ht⟩
    simp only [List.cons_append, List.nil_append, List.cons.injEq] at ht
    exact ⟨ht.1.symm, t, ht.2.symm⟩
  · rintro ⟨rfl, t, rfl⟩
    exact ⟨t, rfl⟩
theorem repX_head {x y : UInt8} {r Z : List UInt8} (hxy : x ≠ y) (h : repX x r = y :: Z) : ∃ r', r = y :: r' ∧ repX x r' = Z := by
  cases r with
  | nil => rw [repX] at h; cases h
  | cons c t =>
    rw [repX] at h
    split at h
    · simp only [List.cons.injEq] at h
      exact absurd h.1 hxy
    · simp only [List.cons.injEq] at h
      obtain ⟨rfl, h2⟩ := h
      exact ⟨t, rfl, h2⟩
theorem rep_drop : ∀ (n : Nat) (l : List UInt8), l.length ≤ n → repX 9 (repX 32 l) = dropCr l := by
  intro n
  induction n with
  | zero => intro l h; rw [List.eq_nil_of_length_eq_zero (Nat.le_zero.1 h), repX, repX, dropCr]
  | succ n ih =>
    intro l h
    cases l with
    | nil => rw [repX, repX, dropCr]
    | cons c r =>
      simp only [List.length_cons] at h
      by_cases h1 : ([13, 10, 32] : List UInt8).isPrefixOf (c :: r) = true
      · obtain ⟨rfl, t, rfl⟩ := pre3.1 h1
        simp only [List.length_cons] at h
        rw [repX, if_pos h1, List.drop_succ_cons, List.drop_succ_cons, List.drop_zero, repX_no (by simp [List.isPrefixOf]), ih t (by omega), dropCr, if_pos ⟨rfl, rfl, rfl⟩, List.drop_succ_cons, List.drop_zero, dropCr, if_neg (by intro x; exact absurd x.1 (by decide))]
      · by_cases h2 : ([13, 10, 9] : List UInt8).isPrefixOf (c :: r) = true
        · obtain ⟨rfl, t, rfl⟩ := pre3.1 h2
          simp only [List.length_cons] at h
          have e : repX 32 (13 :: 10 :: 9 :: t) = 13 :: 10 :: 9 :: repX 32 t := by
            rw [repX_no h1, repX_no (fun x => absurd (pre3.1 x).1 (by decide)), repX_no (fun x => absurd (pre3.1 x).1 (by decide))]
          rw [e, repX, if_pos (pre3.2 ⟨rfl, _, rfl⟩), List.drop_succ_cons, List.drop_succ_cons, List.drop_zero, ih t (by omega), dropCr, if_pos ⟨rfl, rfl, rfl⟩, List.drop_succ_cons, List.drop_zero, dropCr, if_neg (by intro x; exact absurd x.1 (by decide))]
        · rw [repX_no h1, repX_no, ih r (by omega), dropCr, if_neg]
          · rintro ⟨e1, e2, e3⟩
            have e1 : c = 13 := UInt8.toNat_inj.1 e1
            cases r with
            | nil => exact absurd e2 (by decide)
            | cons d t =>
              cases t with
              | nil => exact absurd (show isBl 0 = true from e3) (by decide)
              | cons b t =>
                have e2 : d = 10 := UInt8.toNat_inj.1 (by simpa using e2)
                have hb : isBl b = true := e3
                have hb2 : b.toNat = 32 ∨ b.toNat = 9 := of_decide_eq_true hb
                subst e1 e2
                rcases hb2 with e3 | e3
                · have e3 : b = 32 := UInt8.toNat_inj.1 e3
                  subst e3
                  exact h1 (pre3.2 ⟨rfl, t, rfl⟩)
                · have e3 : b = 9 := UInt8.toNat_inj.1 e3
                  subst e3
                  exact h2 (pre3.2 ⟨rfl, t, rfl⟩)
          · intro hp
            obtain ⟨e1, t, ht⟩ := pre3.1 hp
            obtain ⟨r', rfl, h3⟩ := repX_head (by decide) ht
            obtain ⟨r2, rfl, _⟩ := repX_head (by decide) h3
            exact h2 (pre3.2 ⟨e1, r2, rfl⟩)
/-- Cut off on both sides: in either order. -/
theorem trim_either {p : UInt8 → Bool} : ∀ (n : Nat) (l : List UInt8), l.length ≤ n → ((l.reverse.dropWhile p).reverse).dropWhile p = ((l.dropWhile p).reverse.dropWhile p).reverse := by
  intro n
  induction n with
  | zero => intro l h; rw [List.eq_nil_of_length_eq_zero (Nat.le_zero.1 h)]; rfl
  | succ n ih =>
    intro l h
    cases l with
    | nil => rfl
    | cons c r =>
      simp only [List.length_cons] at h
      cases hc : p c
      · have e1 : (c :: r).dropWhile p = c :: r := by rw [List.dropWhile_cons_of_neg (by rw [hc]; simp)]
        rw [e1]
        obtain ⟨q, hq⟩ : ∃ q, ((c :: r).reverse.dropWhile p).reverse = c :: q := by
          rw [List.reverse_cons, List.dropWhile_append]
          split
          · rw [List.dropWhile_cons_of_neg (by rw [hc]; simp)]; exact ⟨[], rfl⟩
          · exact ⟨(r.reverse.dropWhile p).reverse, by simp⟩
        rw [hq, List.dropWhile_cons_of_neg (by rw [hc]; simp)]
      · have e1 : (c :: r).dropWhile p = r.dropWhile p := by rw [List.dropWhile_cons_of_pos hc]
        rw [e1, ← ih r (by omega), List.reverse_cons, List.dropWhile_append]
        split
        · rename_i he
          rw [List.isEmpty_iff] at he
          rw [List.dropWhile_cons_of_pos hc, he]
          rfl
        · rw [List.reverse_append]
          show (c :: (r.reverse.dropWhile p).reverse).dropWhile p = _
          rw [List.dropWhile_cons_of_pos hc]
theorem edge_set (c : UInt8) : ([32, 9, 13, 10] : List UInt8).contains c = edge c := by
  unfold edge isBl
  rw [Bool.eq_iff_iff]
  simp only [List.contains_cons, List.contains_nil, Bool.or_false, Bool.or_eq_true, beq_iff_eq, decide_eq_true_eq]
  have g : ∀ k : UInt8, c = k ↔ c.toNat = k.toNat := fun k => UInt8.toNat_inj.symm
  rw [g 32, g 9, g 13, g 10]
  show (c.toNat = 32 ∨ c.toNat = 9 ∨ c.toNat = 13 ∨ c.toNat = 10) ↔ _
  omega
theorem trim_is (l : List UInt8) : Lib.trimS l [32, 9, 13, 10] = trimE l := by
  unfold Lib.trimS Lib.trimLeftS Lib.trimRightS trimE
  have : (fun x => ([32, 9, 13, 10] : List UInt8).contains x) = edge := funext edge_set
  rw [this]
  exact trim_either l.length l (Nat.le_refl _)
theorem unfold_is (l : List UInt8) : Lib.trimS (Lib.replaceAll (Lib.replaceAll l [13, 10, 32] [32]) [13, 10, 9] [9]) [32, 9, 13, 10] = unfoldOf l := by
  rw [replace_is, replace_is, trim_is, rep_drop l.length l (Nat.le_refl _)]
  rfl
end Go.Proofs.YtnogpoojhhmadaaDoor.Header
