/-
  DATE, the program, plain: the calendar by numbers; what is read thing by thing is what the words say.
-/
import Derived.Test.YtklhgaioolamfaaDoorDatAhd
namespace Go.Proofs.YtklhgaioolamfaaDoor.Date
/-! ### The first day of a year -/
def newZ (y : Nat) : Int := 365 * ((y : Int) - 1) + (((y - 1) / 4 : Nat) : Int) - (((y - 1) / 100 : Nat) : Int) + (((y - 1) / 400 : Nat) : Int) - 719162
theorem new_succ {y : Nat} (h : 1 ≤ y) : newZ (y + 1) = newZ y + (yd y : Int) := by
  obtain ⟨j, rfl⟩ : ∃ j, y = j + 1 := ⟨y - 1, by omega⟩
  unfold newZ
  have h1 : ((j + 1 + 1 : Nat) : Int) = (j : Int) + 2 := by omega
  have h2 : ((j + 1 : Nat) : Int) = (j : Int) + 1 := by omega
  rw [Nat.add_sub_cancel, Nat.add_sub_cancel, h1, h2]
  cases hl : leapN (j + 1)
  · have hy : yd (j + 1) = 365 := by unfold yd; rw [hl]; rfl
    rw [hy]
    unfold leapN at hl
    simp only [Bool.and_eq_false_iff, Bool.or_eq_false_iff, decide_eq_false_iff_not] at hl
    omega
  · have hy : yd (j + 1) = 366 := by unfold yd; rw [hl]; rfl
    rw [hy]
    unfold leapN at hl
    simp only [Bool.and_eq_true, Bool.or_eq_true, decide_eq_true_eq] at hl
    omega
theorem new_bef : ∀ k, newZ (1970 + k) = (befY k : Int)
  | 0 => by decide
  | k + 1 => by
    rw [← Nat.add_assoc, new_succ (by omega), new_bef k, befY]
    omega
theorem new_rev {y : Nat} (h : 1 ≤ y) : ∀ k, newZ (y + k) = newZ y + (revF y k : Int)
  | 0 => by simp [revF]
  | k + 1 => by
    rw [← Nat.add_assoc, new_succ (by omega), new_rev h k, revF]
    omega
theorem new_eq {y : Nat} (h : 1 ≤ y) : newZ y = (befY (y - 1970) : Int) - (revF y (1970 - y) : Int) := by
  rcases Nat.lt_or_ge y 1970 with h1 | h1
  · have h2 := new_rev h (1970 - y)
    rw [show y + (1970 - y) = 1970 + 0 by omega, new_bef 0] at h2
    rw [show y - 1970 = 0 by omega]
    omega
  · have h2 := new_bef (y - 1970)
    rw [show 1970 + (y - 1970) = y by omega] at h2
    rw [h2, show 1970 - y = 0 by omega]
    simp [revF]
/-- The day of a date. -/
def dayZ (y m d : Nat) : Int := newZ y + (d : Int) - 1 + (befM y (m - 1) : Int)
theorem day_eq {y m d : Nat} (h : 1 ≤ y) : dayZ y m d = aheadZ y m d := by
  unfold dayZ aheadZ
  rw [new_eq h]
  omega
theorem rev0 : revF 0 1970 = 719528 := by decide +kernel
theorem day_zero {m d : Nat} (hm : m ≤ 12) (hd : d ≤ 31) : dayZ 0 m d ≤ -700000 ∧ aheadZ 0 m d ≤ -700000 := by
  have h1 := befM_le 0 (m - 1)
  have h2 := rev0
  refine ⟨?_, ?_⟩
  · unfold dayZ newZ
    omega
  · unfold aheadZ
    rw [show 1970 - 0 = 1970 by omega, show (0 : Nat) - 1970 = 0 by omega]
    simp only [befY]
    omega
theorem new_hi {y : Nat} (h : y ≤ 9000000000) : newZ y ≤ 9000000000000 := by unfold newZ; omega
theorem new_lo (y : Nat) : -1000000 ≤ newZ y := by unfold newZ; omega
/-! ### The year of a day -/
/-- The year at which the program stops. -/
theorem year_at {D k : Nat} (h1 : befY k ≤ D) (h2 : D < befY (k + 1)) : yearO D 1970 = (1970 + k, D - befY k) := by
  obtain ⟨k', d', y1, y2, y3, _⟩ := year_spec _ D 0 (Nat.le_refl _)
  have y1' : yearO D 1970 = (1970 + k', d') := y1
  have y2' : befY k' + d' = D := by simpa [befY] using y2
  have hk : k' = k := by
    rcases Nat.lt_trichotomy k' k with h | h | h
    · have := befY_lt h
      omega
    · exact h
    · have := befY_lt h
      rw [befY] at h2
      omega
  subst hk
  rw [y1', ← y2']
  congr 1
  omega
theorem year_from (D : Nat) : befY (D / 366) ≤ D := by have := befY_le (D / 366); omega
/-! ### What is read, thing by thing -/
def dropB (l : List UInt8) : List UInt8 := l.dropWhile (· == 32)
/-- The first thing, and what stands behind it. -/
def headW (l : List UInt8) : List UInt8 := (wordsD l).headD []
theorem u32 {c : UInt8} : (c == 32) = true ↔ c.toNat = 32 := by
  rw [beq_iff_eq, ← UInt8.toNat_inj]; rfl
theorem dropB_pos {c : UInt8} (r : List UInt8) (h : c.toNat = 32) : dropB (c :: r) = dropB r := by
  unfold dropB
  rw [List.dropWhile_cons, if_pos (u32.2 h)]
theorem dropB_neg {c : UInt8} (r : List UInt8) (h : c.toNat ≠ 32) : dropB (c :: r) = c :: r := by
  unfold dropB
  rw [List.dropWhile_cons, if_neg (fun x => h (u32.1 x))]
theorem words_drop : ∀ l, wordsD (dropB l) = wordsD l
  | [] => rfl
  | c :: r => by
    by_cases h : c.toNat = 32
    · have hd : dropB (c :: r) = dropB r := dropB_pos r h
      have hw : wordsD (c :: r) = wordsD r := by unfold wordsD; rw [wordsG, if_pos h, if_pos rfl]
      rw [hd, hw, words_drop r]
    · have hd : dropB (c :: r) = c :: r := dropB_neg r h
      rw [hd]
/-- What stands ahead of the first blank is a thing. -/
theorem words_cut : ∀ (x cur : List UInt8), NoBl x → (cur ≠ [] ∨ x ≠ []) → (∀ r, wordsG (x ++ 32 :: r) cur = (cur ++ x) :: wordsG r []) ∧ wordsG x cur = [cur ++ x]
  | [], cur, _, h => by
    have hc : cur ≠ [] := h.elim id (fun x => absurd rfl x)
    refine ⟨fun r => ?_, ?_⟩
    · show wordsG (32 :: r) cur = _
      rw [wordsG, if_pos (by decide), if_neg hc, List.append_nil]
    · rw [wordsG, if_neg hc, List.append_nil]
  | c :: x, cur, hb, _ => by
    have hc : c.toNat ≠ 32 := hb c List.mem_cons_self
    obtain ⟨h1, h2⟩ := words_cut x (cur ++ [c]) (fun d hd => hb d (List.mem_cons_of_mem _ hd)) (Or.inl (by simp))
    refine ⟨fun r => ?_, ?_⟩
    · rw [List.cons_append, wordsG, if_neg hc, h1, List.append_assoc]; rfl
    · rw [wordsG, if_neg hc, h2, List.append_assoc]; rfl
theorem drop_head {l : List UInt8} (h : dropB l ≠ []) : ∃ c r, dropB l = c :: r ∧ c.toNat ≠ 32 := by
  induction l with
  | nil => exact absurd rfl h
  | cons c r ih =>
    by_cases h1 : c.toNat = 32
    · have hd : dropB (c :: r) = dropB r := dropB_pos r h1
      rw [hd] at h ⊢
      exact ih h
    · exact ⟨c, r, dropB_neg r h1, h1⟩
theorem drop_nil {l : List UInt8} : dropB l = [] ↔ wordsD l = [] := by
  constructor
  · intro h
    rw [← words_drop, h]; rfl
  · intro h
    by_cases h1 : dropB l = []
    · exact h1
    · obtain ⟨c, r, h2, h3⟩ := drop_head h1
      rw [← words_drop, h2] at h
      exfalso
      have hw : ∀ (r cur : List UInt8), cur ≠ [] → wordsG r cur ≠ [] := by
        intro r
        induction r with
        | nil => intro cur hc; rw [wordsG, if_neg hc]; exact List.cons_ne_nil _ _
        | cons d q ih =>
          intro cur hc
          rw [wordsG]
          by_cases hd : d.toNat = 32
          · rw [if_pos hd, if_neg hc]; exact List.cons_ne_nil _ _
          · rw [if_neg hd]; exact ih _ (by simp)
      unfold wordsD at h
      rw [wordsG, if_neg h3] at h
      exact hw r _ (by simp) h
/-- A cut at the first blank. -/
theorem cut_words {d x r : List UInt8} {is : Bool} (hx : NoBl x) (h : if is = true then d = x ++ 32 :: r else d = x ∧ r = []) (h0 : dropB d = d) : headW d = x ∧ wordsD r = (wordsD d).tail := by
  by_cases hx0 : x = []
  · subst hx0
    cases is with
    | true =>
      have h : d = [] ++ 32 :: r := h
      exfalso
      rw [h] at h0
      have hd : dropB ([] ++ 32 :: r) = dropB r := dropB_pos r (by decide)
      rw [hd] at h0
      have hle : (dropB r).length ≤ r.length := by unfold dropB; exact (List.dropWhile_suffix _).length_le
      have := congrArg List.length h0
      simp at this; omega
    | false =>
      have h : d = [] ∧ r = [] := h
      rw [h.1, h.2]; exact ⟨rfl, rfl⟩
  · obtain ⟨h1, h2⟩ := words_cut x [] hx (Or.inr hx0)
    cases is with
    | true =>
      have h : d = x ++ 32 :: r := h
      have hw : wordsD d = x :: wordsD r := by rw [h]; exact h1 r
      unfold headW
      rw [hw]; exact ⟨rfl, rfl⟩
    | false =>
      have h : d = x ∧ r = [] := h
      have hw : wordsD d = [x] := by rw [h.1]; exact h2
      unfold headW
      rw [hw, h.2]; exact ⟨rfl, rfl⟩
theorem drop_drop (l : List UInt8) : dropB (dropB l) = dropB l := by
  by_cases h : dropB l = []
  · rw [h]; rfl
  · obtain ⟨c, r, h2, h3⟩ := drop_head h
    rw [h2]
    exact dropB_neg r h3
theorem head_drop (l : List UInt8) : headW (dropB l) = headW l := by unfold headW; rw [words_drop]
end Go.Proofs.YtklhgaioolamfaaDoor.Date
