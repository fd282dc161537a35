/-
  Lists of ports: each once, rising: put in one by one, or sorted and made one of each.
-/
import Derived.Test.YtfmphhcdbocgnaaPipeOnce
namespace Go.Proofs.Ytfmphhcdbocgnaa.Pipe
/-- Put in where it belongs, if it isn't there. -/
def putIn (l : List (List UInt8)) (s : List UInt8) : List (List UInt8) :=
  match l with
  | [] => [s]
  | a :: r => if a < s then a :: putIn r s else if a = s then a :: r else s :: a :: r
def Rising (l : List (List UInt8)) : Prop := l.Pairwise (· < ·)
theorem lt_tri {a b : List UInt8} (h1 : ¬ a < b) (h2 : ¬ a = b) : b < a := by
  have h3 : b ≤ a := List.not_lt.1 h1
  rcases List.le_iff_lt_or_eq.1 h3 with h | h
  · exact h
  · exact absurd h.symm h2
theorem mem_putIn (l : List (List UInt8)) (s x : List UInt8) : x ∈ putIn l s ↔ x ∈ l ∨ x = s := by
  induction l with
  | nil => simp [putIn]
  | cons a r ih =>
    unfold putIn
    split
    · simp only [List.mem_cons, ih]; constructor
      · rintro (h | h | h)
        · exact Or.inl (Or.inl h)
        · exact Or.inl (Or.inr h)
        · exact Or.inr h
      · rintro ((h | h) | h)
        · exact Or.inl h
        · exact Or.inr (Or.inl h)
        · exact Or.inr (Or.inr h)
    · split
      · rename_i h; subst h
        simp only [List.mem_cons]; constructor
        · exact Or.inl
        · rintro (h | h)
          · exact h
          · exact Or.inl h
      · simp only [List.mem_cons]; constructor
        · rintro (h | h | h)
          · exact Or.inr h
          · exact Or.inl (Or.inl h)
          · exact Or.inl (Or.inr h)
        · rintro ((h | h) | h)
          · exact Or.inr (Or.inl h)
          · exact Or.inr (Or.inr h)
          · exact Or.inl h
theorem putIn_rising {l : List (List UInt8)} (h : Rising l) (s : List UInt8) : Rising (putIn l s) := by
  induction l with
  | nil => simp [putIn, Rising]
  | cons a r ih =>
    obtain ⟨h1, h2⟩ := List.pairwise_cons.1 h
    unfold putIn
    split
    · rename_i hlt
      refine List.pairwise_cons.2 ⟨fun x hx => ?_, ih h2⟩
      rcases (mem_putIn r s x).1 hx with hx | rfl
      · exact h1 x hx
      · exact hlt
    · split
      · exact h
      · rename_i n1 n2
        have hs := lt_tri n1 n2
        refine List.pairwise_cons.2 ⟨fun x hx => ?_, h⟩
        rcases List.mem_cons.1 hx with rfl | hx
        · exact hs
        · exact List.lt_trans hs (h1 x hx)
theorem rising_eq {a b : List (List UInt8)} (ha : Rising a) (hb : Rising b) (h : ∀ x, x ∈ a ↔ x ∈ b) : a = b := by
  induction a generalizing b with
  | nil =>
    cases b with
    | nil => rfl
    | cons y r => exact absurd ((h y).2 (by simp)) (by simp)
  | cons x l ih =>
    cases b with
    | nil => exact absurd ((h x).1 (by simp)) (by simp)
    | cons y r =>
      obtain ⟨a1, a2⟩ := List.pairwise_cons.1 ha
      obtain ⟨b1, b2⟩ := List.pairwise_cons.1 hb
      have hxy : x = y := by
        rcases List.mem_cons.1 ((h x).1 (by simp)) with e | hx
        · exact e
        · rcases List.mem_cons.1 ((h y).2 (by simp)) with e | hy
          · exact e.symm
          · exact absurd (List.lt_trans (a1 y hy) (b1 x hx)) (List.lt_irrefl _)
      subst hxy
      congr 1
      refine ih a2 b2 (fun z => ?_)
      constructor
      · intro hz
        rcases List.mem_cons.1 ((h z).1 (List.mem_cons_of_mem _ hz)) with rfl | hz'
        · exact absurd (a1 _ hz) (List.lt_irrefl _)
        · exact hz'
      · intro hz
        rcases List.mem_cons.1 ((h z).2 (List.mem_cons_of_mem _ hz)) with rfl | hz'
        · exact absurd (b1 _ hz) (List.lt_irrefl _)
        · exact hz'
theorem foldl_putIn (xs : List (List UInt8)) : ∀ l, Rising l → Rising (xs.foldl putIn l) ∧ ∀ x, x ∈ xs.foldl putIn l ↔ x ∈ l ∨ x ∈ xs := by
  induction xs with
  | nil => intro l h; exact ⟨h, fun x => by simp⟩
  | cons a r ih =>
    intro l h
    obtain ⟨h1, h2⟩ := ih (putIn l a) (putIn_rising h a)
    refine ⟨h1, fun x => ?_⟩
    rw [List.foldl_cons, h2 x, mem_putIn, List.mem_cons]
    constructor
    · rintro ((h | h) | h)
      · exact Or.inl h
      · exact Or.inr (Or.inl h)
      · exact Or.inr (Or.inr h)
    · rintro (h | h | h)
      · exact Or.inl (Or.inl h)
      · exact Or.inl (Or.inr h)
      · exact Or.inr h
/-- A sorted list, one of each. -/
theorem compact_rising {zs : List (List UInt8)} (h : zs.Pairwise (· ≤ ·)) : Rising (Lib.compact zs) ∧ ∀ x, x ∈ Lib.compact zs ↔ x ∈ zs := by
  have hget : ∀ i (hi : i < zs.length), zs.toArray[i]! = zs[i] := fun i hi => by simp [hi]
  have hle : ∀ i j (hj : j < zs.length) (hij : i ≤ j), zs[i]'(by omega) ≤ zs[j] := fun i j hj hij => by
    rcases Nat.lt_or_ge i j with hlt | hge
    · exact List.pairwise_iff_getElem.1 h i j (by omega) hj hlt
    · obtain rfl : i = j := by omega
      exact List.le_refl _
  unfold Lib.compact Lib.compactUpTo
  constructor
  · unfold Rising
    rw [List.pairwise_map]
    have hr : ((List.range zs.length).filter (Lib.keeps zs.toArray)).Pairwise (· < ·) := List.Pairwise.filter _ List.pairwise_lt_range
    refine List.Pairwise.imp_of_mem (R := (· < ·)) ?_ hr
    intro i j hi hj hij
    obtain ⟨hi1, hi2⟩ := List.mem_filter.1 hi
    obtain ⟨hj1, hj2⟩ := List.mem_filter.1 hj
    have hjl : j < zs.length := List.mem_range.1 hj1
    rw [hget i (by omega), hget j hjl]
    have h1 := hle i (j - 1) (by omega) (by omega)
    have h2 := hle (j - 1) j hjl (by omega)
    have hne : zs[j] ≠ zs[j - 1]'(by omega) := by
      intro e
      have := Lib.keeps_neg (d := zs.toArray) (m := j) (by omega) (by rw [hget j hjl, hget (j - 1) (by omega)]; exact e)
      rw [this] at hj2; cases hj2
    have h3 : zs[j - 1]'(by omega) < zs[j] := lt_tri (fun hlt => absurd hlt (List.not_lt.2 h2)) (fun e => hne e)
    exact List.lt_of_le_of_lt h1 h3
  · intro x
    rw [List.mem_map]
    constructor
    · rintro ⟨i, hi, rfl⟩
      have hil : i < zs.length := List.mem_range.1 (List.mem_filter.1 hi).1
      rw [hget i hil]
      exact List.getElem_mem hil
    · intro hx
      obtain ⟨i, hil, rfl⟩ := List.getElem_of_mem hx
      clear hx
      induction i with
      | zero => exact ⟨0, List.mem_filter.2 ⟨List.mem_range.2 hil, Lib.keeps_lt_one _ 0 (by omega)⟩, hget 0 hil⟩
      | succ k ih =>
        by_cases he : zs[k + 1] = zs[k]'(by omega)
        · obtain ⟨j, hj, hje⟩ := ih (by omega)
          exact ⟨j, hj, hje.trans he.symm⟩
        · refine ⟨k + 1, List.mem_filter.2 ⟨List.mem_range.2 hil, Lib.keeps_pos ?_⟩, hget _ hil⟩
          rw [hget _ hil, Nat.add_sub_cancel, hget k (by omega)]
          exact he
/-- The two ways come to one. -/
theorem once_eq (xs : List (List UInt8)) : xs.foldl putIn [] = onceL xs := by
  have tr : ∀ a b c : List UInt8, decide (a ≤ b) = true → decide (b ≤ c) = true → decide (a ≤ c) = true := fun a b c h1 h2 => by
    rw [decide_eq_true_iff] at *; exact List.le_trans h1 h2
  have tot : ∀ a b : List UInt8, (decide (a ≤ b) || decide (b ≤ a)) = true := fun a b => by
    rw [Bool.or_eq_true, decide_eq_true_iff, decide_eq_true_iff]; exact List.le_total a b
  have p1 := (List.pairwise_mergeSort tr tot xs).imp (fun {a b} h => of_decide_eq_true h)
  obtain ⟨h1, h2⟩ := compact_rising p1
  obtain ⟨k1, k2⟩ := foldl_putIn xs [] List.Pairwise.nil
  refine rising_eq k1 h1 (fun x => ?_)
  rw [k2 x]
  unfold onceL
  rw [h2 x, (List.mergeSort_perm _ _).mem_iff]
  simp
end Go.Proofs.Ytfmphhcdbocgnaa.Pipe
