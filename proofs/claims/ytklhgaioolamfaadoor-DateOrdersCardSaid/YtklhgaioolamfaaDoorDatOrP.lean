/-
  DATE, the laws: the order of dates, plainly.
-/
import Derived.Test.YtklhgaioolamfaaDoorDatSh
namespace Go.Proofs.YtklhgaioolamfaaDoor.Date
open Go.RowKit Base
def civI (c : Civ) : Nat → Nat
  | 0 => c.y
  | 1 => c.m
  | 2 => c.d
  | 3 => c.h
  | 4 => c.mi
  | _ => c.s
theorem civ_cell {w : World} {g : Nat} {c : Civ} (h : w.heap[g]? = some (.cells (sixV c.y c.m c.d c.h c.mi c.s) 23 (0, 0))) {i : Nat} (hi : i < 6) : w.cell? ⟨g, i, none⟩ = some (.int .i64 (civI c i : Int)) := by
  rcases (by omega : i = 0 ∨ i = 1 ∨ i = 2 ∨ i = 3 ∨ i = 4 ∨ i = 5) with rfl | rfl | rfl | rfl | rfl | rfl
  all_goals exact cell_of_row w g _ _ _ _ h
/-- Where two dates first differ. -/
def FirstLt (a b : Civ) : Prop := ∃ j, j < 6 ∧ (∀ k, k < j → civI a k = civI b k) ∧ civI a j < civI b j
theorem first_lt {a b : Civ} (h : FirstLt a b) : dateLt a b := by
  obtain ⟨j, hj, he, hl⟩ := h
  unfold dateLt
  rcases (by omega : j = 0 ∨ j = 1 ∨ j = 2 ∨ j = 3 ∨ j = 4 ∨ j = 5) with rfl | rfl | rfl | rfl | rfl | rfl
  · exact Or.inl hl
  · exact Or.inr ⟨he 0 (by omega), Or.inl hl⟩
  · exact Or.inr ⟨he 0 (by omega), Or.inr ⟨he 1 (by omega), Or.inl hl⟩⟩
  · exact Or.inr ⟨he 0 (by omega), Or.inr ⟨he 1 (by omega), Or.inr ⟨he 2 (by omega), Or.inl hl⟩⟩⟩
  · exact Or.inr ⟨he 0 (by omega), Or.inr ⟨he 1 (by omega), Or.inr ⟨he 2 (by omega), Or.inr ⟨he 3 (by omega), Or.inl hl⟩⟩⟩⟩
  · exact Or.inr ⟨he 0 (by omega), Or.inr ⟨he 1 (by omega), Or.inr ⟨he 2 (by omega), Or.inr ⟨he 3 (by omega), Or.inr ⟨he 4 (by omega), hl⟩⟩⟩⟩⟩
theorem all_eq {a b : Civ} (h : ∀ k, k < 6 → civI a k = civI b k) : a = b := by
  obtain ⟨a1, a2, a3, a4, a5, a6⟩ := a
  obtain ⟨b1, b2, b3, b4, b5, b6⟩ := b
  have h0 := h 0 (by omega); have h1 := h 1 (by omega); have h2 := h 2 (by omega); have h3 := h 3 (by omega); have h4 := h 4 (by omega); have h5 := h 5 (by omega)
  simp only [civI] at h0 h1 h2 h3 h4 h5
  rw [h0, h1, h2, h3, h4, h5]
theorem day_week (n : Nat) : dayOf (n + 604800) = dayOf n := by
  unfold dayOf
  rw [show n + 604800 = n + 86400 * 7 by omega, Nat.add_mul_div_left _ _ (by decide : 0 < 86400)]
  omega
theorem civ_ways3 {x y : Civ} {i : Nat} (hi : i < 6) (he : ∀ k, k < i → civI x k = civI y k) : (civI x i < civI y i ∧ FirstLt x y) ∨ (civI y i < civI x i ∧ FirstLt y x) ∨ (civI x i = civI y i ∧ ∀ k, k < i + 1 → civI x k = civI y k) := by
  rcases Nat.lt_trichotomy (civI x i) (civI y i) with h | h | h
  · exact Or.inl ⟨h, i, hi, he, h⟩
  · refine Or.inr (Or.inr ⟨h, fun k hk => ?_⟩)
    rcases (by omega : k < i ∨ k = i) with h2 | rfl
    · exact he k h2
    · exact h
  · exact Or.inr (Or.inl ⟨h, i, hi, fun k hk => (he k hk).symm, h⟩)
theorem civ_waysE (t : Int) : ∃ a b c d f g n : Int, (∀ e w w', CivEnd t w e w' ↔ (e = .returned (.tuple #[.agg (sixV a b c d f g), .int .i64 n]) ∧ Below w.heap.size w w')) ∧ ((t < 0 ∨ 253402300799 < t) → n = 130) := by
  by_cases h : t < 0 ∨ 253402300799 < t
  · exact ⟨0, 0, 0, 0, 0, 0, 130, fun e w w' => by unfold CivEnd; rw [if_pos h], fun _ => rfl⟩
  · exact ⟨_, _, _, _, _, _, 0, fun e w w' => by unfold CivEnd; rw [if_neg h]; exact Iff.rfl, fun h2 => absurd h2 h⟩
end Go.Proofs.YtklhgaioolamfaaDoor.Date
