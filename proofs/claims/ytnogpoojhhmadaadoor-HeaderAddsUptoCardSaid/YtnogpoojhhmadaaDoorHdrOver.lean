/-
  HEADER: a content behind a field: its fields are as they were, but for places: plain.
-/
import Derived.Test.YtnogpoojhhmadaaDoorHdrCov
import Derived.Test.YtnogpoojhhmadaaDoorHdrWrite
namespace Go.Proofs.YtnogpoojhhmadaaDoor.Header
open Go.RowKit Base
def shF (p : Nat) (f : Fld) : Fld := ⟨f.nm, f.bd, f.fr + p, f.en + p⟩
theorem line_over (P D : List UInt8) (a : Nat) : lineOf (P ++ D) (P.length + a) = (P.length + (lineOf D a).1, P.length + (lineOf D a).2) := by
  unfold lineOf
  rw [List.drop_append, List.drop_eq_nil_of_le (by omega), Nat.add_sub_cancel_left, List.nil_append]
  show (_, _) = (_, _)
  congr 1 <;> simp only [] <;> omega
theorem getD_over (P D : List UInt8) (a : Nat) : (P ++ D).getD (P.length + a) 0 = D.getD a 0 := by
  simp [List.getD, List.getElem?_append_right (show P.length ≤ P.length + a by omega)]
theorem part_over (P D : List UInt8) (a e : Nat) : ((P ++ D).take (P.length + e)).drop (P.length + a) = (D.take e).drop a := by
  rw [List.take_append, List.take_of_length_le (by omega), Nat.add_sub_cancel_left, List.drop_append, List.drop_eq_nil_of_le (by omega), Nat.add_sub_cancel_left, List.nil_append]
theorem split_over (P D : List UInt8) (S0 : List Fld) : ∀ (n a : Nat) (T : List Fld), (T ≠ [] ∨ isBl (D.getD a 0) = false) →
    splitF (P ++ D) n (P.length + a) (S0 ++ T.map (shF P.length)) = (S0 ++ (splitF D n a T).1.map (shF P.length), P.length + (splitF D n a T).2)
  | 0, a, T, _ => rfl
  | n + 1, a, T, hT => by
    rw [splitF, splitF, line_over, getD_over]
    simp only []
    rw [List.length_append]
    by_cases h1 : a < D.length
    · rw [if_pos (show P.length + a < P.length + D.length by omega), if_pos h1]
      by_cases h2 : a < (lineOf D a).1 ∧ isBl (D.getD a 0) = true ∧ T ≠ []
      · obtain ⟨T0, f, rfl⟩ := snoc_of h2.2.2
        rw [if_pos ⟨by omega, h2.2.1, by simp⟩, if_pos h2, List.map_append, List.map_singleton, ← List.append_assoc, contF_snoc, contF_snoc]
        have := split_over P D S0 n (lineOf D a).2 (T0 ++ [⟨f.nm, (D.take (lineOf D a).1).drop (f.fr + f.nm.length + 1), f.fr, (lineOf D a).2⟩]) (Or.inl (by simp))
        rw [← this, List.map_append, List.map_singleton, ← List.append_assoc]
        unfold shF
        simp only []
        rw [show f.fr + P.length + f.nm.length + 1 = P.length + (f.fr + f.nm.length + 1) by omega, part_over, Nat.add_comm (lineOf D a).2 P.length]
      · rw [if_neg (fun x => h2 ⟨by omega, x.2.1, by
          rcases hT with hT | hT
          · exact hT
          · rw [x.2.1] at hT; cases hT⟩), if_neg h2, part_over]
        cases hc : colonOf ((D.take (lineOf D a).1).drop a) with
        | some c =>
          simp only []
          have := split_over P D S0 n (lineOf D a).2 (T ++ [⟨(D.take (a + c)).drop a, (D.take (lineOf D a).1).drop (a + c + 1), a, (lineOf D a).2⟩]) (Or.inl (by simp))
          rw [← this, List.map_append, List.map_singleton, ← List.append_assoc]
          unfold shF
          simp only []
          rw [show P.length + a + c = P.length + (a + c) by omega, part_over, show P.length + (a + c) + 1 = P.length + (a + c + 1) by omega, part_over, Nat.add_comm (lineOf D a).2 P.length, Nat.add_comm a P.length]
        | none =>
          simp only []
          by_cases h3 : (lineOf D a).1 = a
          · rw [if_pos (by omega), if_pos h3]
          · rw [if_neg (by omega), if_neg h3]
    · rw [if_neg (by omega), if_neg h1]
/-- More steps than there are bytes change nothing. -/
theorem split_fuel (l : List UInt8) : ∀ (n m a : Nat) (T : List Fld), l.length ≤ a + n → l.length ≤ a + m → splitF l n a T = splitF l m a T
  | 0, 0, _, _, _, _ => rfl
  | 0, m + 1, a, T, h1, _ => by
    rw [splitF, splitF, if_neg (by omega)]
  | n + 1, 0, a, T, _, h2 => by
    rw [splitF, splitF, if_neg (by omega)]
  | n + 1, m + 1, a, T, h1, h2 => by
    rw [splitF, splitF]
    split
    · rename_i hlt
      have hb := line_bounds hlt
      split
      · exact split_fuel l n m _ _ (by omega) (by omega)
      · split
        · exact split_fuel l n m _ _ (by omega) (by omega)
        · rfl
    · rfl
end Go.Proofs.YtnogpoojhhmadaaDoor.Header
