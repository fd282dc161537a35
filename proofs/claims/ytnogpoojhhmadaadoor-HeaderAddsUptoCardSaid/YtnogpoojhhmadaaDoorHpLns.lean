/-
  HEADER, plain: the lines of a field, as the program cuts them; which are too long.
-/
import Derived.Test.YtnogpoojhhmadaaDoorHpPlain2
import Derived.Test.YtnogpoojhhmadaaDoorHdrWrite
import Derived.Lib.IndexMore
namespace Go.Proofs.YtnogpoojhhmadaaDoor.Header
open Go.RowKit Base
/-- A text cut at each 13 10. -/
def linesP : Nat → List UInt8 → List (List UInt8)
  | 0, l => [l]
  | n + 1, l => if Lib.index l [13, 10] = -1 then [l] else l.take (Lib.index l [13, 10]).toNat :: linesP n (l.drop ((Lib.index l [13, 10]).toNat + 2))
theorem lines_fuel : ∀ (n m : Nat) (l : List UInt8), l.length ≤ n → l.length ≤ m → linesP n l = linesP m l
  | 0, 0, _, _, _ => rfl
  | 0, m + 1, l, h, _ => by
    rw [List.eq_nil_of_length_eq_zero (Nat.le_zero.1 h), linesP, linesP, if_pos (by rfl)]
  | n + 1, 0, l, _, h => by
    rw [List.eq_nil_of_length_eq_zero (Nat.le_zero.1 h), linesP, linesP, if_pos (by rfl)]
  | n + 1, m + 1, l, h1, h2 => by
    rw [linesP, linesP]
    split
    · rfl
    · rename_i hne
      rcases index_line l with ⟨h3, _⟩ | ⟨i, h3, _, h4⟩
      · exact absurd h3 hne
      · rw [h3, Int.toNat_natCast, lines_fuel n m _ (by rw [List.length_drop]; omega) (by rw [List.length_drop]; omega)]
def linesO (l : List UInt8) : List (List UInt8) := linesP l.length l
theorem lines_miss {l : List UInt8} (h : Lib.index l [13, 10] = -1) : linesO l = [l] := by
  unfold linesO
  cases l.length with
  | zero => rfl
  | succ n => rw [linesP, if_pos h]
theorem lines_hit {l : List UInt8} {i : Nat} (h : Lib.index l [13, 10] = (i : Int)) : linesO l = l.take i :: linesO (l.drop (i + 2)) := by
  rcases index_line l with ⟨h3, _⟩ | ⟨j, h3, _, h4⟩
  · rw [h3] at h; omega
  · have : j = i := by rw [h3] at h; omega
    subst this
    unfold linesO
    obtain ⟨n, hn⟩ : ∃ n, l.length = n + 1 := ⟨l.length - 1, by omega⟩
    conv => lhs; rw [hn, linesP, if_neg (by omega), h, Int.toNat_natCast]
    rw [lines_fuel n (l.drop (j + 2)).length _ (by rw [List.length_drop]; omega) (Nat.le_refl _)]
theorem lines_len : ∀ (n : Nat) (l : List UInt8), l.length ≤ n → (linesO l).length ≤ l.length + 1 := by
  intro n
  induction n with
  | zero => intro l h; rw [List.eq_nil_of_length_eq_zero (Nat.le_zero.1 h)]; decide
  | succ n ih =>
    intro l h
    rcases index_line l with ⟨h3, _⟩ | ⟨i, h3, _, h4⟩
    · rw [lines_miss h3]; simp
    · rw [lines_hit h3]
      have := ih (l.drop (i + 2)) (by rw [List.length_drop]; omega)
      rw [List.length_drop] at this
      simp only [List.length_cons]; omega
theorem lines_part : ∀ (n : Nat) (l : List UInt8), l.length ≤ n → ∀ x ∈ linesO l, x.length ≤ l.length := by
  intro n
  induction n with
  | zero => intro l h x hx; rw [List.eq_nil_of_length_eq_zero (Nat.le_zero.1 h)] at hx ⊢; have : linesO [] = [[]] := rfl; rw [this] at hx; simp at hx; rw [hx]; exact Nat.le_refl _
  | succ n ih =>
    intro l h x hx
    rcases index_line l with ⟨h3, _⟩ | ⟨i, h3, _, h4⟩
    · rw [lines_miss h3] at hx; simp at hx; rw [hx]; exact Nat.le_refl _
    · rw [lines_hit h3] at hx
      rcases List.mem_cons.1 hx with rfl | hx
      · rw [List.length_take]; omega
      · have := ih (l.drop (i + 2)) (by rw [List.length_drop]; omega) x hx
        rw [List.length_drop] at this
        omega
def longB (x : List UInt8) : Bool := decide (998 < x.length)
theorem lineL_end : ∀ (l : List UInt8), (lineL l = (l.length, l.length) → lineL (l ++ [13, 10]) = (l.length, l.length + 2)) ∧ (∀ i, lineL l = (i, i + 2) → lineL (l ++ [13, 10]) = (i, i + 2))
  | [] => ⟨fun _ => rfl, fun i h => by rw [lineL] at h; cases h⟩
  | [c] => by
    constructor
    · intro _
      show lineL (c :: 13 :: [10]) = _
      rw [lineL, if_neg (fun x => absurd x.2 (by decide))]
      rfl
    · intro i h
      rw [lineL] at h
      cases h
  | c :: d :: r => by
    obtain ⟨h1, h2⟩ := lineL_end (d :: r)
    constructor
    · intro h
      rw [lineL] at h
      show lineL (c :: d :: (r ++ [13, 10])) = _
      rw [lineL]
      split at h
      · simp at h
      · rename_i hn
        rw [if_neg hn]
        have h3 : lineL (d :: r) = ((d :: r).length, (d :: r).length) := by
          simp only [Prod.mk.injEq, List.length_cons] at h
          apply Prod.ext
          · simp only [List.length_cons]; omega
          · simp only [List.length_cons]; omega
        have h4 := h1 h3
        rw [List.cons_append] at h4
        rw [h4]
        rfl
    · intro i h
      rw [lineL] at h
      show lineL (c :: d :: (r ++ [13, 10])) = _
      rw [lineL]
      split at h
      · rename_i hy
        rw [if_pos hy]
        exact h
      · rename_i hn
        rw [if_neg hn]
        simp only [Prod.mk.injEq] at h
        obtain ⟨j, hj⟩ : ∃ j, j = i - 1 := ⟨_, rfl⟩
        have h3 : lineL (d :: r) = (j, j + 2) := by
          apply Prod.ext
          · show _ = j; omega
          · show _ = j + 2; omega
        have h4 := h2 j h3
        rw [List.cons_append] at h4
        rw [h4]
        show (j + 1, j + 2 + 1) = (i, i + 2)
        have : i = j + 1 := by have := h.1; rw [h3] at this; exact this.symm
        rw [this]
theorem long_is (l : List UInt8) : ∀ (n a : Nat), a ≤ l.length → l.length + 2 ≤ a + n → longF (l ++ [13, 10]) n a = (linesO (l.drop a)).any longB
  | 0, a, h, h2 => by omega
  | n + 1, a, h, h2 => by
    have hL : (l ++ [13, 10]).length = l.length + 2 := by simp
    have hdr : (l ++ [13, 10]).drop a = l.drop a ++ [13, 10] := List.drop_append_of_le_length h
    have hlen : (l.drop a).length = l.length - a := by rw [List.length_drop]
    rw [longF, if_pos (by omega)]
    rcases index_line (l.drop a) with ⟨h3, h4⟩ | ⟨i, h3, h4, h5⟩
    · have he : lineOf (l ++ [13, 10]) a = (l.length, l.length + 2) := by
        unfold lineOf
        rw [hdr, (lineL_end _).1 h4, hlen]
        apply Prod.ext
        · show a + (l.length - a) = _; omega
        · show a + (l.length - a + 2) = _; omega
      rw [he, lines_miss h3]
      show (if 998 < l.length - a then true else longF (l ++ [13, 10]) n (l.length + 2)) = _
      simp only [List.any_cons, List.any_nil, Bool.or_false]
      unfold longB
      rw [hlen]
      split
      · rename_i hh; rw [decide_eq_true hh]
      · rename_i hh
        rw [decide_eq_false hh]
        cases n with
        | zero => rfl
        | succ m => rw [longF, if_neg (by omega)]
    · have he : lineOf (l ++ [13, 10]) a = (a + i, a + i + 2) := by
        unfold lineOf
        rw [hdr, (lineL_end _).2 i h4]
        apply Prod.ext
        · rfl
        · show a + (i + 2) = _; omega
      rw [he, lines_hit h3, List.drop_drop]
      show (if 998 < a + i - a then true else longF (l ++ [13, 10]) n (a + i + 2)) = _
      rw [long_is l n (a + i + 2) (by omega) (by omega), List.any_cons]
      unfold longB
      rw [List.length_take, hlen, Nat.min_eq_left (by omega), show a + i - a = i by omega, show a + (i + 2) = a + i + 2 by omega]
      split
      · rename_i hh; rw [decide_eq_true hh]; rfl
      · rename_i hh; rw [decide_eq_false hh]; rfl
/-- A field is too long, if one of its pieces is. -/
theorem long_field (f : List UInt8) : longF (f ++ [13, 10]) (f ++ [13, 10]).length 0 = (linesO f).any longB := by
  rw [long_is f _ 0 (Nat.zero_le _) (by simp)]
  rfl
end Go.Proofs.YtnogpoojhhmadaaDoor.Header
