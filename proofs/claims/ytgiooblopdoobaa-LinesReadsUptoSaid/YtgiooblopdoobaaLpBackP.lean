/-
  LINES, LinesBack: plain: the lines of what is sent of a content are the content's.
-/
import Derived.Test.YtgiooblopdoobaaLpShown
namespace Go.Proofs.Ytgiooblopdoobaa.Lines
open Go.RowKit Base
def dz (y : List UInt8) : List UInt8 := if y.head? = some 46 then 46 :: y else y
theorem hasB_append (d : UInt8) (a b : List UInt8) : hasB d (a ++ b) = (hasB d a || hasB d b) := by unfold hasB; rw [List.any_append]
theorem hasB_cons (d c : UInt8) (b : List UInt8) : hasB d (c :: b) = (decide (c.toNat = d.toNat) || hasB d b) := rfl
theorem good_split {l : List UInt8} (hc : codeOf l = 0) (h0 : l ≠ []) : ∃ y r, l = y ++ 13 :: 10 :: r ∧ NoEnd y ∧ hasB 13 y = false ∧ hasB 0 y = false ∧ y.length ≤ 998 ∧ codeOf r = 0 := by
  have hb := code_bad hc
  rw [← code_eq] at hc
  unfold codeP at hc
  have hz : hasB 0 l = false := by
    cases h : hasB 0 l with
    | false => rfl
    | true => rw [h] at hc; simp at hc
  have hlo : (wholesO l).any longW = false := by
    cases h : (wholesO l).any longW with
    | false => rfl
    | true => rw [hz, hb, h] at hc; simp at hc
  have hw := wholes_cons h0
  rw [hw, List.any_cons, Bool.or_eq_false_iff] at hb hlo
  have hle := endOf_le l
  have hE : endOf l < l.length := by
    rcases Nat.lt_or_ge (endOf l) l.length with h | h
    · exact h
    · have hEl : endOf l = l.length := by omega
      have hne : NoEnd l := by
        have := endOf_noEnd l
        rwa [hEl, List.take_length] at this
      have h2 := (no_suffix hne h0).1
      have hb1 := hb.1
      rw [hEl, List.take_of_length_le (by omega), h2] at hb1
      cases hb1
  have hne := endOf_noEnd l
  have hls := line_split hE
  rw [take_line hE] at hb hlo
  obtain ⟨x, hx⟩ : ∃ x, x = l.take (endOf l) := ⟨_, rfl⟩
  obtain ⟨r, hr⟩ : ∃ r, r = l.drop (endOf l + 1) := ⟨_, rfl⟩
  rw [← hx] at hb hlo hne
  rw [← hx, ← hr] at hls
  rw [← hr] at hb hlo
  have hb1 := hb.1
  rw [bad_line] at hb1
  have hl1 := hlo.1
  rw [long_whole hb.1] at hl1
  rcases List.eq_nil_or_concat x with rfl | ⟨y, a, rfl⟩
  · cases hb1
  · rw [List.concat_eq_append] at *
    rw [lineBad_snoc, Bool.or_eq_false_iff] at hb1
    have ha : a = 13 := by simpa using hb1.1
    subst ha
    rw [hls, hasB_append, hasB_append, Bool.or_eq_false_iff, Bool.or_eq_false_iff] at hz
    refine ⟨y, r, by rw [hls]; simp, fun c hcm => hne c (by simp [hcm]), hb1.2, hz.1.1, ?_, ?_⟩
    · rw [decide_eq_false_iff_not] at hl1
      rw [List.length_append, List.length_singleton] at hl1
      omega
    · rw [← code_eq]
      unfold codeP
      have hzr : hasB 0 r = false := by
        have := hz.2
        rw [hasB_cons, Bool.or_eq_false_iff] at this
        exact this.2
      rw [hzr, hb.2, hlo.2]
      rfl
theorem dz_len (y : List UInt8) : (dz y).length ≤ y.length + 1 := by unfold dz; split <;> simp
theorem dz_noEnd {y : List UInt8} (h : NoEnd y) : NoEnd (dz y) := by
  unfold dz
  split
  · intro c hc
    rcases List.mem_cons.1 hc with rfl | hc
    · decide
    · exact h c hc
  · exact h
theorem dz_has {y : List UInt8} {d : UInt8} (h : hasB d y = false) (hd : d.toNat ≠ 46) : hasB d (dz y) = false := by
  unfold dz
  split
  · rw [hasB_cons, h, decide_eq_false (fun e => hd e.symm)]; rfl
  · exact h
theorem dot_dz (y : List UInt8) : dotOf (dz y) = (y, false) := by
  unfold dz
  cases y with
  | nil => rfl
  | cons c r =>
    by_cases h : c = 46
    · subst h
      rfl
    · have h2 : ¬ c.toNat = 46 := fun e => h (UInt8.toNat_inj.1 e)
      have h3 : ¬ (c :: r).head? = some 46 := by simpa using h
      rw [if_neg h3, dotOf, if_neg h2]
theorem stuff_cons {y r : List UInt8} (h : NoEnd y) : stuffOf (y ++ 13 :: 10 :: r) = dz y ++ 13 :: 10 :: stuffOf r := by
  unfold stuffOf
  have h1 : y ++ 13 :: 10 :: r = (y ++ [13]) ++ 10 :: r := by simp
  have h2 : NoEnd (y ++ [13]) := fun c hc => by
    rcases List.mem_append.1 hc with hc | hc
    · exact h c hc
    · rw [List.mem_singleton.1 hc]; decide
  rw [h1, dot_line _ _ h2]
  have h3 : dotW (y ++ [13] ++ [10]) = dz y ++ [13, 10] := by
    unfold dotW dz
    cases y with
    | nil => rfl
    | cons c q =>
      show (if (c :: (q ++ [13] ++ [10])).head? = some 46 then _ else _) = (if (c :: q).head? = some 46 then _ else _) ++ [13, 10]
      by_cases hc : c = 46
      · subst hc; simp
      · have e1 : ¬ (c :: (q ++ [13] ++ [10])).head? = some 46 := by simpa using hc
        have e2 : ¬ (c :: q).head? = some 46 := by simpa using hc
        rw [if_neg e1, if_neg e2]
        simp
  rw [h3]
  simp
theorem endOf_append : ∀ (x r : List UInt8), NoEnd x → endOf (x ++ 10 :: r) = x.length
  | [], r, _ => rfl
  | c :: x, r, h => by
    rw [List.cons_append, endOf, if_neg (h c (by simp)), endOf_append x r (fun d hd => h d (by simp [hd])), List.length_cons]
theorem told_line {z S : List UInt8} (hz : NoEnd z) (h0 : hasB 0 z = false) (h13 : hasB 13 z = false) (hl : z.length ≤ 999) :
    endOf (z ++ 13 :: 10 :: S) = z.length + 1 ∧ lineTold 999 ((z ++ 13 :: 10 :: S).take (z.length + 1)) = (z, 0) ∧ (z ++ 13 :: 10 :: S).drop (z.length + 1 + 1) = S ∧ z.length + 1 < (z ++ 13 :: 10 :: S).length := by
  have h1 : z ++ 13 :: 10 :: S = (z ++ [13]) ++ 10 :: S := by simp
  have h2 : NoEnd (z ++ [13]) := fun c hc => by
    rcases List.mem_append.1 hc with hc | hc
    · exact hz c hc
    · rw [List.mem_singleton.1 hc]; decide
  have h3 : (z ++ [13]).length = z.length + 1 := by simp
  have ht : (z ++ 13 :: 10 :: S).take (z.length + 1) = z ++ [13] := by rw [h1, ← h3]; exact List.take_left
  refine ⟨by rw [h1, endOf_append _ _ h2, h3], ?_, ?_, ?_⟩
  · rw [ht]
    unfold lineTold
    have hb : bareOf (z ++ [13]) = (z, true) := by unfold bareOf; simp
    rw [hb]
    unfold tellOf
    rw [if_neg (show ¬ 999 < z.length by omega), if_neg (by rw [h0]; simp), if_neg (by rw [h13]; simp)]
  · have : z ++ 13 :: 10 :: S = (z ++ [13, 10]) ++ S := by simp
    rw [this, show z.length + 1 + 1 = (z ++ [13, 10]).length by simp]
    exact List.drop_left
  · simp
theorem back_step {r : List UInt8} (hc : codeOf r = 0) (h0 : r ≠ []) : ∃ y r', r = y ++ 13 :: 10 :: r' ∧ codeOf r' = 0 ∧ (dz y).length ≤ 999 ∧ dotOf (dz y) = (y, false) ∧
    endOf (stuffOf r) < (stuffOf r).length ∧ lineTold 999 ((stuffOf r).take (endOf (stuffOf r))) = (dz y, 0) ∧ (stuffOf r).drop (endOf (stuffOf r) + 1) = stuffOf r' := by
  obtain ⟨y, r', h1, h2, h3, h4, h5, h6⟩ := good_split hc h0
  have hl := dz_len y
  obtain ⟨t1, t2, t3, t4⟩ := told_line (S := stuffOf r') (dz_noEnd h2) (dz_has h4 (by decide)) (dz_has h3 (by decide)) (by omega)
  refine ⟨y, r', h1, h6, by omega, dot_dz y, ?_, ?_, ?_⟩
  · rw [h1, stuff_cons h2, t1]; exact t4
  · rw [h1, stuff_cons h2, t1]; exact t2
  · rw [h1, stuff_cons h2, t1]; exact t3
end Go.Proofs.Ytgiooblopdoobaa.Lines
