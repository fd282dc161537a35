/-
  LINES, plain: what is told of a content by its lines is what is told of it byte by byte; its lines with their dots.
-/
import Derived.Test.YtgiooblopdoobaaLpDot
namespace Go.Proofs.Ytgiooblopdoobaa.Lines
open Go.RowKit Base
abbrev crlf : List UInt8 := [13, 10]
def badW (x : List UInt8) : Bool := !(Lib.hasSuffix x crlf) || hasB 13 (Lib.trimSuffix x crlf)
def longW (x : List UInt8) : Bool := decide (998 < (Lib.trimSuffix x crlf).length)
def codeP (l : List UInt8) : Nat := if hasB 0 l = true then 122 else if (wholesO l).any badW = true then 121 else if (wholesO l).any longW = true then 120 else 0
def bareG : Option UInt8 → List UInt8 → Bool
  | _, [] => false
  | p, c :: r => (if c.toNat = 13 then decide (r.head? ≠ some 10) else if c.toNat = 10 then decide (p ≠ some 13) else false) || bareG (some c) r
def longG : Nat → List UInt8 → Bool
  | _, [] => false
  | n, c :: r => if c.toNat = 10 then decide (999 < n) || longG 0 r else longG (n + 1) r
theorem scan_eq : ∀ (l : List UInt8) (p : Option UInt8) (n : Nat) (bare long : Bool), scanG p n bare long l = if hasB 0 l = true then 122 else sayOf (bare || bareG p l) (long || longG n l)
  | [], p, n, bare, long => by simp [scanG, hasB, bareG, longG]
  | c :: r, p, n, bare, long => by
    have h0 : hasB 0 (c :: r) = (decide (c.toNat = 0) || hasB 0 r) := rfl
    rw [scanG, h0, bareG, longG]
    by_cases hz : c.toNat = 0
    · rw [if_pos hz]; simp [hz]
    · rw [if_neg hz, decide_eq_false hz, Bool.false_or]
      by_cases h13 : c.toNat = 13
      · have h10 : ¬ c.toNat = 10 := by omega
        rw [if_pos h13, scan_eq r, if_pos h13, if_neg h10, Bool.or_assoc]
      · rw [if_neg h13, if_neg h13]
        by_cases h10 : c.toNat = 10
        · rw [if_pos h10, if_pos h10, if_pos h10, scan_eq r, Bool.or_assoc, Bool.or_assoc]
        · rw [if_neg h10, if_neg h10, if_neg h10, scan_eq r, Bool.false_or]
def tailBad (l : List UInt8) : Bool := decide (0 < l.length) && decide (l.getLast? ≠ some 10)
theorem codeOf_eq (l : List UInt8) : codeOf l = if hasB 0 l = true then 122 else sayOf (tailBad l || bareG none l) (longG 0 l) := by
  unfold codeOf
  rw [scan_eq, Bool.false_or]
  rfl
def lineBad : Option UInt8 → List UInt8 → Bool
  | p, [] => decide (p ≠ some 13)
  | _, c :: x => (if c.toNat = 13 then decide (x ≠ []) else false) || lineBad (some c) x
/-- No end in it. -/
def NoEnd (x : List UInt8) : Prop := ∀ c ∈ x, c.toNat ≠ 10
theorem bare_line : ∀ (x r : List UInt8) (p : Option UInt8), NoEnd x → bareG p (x ++ 10 :: r) = (lineBad p x || bareG (some 10) r)
  | [], r, p, _ => by simp [bareG, lineBad]
  | c :: x, r, p, h => by
    have hc : ¬ c.toNat = 10 := h c (by simp)
    rw [List.cons_append, bareG, lineBad, bare_line x r (some c) (fun d hd => h d (by simp [hd])), if_neg hc, Bool.or_assoc]
    congr 1
    split
    · cases x with
      | nil => simp
      | cons d y =>
        have hd : ¬ d.toNat = 10 := h d (by simp)
        have hd2 : ¬ d = 10 := fun e => hd (by rw [e]; rfl)
        simp [hd2]
    · rfl
theorem bare_start (r : List UInt8) : bareG (some 10) r = bareG none r := by
  cases r with
  | nil => rfl
  | cons c r =>
    rw [bareG, bareG]
    congr 1
theorem long_line : ∀ (x r : List UInt8) (n : Nat), NoEnd x → longG n (x ++ 10 :: r) = (decide (999 < n + x.length) || longG 0 r)
  | [], r, n, _ => by simp [longG]
  | c :: x, r, n, h => by
    have hc : ¬ c.toNat = 10 := h c (by simp)
    rw [List.cons_append, longG, if_neg hc, long_line x r (n + 1) (fun d hd => h d (by simp [hd])), List.length_cons]
    congr 2
    apply propext
    omega
theorem lineBad_snoc : ∀ (y : List UInt8) (a : UInt8) (p : Option UInt8), lineBad p (y ++ [a]) = (decide (a ≠ 13) || hasB 13 y)
  | [], a, p => by simp [lineBad, hasB]
  | c :: y, a, p => by
    rw [List.cons_append, lineBad, lineBad_snoc y a]
    have h1 : hasB 13 (c :: y) = (decide (c.toNat = 13) || hasB 13 y) := rfl
    rw [h1]
    by_cases h : c.toNat = 13
    · simp [h]
    · simp [h]
theorem suffix_two (y : List UInt8) (a : UInt8) : Lib.hasSuffix (y ++ [a] ++ [10]) crlf = decide (a = 13) := by
  rw [Bool.eq_iff_iff]
  unfold Lib.hasSuffix
  rw [List.isSuffixOf_iff_suffix, decide_eq_true_eq]
  constructor
  · rintro ⟨t, ht⟩
    have h1 : t ++ [13] ++ [10] = y ++ [a] ++ [10] := by simpa using ht
    have h2 := List.append_cancel_right h1
    have := congrArg List.getLast? h2
    simpa using this.symm
  · rintro rfl
    exact ⟨y, by simp⟩
theorem trim_two (y : List UInt8) : Lib.trimSuffix (y ++ [13] ++ [10]) crlf = y := by
  unfold Lib.trimSuffix
  rw [suffix_two, if_pos (by simp)]
  simp
theorem bad_line (x : List UInt8) : badW (x ++ [10]) = lineBad none x := by
  rcases List.eq_nil_or_concat x with rfl | ⟨y, a, rfl⟩
  · rfl
  · rw [List.concat_eq_append, lineBad_snoc]
    unfold badW
    rw [suffix_two]
    by_cases h : a = 13
    · subst h
      rw [trim_two]
      simp
    · simp [h]
theorem long_whole {x : List UInt8} (h : badW (x ++ [10]) = false) : longW (x ++ [10]) = decide (999 < x.length) := by
  rcases List.eq_nil_or_concat x with rfl | ⟨y, a, rfl⟩
  · rfl
  · rw [List.concat_eq_append] at h ⊢
    unfold badW at h
    rw [suffix_two] at h
    have ha : a = 13 := by
      rw [Bool.or_eq_false_iff] at h
      simpa using h.1
    subst ha
    unfold longW
    rw [trim_two]
    congr 1
    apply propext
    simp
    omega
theorem endOf_noEnd (l : List UInt8) : NoEnd (l.take (endOf l)) := fun c hc => by
  obtain ⟨i, hi, he⟩ := List.getElem_of_mem hc
  have hi2 : i < endOf l := by rw [List.length_take] at hi; omega
  have hle := endOf_le l
  have := endOf_ne l i hi2
  rw [List.getElem_take] at he
  rw [← he]
  simpa [List.getD, List.getElem?_eq_getElem (show i < l.length by omega)] using this
/-- Bytes with an end: the line, its end, what follows. -/
theorem line_split {l : List UInt8} (h : endOf l < l.length) : l = l.take (endOf l) ++ 10 :: l.drop (endOf l + 1) := by
  have h1 := endOf_at l h
  have h2 : l[endOf l] = 10 := by
    apply UInt8.toNat_inj.1
    simpa [List.getD, List.getElem?_eq_getElem h] using h1
  conv => lhs; rw [← List.take_append_drop (endOf l) l, List.drop_eq_getElem_cons h, h2]
theorem take_line {l : List UInt8} (h : endOf l < l.length) : l.take (endOf l + 1) = l.take (endOf l) ++ [10] := by
  have h1 := endOf_at l h
  have h2 : l[endOf l] = 10 := by
    apply UInt8.toNat_inj.1
    simpa [List.getD, List.getElem?_eq_getElem h] using h1
  rw [List.take_succ_eq_append_getElem h, h2]
theorem tail_line (x r : List UInt8) : tailBad (x ++ 10 :: r) = tailBad r := by
  unfold tailBad
  cases r with
  | nil => simp
  | cons c q =>
    have : (x ++ 10 :: c :: q).getLast? = (c :: q).getLast? := by
      rw [List.getLast?_append, List.getLast?_cons_cons]
      cases hq : (c :: q).getLast? with
      | none => simp at hq
      | some z => rfl
    rw [this]
    simp
    intro _
    omega
theorem no_suffix {l : List UInt8} (h : NoEnd l) (h0 : l ≠ []) : badW l = true ∧ tailBad l = true := by
  rcases List.eq_nil_or_concat l with rfl | ⟨y, a, rfl⟩
  · exact absurd rfl h0
  · rw [List.concat_eq_append] at h ⊢
    have ha : ¬ a = 10 := fun e => h a (by simp) (by rw [e]; rfl)
    refine ⟨?_, ?_⟩
    · unfold badW
      have : Lib.hasSuffix (y ++ [a]) crlf = false := by
        rw [Bool.eq_false_iff]
        intro hs
        unfold Lib.hasSuffix at hs
        rw [List.isSuffixOf_iff_suffix] at hs
        obtain ⟨t, ht⟩ := hs
        have := congrArg List.getLast? ht
        simp at this
        exact ha this.symm
      rw [this]; rfl
    · unfold tailBad
      simp [ha]
theorem bad_eq : ∀ (n : Nat) (l : List UInt8), l.length ≤ n → (tailBad l || bareG none l) = (wholesO l).any badW
  | 0, l, h => by rw [List.eq_nil_of_length_eq_zero (Nat.le_zero.1 h)]; rfl
  | n + 1, l, h => by
    by_cases h0 : l = []
    · rw [h0]; rfl
    · rw [wholes_cons h0, List.any_cons]
      by_cases hE : endOf l < l.length
      · have ih := bad_eq n (l.drop (endOf l + 1)) (by rw [List.length_drop]; omega)
        rw [← ih, take_line hE, bad_line]
        conv => lhs; rw [line_split hE, tail_line, bare_line _ _ _ (endOf_noEnd l), bare_start]
        cases tailBad (l.drop (endOf l + 1)) <;> cases lineBad none (l.take (endOf l)) <;> rfl
      · have hle := endOf_le l
        have hEl : endOf l = l.length := by omega
        have hne : NoEnd l := by
          have := endOf_noEnd l
          rwa [hEl, List.take_length] at this
        have := no_suffix hne h0
        rw [hEl, List.take_of_length_le (by omega), this.1, this.2, Bool.true_or, Bool.true_or]
theorem long_eq : ∀ (n : Nat) (l : List UInt8), l.length ≤ n → (wholesO l).any badW = false → longG 0 l = (wholesO l).any longW
  | 0, l, h, _ => by rw [List.eq_nil_of_length_eq_zero (Nat.le_zero.1 h)]; rfl
  | n + 1, l, h, hb => by
    by_cases h0 : l = []
    · rw [h0]; rfl
    · rw [wholes_cons h0, List.any_cons, Bool.or_eq_false_iff] at hb
      rw [wholes_cons h0, List.any_cons]
      by_cases hE : endOf l < l.length
      · have ih := long_eq n (l.drop (endOf l + 1)) (by rw [List.length_drop]; omega) hb.2
        have hb1 := hb.1
        rw [take_line hE] at hb1
        rw [← ih, take_line hE, long_whole hb1]
        conv => lhs; rw [line_split hE, long_line _ _ _ (endOf_noEnd l), Nat.zero_add]
      · have hle := endOf_le l
        have hEl : endOf l = l.length := by omega
        have hne : NoEnd l := by
          have := endOf_noEnd l
          rwa [hEl, List.take_length] at this
        have h2 := (no_suffix hne h0).1
        have hb1 := hb.1
        rw [hEl, List.take_of_length_le (by omega), h2] at hb1
        cases hb1
theorem code_eq (l : List UInt8) : codeP l = codeOf l := by
  rw [codeOf_eq]
  unfold codeP
  have h1 := bad_eq l.length l (Nat.le_refl _)
  split
  · rfl
  · rw [h1]
    unfold sayOf
    by_cases h2 : (wholesO l).any badW = true
    · rw [if_pos h2, if_pos h2]
    · have h3 : (wholesO l).any badW = false := by simpa using h2
      rw [if_neg h2, if_neg h2, long_eq l.length l (Nat.le_refl _) h3]
/-! ### A content's lines with their dots -/
def dotW (x : List UInt8) : List UInt8 := if x.head? = some 46 then 46 :: x else x
theorem dot_rest : ∀ (x : List UInt8) (c : UInt8) (r : List UInt8), NoEnd x → c.toNat ≠ 10 → dotG (some c) (x ++ 10 :: r) = x ++ 10 :: dotG (some 10) r
  | [], c, r, _, _ => by
    rw [List.nil_append, dotG]
    simp
  | d :: x, c, r, h, hc => by
    have hd : d.toNat ≠ 10 := h d (by simp)
    have hc2 : ¬ (some c = (none : Option UInt8) ∨ some c = some 10) := by
      rintro (e | e)
      · cases e
      · cases e; exact hc rfl
    rw [List.cons_append, dotG, if_neg (fun e => hc2 e.2), dot_rest x d r (fun e he => h e (by simp [he])) hd]
    rfl
theorem dot_start (r : List UInt8) : dotG (some 10) r = dotG none r := by
  cases r with
  | nil => rfl
  | cons c r => rw [dotG, dotG]; simp
theorem dot_line (x r : List UInt8) (h : NoEnd x) : dotG none (x ++ 10 :: r) = dotW (x ++ [10]) ++ dotG none r := by
  cases x with
  | nil =>
    rw [List.nil_append, dotG, dot_start]
    simp [dotW]
  | cons c x =>
    have hc : c.toNat ≠ 10 := h c (by simp)
    rw [List.cons_append, dotG, dot_rest x c r (fun e he => h e (by simp [he])) hc, dot_start]
    unfold dotW
    by_cases h46 : c = 46
    · subst h46
      simp
    · have h2 : ¬ c.toNat = 46 := fun e => h46 (UInt8.toNat_inj.1 e)
      simp [h46, h2]
theorem stuff_lines : ∀ (n : Nat) (l : List UInt8), l.length ≤ n → (wholesO l).any badW = false → (wholesO l).flatMap dotW = dotG none l
  | 0, l, h, _ => by rw [List.eq_nil_of_length_eq_zero (Nat.le_zero.1 h)]; rfl
  | n + 1, l, h, hb => by
    by_cases h0 : l = []
    · rw [h0]; rfl
    · rw [wholes_cons h0, List.any_cons, Bool.or_eq_false_iff] at hb
      rw [wholes_cons h0, List.flatMap_cons]
      by_cases hE : endOf l < l.length
      · have ih := stuff_lines n (l.drop (endOf l + 1)) (by rw [List.length_drop]; omega) hb.2
        rw [ih, take_line hE]
        conv => rhs; rw [line_split hE, dot_line _ _ (endOf_noEnd l)]
      · have hle := endOf_le l
        have hEl : endOf l = l.length := by omega
        have hne : NoEnd l := by
          have := endOf_noEnd l
          rwa [hEl, List.take_length] at this
        have h2 := (no_suffix hne h0).1
        have hb1 := hb.1
        rw [hEl, List.take_of_length_le (by omega), h2] at hb1
        cases hb1
theorem code_bad {l : List UInt8} (h : codeOf l = 0) : (wholesO l).any badW = false := by
  rw [← code_eq] at h
  unfold codeP at h
  split at h
  · cases h
  · split at h
    · cases h
    · rename_i h2; simpa using h2
theorem stuff_eq {l : List UInt8} (h : codeOf l = 0) : stuffOf l = (wholesO l).flatMap dotW ++ [46, 13, 10] := by
  unfold stuffOf
  rw [stuff_lines l.length l (Nat.le_refl _) (code_bad h)]
end Go.Proofs.Ytgiooblopdoobaa.Lines
