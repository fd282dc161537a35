/-
  HEADER, plain: the program's way of cutting a content, and the document's: the same.
-/
import Derived.Test.YtnogpoojhhmadaaDoorHpPlain
import Derived.Test.YtnogpoojhhmadaaDoorHdrOver
namespace Go.Proofs.YtnogpoojhhmadaaDoor.Header
open Go.RowKit Base
/-- Without a line's end at its end. -/
abbrev trimCR (l : List UInt8) : List UInt8 := Lib.trimSuffix l [13, 10]
theorem trim_app (p : List UInt8) : trimCR (p ++ [13, 10]) = p := by
  unfold trimCR Lib.trimSuffix Lib.hasSuffix
  rw [if_pos (by rw [List.isSuffixOf_iff_suffix]; exact ⟨p, rfl⟩)]
  simp
theorem trim_no {l : List UInt8} (h : ∀ p, l ≠ p ++ [13, 10]) : trimCR l = l := by
  unfold trimCR Lib.trimSuffix Lib.hasSuffix
  rw [if_neg]
  intro e
  rw [List.isSuffixOf_iff_suffix] at e
  obtain ⟨p, hp⟩ := e
  exact h p hp.symm
theorem drop_getD {l : List UInt8} {a i : Nat} : (l.drop a).getD i 0 = l.getD (a + i) 0 := by simp [List.getD, List.getElem?_drop]
theorem trim_line {l : List UInt8} {a k : Nat} (ha : a < l.length) (hk : k ≤ (lineOf l a).1) (h : a ≤ k ∨ (l.getD a 0).toNat ≠ 10) : trimCR ((l.take (lineOf l a).2).drop k) = (l.take (lineOf l a).1).drop k := by
  have hlen : (l.drop a).length = l.length - a := by rw [List.length_drop]
  rcases lineL_cr (l.drop a) with h1 | ⟨h1, h2, h3, h4⟩
  · have he : lineOf l a = (l.length, l.length) := by unfold lineOf; rw [h1, hlen]; show (_, _) = (_, _); congr 1 <;> omega
    rw [he] at hk ⊢
    show trimCR ((l.take l.length).drop k) = (l.take l.length).drop k
    rw [List.take_length]
    refine trim_no fun p hp => ?_
    have hl := congrArg List.length hp
    rw [List.length_drop, List.length_append] at hl
    simp only [List.length_cons, List.length_nil] at hl
    have hk2 : k ≤ l.length := hk
    have g : ∀ j, (l.drop k).getD j 0 = (p ++ [13, 10]).getD j 0 := fun j => by rw [hp]
    have g1 := g p.length
    have g2 := g (p.length + 1)
    rw [drop_getD] at g1 g2
    have g1 : l.getD (k + p.length) 0 = 13 := by rw [g1]; simp [List.getD]
    have g2 : l.getD (k + (p.length + 1)) 0 = 10 := by rw [g2]; simp [List.getD]
    rcases Nat.lt_or_ge (k + p.length) a with hlt | hge
    · have hx : k + (p.length + 1) = a := by omega
      rw [hx] at g2
      rcases h with h | h
      · omega
      · rw [g2] at h; exact h rfl
    · have := lineL_no (l.drop a) (k + p.length - a) (by rw [hlen]; omega) (by rw [drop_getD, show a + (k + p.length - a) = k + p.length by omega, g1]; rfl) (by rw [drop_getD, show a + (k + p.length - a + 1) = k + (p.length + 1) by omega, g2]; rfl)
      rw [h1] at this
      have this : (l.drop a).length ≤ k + p.length - a := this
      omega
  · rw [hlen] at h2
    have he : (lineOf l a).2 = (lineOf l a).1 + 2 := by unfold lineOf; show a + _ = a + _ + 2; omega
    have hx : (lineOf l a).1 = a + (lineL (l.drop a)).1 := rfl
    rw [drop_getD, ← hx] at h3
    rw [drop_getD, ← Nat.add_assoc, ← hx] at h4
    have hle : (lineOf l a).1 + 1 < l.length := by omega
    have hc := drop_two hle
    have e1 : l.getD (lineOf l a).1 0 = 13 := UInt8.toNat_inj.1 h3
    have e2 : l.getD ((lineOf l a).1 + 1) 0 = 10 := UInt8.toNat_inj.1 h4
    rw [e1, e2] at hc
    have ht : l.take ((lineOf l a).1 + 2) = l.take (lineOf l a).1 ++ [13, 10] := by
      rw [List.take_add, hc]; rfl
    rw [he, ht, List.drop_append_of_le_length (by rw [List.length_take]; omega), trim_app]
theorem line_pos {l : List UInt8} {a : Nat} (ha : a < l.length) (h : isBl (l.getD a 0) = true) : a < (lineOf l a).1 := by
  have hlen : (l.drop a).length = l.length - a := by rw [List.length_drop]
  unfold lineOf
  show a < a + (lineL (l.drop a)).1
  rcases lineL_cr (l.drop a) with h1 | ⟨_, _, h3, _⟩
  · rw [h1]; show a < a + (l.drop a).length; omega
  · by_cases h0 : (lineL (l.drop a)).1 = 0
    · rw [h0, drop_getD, Nat.add_zero] at h3
      unfold isBl at h
      rw [decide_eq_true_eq] at h
      omega
    · omega
/-- Where the lines that go on end. -/
def contE (l : List UInt8) : Nat → Nat → Nat
  | 0, a => a
  | n + 1, a => if a < l.length ∧ isBl (l.getD a 0) = true then contE l n (lineOf l a).2 else a
theorem cont_le (l : List UInt8) : ∀ (n a : Nat), a ≤ l.length → a ≤ contE l n a ∧ contE l n a ≤ l.length
  | 0, a, h => ⟨Nat.le_refl _, h⟩
  | n + 1, a, h => by
    rw [contE]
    split
    · rename_i hh
      have hb := line_bounds hh.1
      have := cont_le l n (lineOf l a).2 hb.2.2.1
      omega
    · exact ⟨Nat.le_refl _, h⟩
theorem cont_fuel (l : List UInt8) : ∀ (n m a : Nat), l.length ≤ a + n → l.length ≤ a + m → contE l n a = contE l m a
  | 0, 0, _, _, _ => rfl
  | 0, m + 1, a, h, _ => by rw [contE, contE, if_neg (fun x => by have := x.1; omega)]
  | n + 1, 0, a, _, h => by rw [contE, contE, if_neg (fun x => by have := x.1; omega)]
  | n + 1, m + 1, a, h1, h2 => by
    rw [contE, contE]
    split
    · rename_i hh
      have hb := line_bounds hh.1
      exact cont_fuel l n m _ (by omega) (by omega)
    · rfl
theorem cont_stop (l : List UInt8) : ∀ (n a : Nat), l.length ≤ a + n → contE l n a < l.length → isBl (l.getD (contE l n a) 0) = false
  | 0, a, h, h1 => by rw [contE] at h1; omega
  | n + 1, a, h, h1 => by
    rw [contE] at h1 ⊢
    split
    · rename_i hh
      rw [if_pos hh] at h1
      have hb := line_bounds hh.1
      exact cont_stop l n _ (by omega) h1
    · rename_i hh
      rw [if_neg hh] at h1
      cases hb : isBl (l.getD a 0)
      · rfl
      · exact absurd ⟨h1, hb⟩ hh
/-- Where the fields end. -/
def endsP (l : List UInt8) : Nat → Nat → List Nat
  | 0, _ => []
  | n + 1, a => if 0 < nsz (l.drop a) then contE l l.length (lineOf l a).2 :: endsP l n (contE l l.length (lineOf l a).2) else []
def fldP (l : List UInt8) (a b : Nat) : Fld := ⟨(l.take (a + nsz (l.drop a))).drop a, trimCR ((l.take b).drop (a + nsz (l.drop a) + 1)), a, b⟩
def fldsP (l : List UInt8) : Nat → List Nat → List Fld
  | _, [] => []
  | a, b :: r => fldP l a b :: fldsP l b r
def lastE : Nat → List Nat → Nat
  | a, [] => a
  | _, b :: r => lastE b r
def bodyP (l : List UInt8) (z : Nat) : Nat := if Lib.hasPrefix (l.drop z) [13, 10] = true then z + 2 else z
/-- A field that goes on up to b. -/
def goF (l : List UInt8) (f : Fld) (b : Nat) : Fld := ⟨f.nm, trimCR ((l.take b).drop (f.fr + f.nm.length + 1)), f.fr, b⟩
theorem split_cont (l : List UInt8) (T0 : List Fld) (f : Fld) : ∀ (n a : Nat), l.length ≤ a + n → a ≤ l.length → f.fr + f.nm.length + 1 ≤ a →
    ∃ m, l.length ≤ contE l n a + m ∧ splitF l n a (T0 ++ [goF l f a]) = splitF l m (contE l n a) (T0 ++ [goF l f (contE l n a)])
  | 0, a, h, _, _ => ⟨0, h, rfl⟩
  | n + 1, a, h, h1, h2 => by
    rw [contE]
    by_cases hh : a < l.length ∧ isBl (l.getD a 0) = true
    · rw [if_pos hh]
      have hb := line_bounds hh.1
      have hp := line_pos hh.1 hh.2
      obtain ⟨m, hm, he⟩ := split_cont l T0 f n (lineOf l a).2 (by omega) hb.2.2.1 (by omega)
      refine ⟨m, hm, ?_⟩
      rw [← he, splitF, if_pos hh.1, if_pos ⟨hp, hh.2, by simp⟩, contF_snoc]
      congr 1
      unfold goF
      congr 2
      congr 1
      show (l.take (lineOf l a).1).drop (f.fr + f.nm.length + 1) = _
      rw [trim_line hh.1 (by omega) (Or.inr (by have := hh.2; unfold isBl at this; rw [decide_eq_true_eq] at this; omega))]
    · rw [if_neg hh]
      exact ⟨n + 1, h, rfl⟩
theorem prefix_iff {l : List UInt8} {a : Nat} (ha : a < l.length) : Lib.hasPrefix (l.drop a) [13, 10] = true ↔ (lineOf l a).1 = a := by
  have hlen : (l.drop a).length = l.length - a := by rw [List.length_drop]
  unfold Lib.hasPrefix
  rw [List.isPrefixOf_iff_prefix]
  constructor
  · rintro ⟨r, hr⟩
    unfold lineOf
    rw [← hr]
    show a + (lineL (13 :: 10 :: r)).1 = a
    rw [lineL, if_pos ⟨rfl, rfl⟩]
    rfl
  · intro h
    have h0 : (lineL (l.drop a)).1 = 0 := by unfold lineOf at h; simp at h; exact h
    rcases lineL_cr (l.drop a) with h1 | ⟨h1, h2, h3, h4⟩
    · rw [h1] at h0
      have h0 : (l.drop a).length = 0 := h0
      omega
    · rw [h0, drop_getD] at h3
      rw [h0, drop_getD] at h4
      have hc := drop_two (l := l) (i := a) (by omega)
      have e1 : l.getD a 0 = 13 := UInt8.toNat_inj.1 h3
      have e2 : l.getD (a + 1) 0 = 10 := UInt8.toNat_inj.1 (by simpa using h4)
      rw [hc, e1, e2]
      exact ⟨_, rfl⟩
theorem split_eq (l : List UInt8) : ∀ (n a : Nat) (T : List Fld), l.length ≤ a + n → a ≤ l.length → (T ≠ [] → a < l.length → isBl (l.getD a 0) = false) →
    splitF l n a T = (T ++ fldsP l a (endsP l n a), bodyP l (lastE a (endsP l n a)))
  | 0, a, T, h, h1, _ => by
    rw [splitF, endsP]
    show (T, a) = (T ++ [], bodyP l a)
    unfold bodyP
    rw [List.append_nil, List.drop_eq_nil_of_le (by omega)]
    rfl
  | n + 1, a, T, h, h1, h2 => by
    rw [splitF]
    by_cases ha : a < l.length
    · have hb := line_bounds ha
      rw [if_pos ha, if_neg (fun x => by have := h2 x.2.2 ha; rw [this] at x; exact Bool.false_ne_true x.2.1)]
      have hs : (l.take (lineOf l a).1).drop a = (l.drop a).take (lineL (l.drop a)).1 := by
        show (l.take (a + (lineL (l.drop a)).1)).drop a = _
        rw [List.drop_take]; congr 1; omega
      have hcn := colon_nsz (l.drop a)
      rw [← hs] at hcn
      by_cases hz : 0 < nsz (l.drop a)
      · rw [if_pos hz] at hcn
        have hcp := colon_pos hcn
        rw [hcn]
        have hk : a + nsz (l.drop a) + 1 ≤ (lineOf l a).1 := by have := hcp.2.1; rw [List.length_drop, List.length_take] at this; omega
        obtain ⟨f, hf⟩ : ∃ f : Fld, f = ⟨(l.take (a + nsz (l.drop a))).drop a, [], a, 0⟩ := ⟨_, rfl⟩
        have hnl : f.nm.length = nsz (l.drop a) := by rw [hf]; show ((l.take _).drop a).length = _; rw [List.length_drop, List.length_take]; omega
        have hfr : f.fr = a := by rw [hf]
        have hg : (⟨(l.take (a + nsz (l.drop a))).drop a, (l.take (lineOf l a).1).drop (a + nsz (l.drop a) + 1), a, (lineOf l a).2⟩ : Fld) = goF l f (lineOf l a).2 := by
          unfold goF
          rw [hnl, hfr, trim_line ha hk (Or.inl (by omega)), hf]
        have hgb : ∀ b, goF l f b = fldP l a b := fun b => by
          unfold goF fldP
          rw [hnl, hfr, hf]
        show splitF l n (lineOf l a).2 (T ++ [⟨(l.take (a + nsz (l.drop a))).drop a, (l.take (lineOf l a).1).drop (a + nsz (l.drop a) + 1), a, (lineOf l a).2⟩]) = _
        rw [hg]
        obtain ⟨m, hm, he⟩ := split_cont l T f n (lineOf l a).2 (by omega) hb.2.2.1 (by rw [hnl, hfr]; omega)
        have hcf := cont_fuel l n l.length (lineOf l a).2 (by omega) (by omega)
        rw [he, hcf]
        have hcl := cont_le l l.length (lineOf l a).2 hb.2.2.1
        rw [split_fuel l m n _ _ (by rw [hcf] at hm; exact hm) (by omega), endsP, if_pos hz, fldsP, lastE]
        rw [split_eq l n _ _ (by omega) hcl.2 (fun _ hx => cont_stop l l.length _ (by omega) hx), hgb, List.append_assoc]
        rfl
      · rw [if_neg hz] at hcn
        rw [hcn, endsP, if_neg hz]
        show (T, if (lineOf l a).1 = a then (lineOf l a).2 else a) = (T ++ [], bodyP l a)
        rw [List.append_nil]
        unfold bodyP
        by_cases he : (lineOf l a).1 = a
        · rw [if_pos he, if_pos ((prefix_iff ha).2 he)]
          have h0 : (lineL (l.drop a)).1 = 0 := by unfold lineOf at he; simp at he; exact he
          rcases lineL_cr (l.drop a) with h3 | ⟨h3, _⟩
          · rw [h3] at h0
            have h0 : (l.drop a).length = 0 := h0
            rw [List.length_drop] at h0; omega
          · show (T, a + (lineL (l.drop a)).2) = _
            rw [h3, h0]
        · rw [if_neg he, if_neg (fun x => he ((prefix_iff ha).1 x))]
    · rw [if_neg ha, endsP]
      have hd : l.drop a = [] := List.drop_eq_nil_of_le (by omega)
      rw [hd, if_neg (by show ¬ 0 < 0; omega)]
      show (T, a) = (T ++ [], bodyP l a)
      unfold bodyP
      rw [List.append_nil, hd]
      rfl
/-- The document's answer, in the program's way. -/
theorem split_is (l : List UInt8) : splitOf l = (fldsP l 0 (endsP l l.length 0), bodyP l (lastE 0 (endsP l l.length 0))) := by
  unfold splitOf
  rw [split_eq l l.length 0 [] (by omega) (Nat.zero_le _) (fun h => absurd rfl h)]
  rfl
end Go.Proofs.YtnogpoojhhmadaaDoor.Header
