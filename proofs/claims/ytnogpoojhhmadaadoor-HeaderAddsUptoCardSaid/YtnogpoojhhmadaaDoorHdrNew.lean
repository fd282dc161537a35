/-
  HEADER: what Write writes is one field, and the content behind it is as it was: plain.
-/
import Derived.Test.YtnogpoojhhmadaaDoorHdrOver
namespace Go.Proofs.YtnogpoojhhmadaaDoor.Header
open Go.RowKit Base
def noCr (c : UInt8) : Bool := decide (c.toNat ≠ 13)
theorem line_seg : ∀ (s r : List UInt8), (∀ c ∈ s, noCr c = true) → lineL (s ++ ([13, 10] ++ r)) = (s.length, s.length + 2)
  | [], r, _ => by simp [lineL]
  | [c], r, h => by
    have hc : c.toNat ≠ 13 := by have := h c (by simp); unfold noCr at this; exact of_decide_eq_true this
    simp [lineL, hc]
  | c :: d :: s, r, h => by
    have hc : c.toNat ≠ 13 := by have := h c (by simp); unfold noCr at this; exact of_decide_eq_true this
    have := line_seg (d :: s) r (fun x hx => h x (List.mem_cons_of_mem _ hx))
    simp only [List.cons_append] at this ⊢
    rw [lineL, if_neg (fun x => hc x.1), this]
    simp
theorem lineOf_seg {l s r : List UInt8} {a : Nat} (h : l.drop a = s ++ ([13, 10] ++ r)) (hs : ∀ c ∈ s, noCr c = true) : lineOf l a = (a + s.length, a + s.length + 2) := by
  unfold lineOf
  rw [h, line_seg s r hs]
  simp only []
  congr 1
theorem drop_len {l x : List UInt8} {a : Nat} (h : l.drop a = x) (ha : a ≤ l.length) : l.length = a + x.length := by
  rw [← h, List.length_drop]; omega
theorem drop_more {l s r : List UInt8} {a : Nat} (h : l.drop a = s ++ r) : l.drop (a + s.length) = r := by
  rw [← List.drop_drop, h, List.drop_left]
/-- Words are no blanks, no line's ends, not empty. -/
def wordB (x : List UInt8) : Prop := x ≠ [] ∧ ∀ c ∈ x, noCr c = true
/-- The lines of a folded text behind the first one. -/
theorem cont_fold (D : List UInt8) (l : List UInt8) (hD : D.length ≤ l.length) : ∀ (ws : List (List UInt8)) (col : Nat) (seg : List UInt8) (a n : Nat) (T0 : List Fld) (f : Fld),
    (∀ x ∈ ws, wordB x) → (∀ c ∈ seg, noCr c = true) → seg.head? = some 32 → l.drop a = seg ++ (foldG false col ws ++ ([13, 10] ++ D)) → a ≤ l.length → l.length ≤ a + n →
    splitF l n a (T0 ++ [f]) = splitF l l.length (l.length - D.length) (T0 ++ [⟨f.nm, (l.take (l.length - D.length - 2)).drop (f.fr + f.nm.length + 1), f.fr, l.length - D.length⟩])
  | [], col, seg, a, n, T0, f, _, hseg, hh, hl, ha, hn => by
    have hlen := drop_len hl ha
    simp only [foldG, List.nil_append, List.length_append, List.length_cons, List.length_nil] at hl hlen
    have hln := lineOf_seg hl hseg
    obtain ⟨s', rfl⟩ : ∃ s', seg = 32 :: s' := by cases seg with | nil => cases hh | cons c s => simp at hh; exact ⟨s, by rw [hh]⟩
    have hg : l.getD a 0 = 32 := by
      have := drop_cons (l := l) (i := a) (by simp at hlen; omega)
      rw [hl] at this
      simp at this; exact this.1.symm
    cases n with
    | zero => simp at hlen; omega
    | succ n =>
      rw [splitF, hln]
      simp only []
      rw [if_pos (by simp at hlen; omega), if_pos ⟨by simp, by rw [hg]; rfl, by simp⟩, contF_snoc]
      rw [show a + (32 :: s').length + 2 = l.length - D.length by omega, show a + (32 :: s').length = l.length - D.length - 2 by omega]
      exact split_fuel l _ _ _ _ (by omega) (by omega)
  | x :: r, col, seg, a, n, T0, f, hw, hseg, hh, hl, ha, hn => by
    have hx := hw x (by simp)
    rw [foldG] at hl
    split at hl
    · have hl2 : l.drop a = seg ++ ([13, 10] ++ ((32 :: x) ++ (foldG false (1 + x.length) r ++ ([13, 10] ++ D)))) := by rw [hl]; simp
      have hln := lineOf_seg hl2 hseg
      have hlen := drop_len hl2 ha
      simp only [List.length_append, List.length_cons, List.length_nil] at hlen
      obtain ⟨s', rfl⟩ : ∃ s', seg = 32 :: s' := by cases seg with | nil => cases hh | cons c s => simp at hh; exact ⟨s, by rw [hh]⟩
      have hg : l.getD a 0 = 32 := by
        have := drop_cons (l := l) (i := a) (by simp at hlen; omega)
        rw [hl2] at this
        simp at this; exact this.1.symm
      have hl3 : l.drop (a + (32 :: s').length + 2) = (32 :: x) ++ (foldG false (1 + x.length) r ++ ([13, 10] ++ D)) := drop_more (s := [13, 10]) (drop_more hl2)
      cases n with
      | zero => simp at hlen; omega
      | succ n =>
        rw [splitF, hln]
        simp only []
        rw [if_pos (by simp at hlen; omega), if_pos ⟨by simp, by rw [hg]; rfl, by simp⟩, contF_snoc]
        exact cont_fold D l hD r (1 + x.length) (32 :: x) _ n T0 _ (fun y hy => hw y (List.mem_cons_of_mem _ hy)) (fun c hc => by
          rcases List.mem_cons.1 hc with rfl | hc
          · rfl
          · exact hx.2 c hc) rfl hl3 (by simp at hlen ⊢; omega) (by omega)
    · have hl2 : l.drop a = (seg ++ 32 :: x) ++ (foldG false (col + 1 + x.length) r ++ ([13, 10] ++ D)) := by rw [hl]; simp
      exact cont_fold D l hD r (col + 1 + x.length) (seg ++ 32 :: x) a n T0 f (fun y hy => hw y (List.mem_cons_of_mem _ hy)) (fun c hc => by
        rcases List.mem_append.1 hc with hc | hc
        · exact hseg c hc
        · rcases List.mem_cons.1 hc with rfl | hc
          · rfl
          · exact hx.2 c hc) (by rw [List.head?_append, hh]; rfl) hl2 ha hn
/-- The first line. -/
theorem first_fold (D : List UInt8) (l nm : List UInt8) (hnm : nameB nm = true) (hD : D.length ≤ l.length) : ∀ (ws : List (List UInt8)) (col : Nat) (s : List UInt8) (n : Nat),
    (∀ x ∈ ws, wordB x) → (∀ c ∈ s, noCr c = true) → l = (nm ++ 58 :: s) ++ (foldG false col ws ++ ([13, 10] ++ D)) → l.length ≤ n →
    splitF l n 0 [] = splitF l l.length (l.length - D.length) [⟨nm, (l.take (l.length - D.length - 2)).drop (nm.length + 1), 0, l.length - D.length⟩]
  | ws, col, s, n, hw, hs, hl, hn => by
    have hnc : ∀ c ∈ nm, nameC c = true := by unfold nameB at hnm; rw [Bool.and_eq_true] at hnm; exact List.all_eq_true.1 hnm.1
    have hsg : ∀ c ∈ nm ++ 58 :: s, noCr c = true := fun c hc => by
      rcases List.mem_append.1 hc with hc | hc
      · have := hnc c hc
        unfold nameC at this
        have := of_decide_eq_true this
        exact decide_eq_true (by omega)
      · rcases List.mem_cons.1 hc with rfl | hc
        · rfl
        · exact hs c hc
    have hcol : ∀ y, colonOf ((nm ++ 58 :: s) ++ y) = some nm.length := fun y => by
      have h1 : ((nm ++ 58 :: s) ++ y).take nm.length = nm := by simp
      rw [colon_at (k := nm.length) (by simp) (fun c hc => by
        rw [h1] at hc
        have := hnc c hc
        unfold nameC at this
        have := of_decide_eq_true this
        exact decide_eq_true (by omega)) (by simp [List.getD]), h1, if_pos hnm]
    match ws with
    | [] =>
      have hl2 : l.drop 0 = (nm ++ 58 :: s) ++ ([13, 10] ++ D) := by rw [List.drop_zero, hl]; simp [foldG]
      have hln := lineOf_seg hl2 hsg
      have hlen := congrArg List.length hl2
      simp only [List.drop_zero, List.length_append, List.length_cons, List.length_nil] at hlen
      have htk : (l.take (nm ++ 58 :: s).length) = nm ++ 58 :: s := by rw [List.drop_zero] at hl2; rw [hl2, List.take_left]
      cases n with
      | zero => omega
      | succ n =>
        rw [splitF, hln]
        simp only [Nat.zero_add]
        rw [if_pos (by omega), if_neg (fun x => x.2.2 rfl), htk, List.drop_zero]
        have hc0 := hcol []
        rw [List.append_nil] at hc0
        rw [hc0]
        simp only [List.nil_append]
        have e1 : (nm ++ 58 :: s).length + 2 = l.length - D.length := by simp; omega
        have e2 : (nm ++ 58 :: s).length = l.length - D.length - 2 := by simp; omega
        have e3 : (l.take nm.length) = nm := by rw [hl]; simp
        have e4 : (nm ++ 58 :: s).drop (nm.length + 1) = (l.take (l.length - D.length - 2)).drop (nm.length + 1) := by rw [← e2, htk]
        rw [e1, e3, e4]
        exact split_fuel l _ _ _ _ (by omega) (by omega)
    | x :: r =>
      have hx := hw x (by simp)
      rw [foldG] at hl
      split at hl
      · have hl2 : l.drop 0 = (nm ++ 58 :: s) ++ ([13, 10] ++ ((32 :: x) ++ (foldG false (1 + x.length) r ++ ([13, 10] ++ D)))) := by rw [List.drop_zero, hl]; simp
        have hln := lineOf_seg hl2 hsg
        have hlen := congrArg List.length hl2
        simp only [List.drop_zero, List.length_append, List.length_cons, List.length_nil] at hlen
        have htk : (l.take (nm ++ 58 :: s).length) = nm ++ 58 :: s := by rw [List.drop_zero] at hl2; rw [hl2, List.take_left]
        have hl3 : l.drop (0 + (nm ++ 58 :: s).length + 2) = (32 :: x) ++ (foldG false (1 + x.length) r ++ ([13, 10] ++ D)) := drop_more (s := [13, 10]) (drop_more hl2)
        rw [Nat.zero_add] at hl3
        cases n with
        | zero => omega
        | succ n =>
          rw [splitF, hln]
          simp only [Nat.zero_add]
          rw [if_pos (by omega), if_neg (fun x => x.2.2 rfl), htk, List.drop_zero]
          have hc0 := hcol []
          rw [List.append_nil] at hc0
          rw [hc0]
          simp only [List.nil_append]
          have e3 : (l.take nm.length) = nm := by rw [hl]; simp
          rw [e3]
          have := cont_fold D l hD r (1 + x.length) (32 :: x) _ n [] ⟨nm, (nm ++ 58 :: s).drop (nm.length + 1), 0, (nm ++ 58 :: s).length + 2⟩ (fun y hy => hw y (List.mem_cons_of_mem _ hy)) (fun c hc => by
            rcases List.mem_cons.1 hc with rfl | hc
            · rfl
            · exact hx.2 c hc) rfl hl3 (by simp only [List.length_append, List.length_cons]; omega) (by omega)
          simp only [List.nil_append, Nat.zero_add] at this
          exact this
      · exact first_fold D l nm hnm hD r (col + 1 + x.length) (s ++ 32 :: x) n (fun y hy => hw y (List.mem_cons_of_mem _ hy)) (fun c hc => by
          rcases List.mem_append.1 hc with hc | hc
          · exact hs c hc
          · rcases List.mem_cons.1 hc with rfl | hc
            · rfl
            · exact hx.2 c hc) (by rw [hl]; simp) hn
  termination_by ws => ws.length
end Go.Proofs.YtnogpoojhhmadaaDoor.Header
