/-
  HEADER, plain: strings.FieldsFunc at blanks: the words.
-/
import Derived.Test.YtnogpoojhhmadaaDoorHdrWds
import Derived.Lib.FieldsP
import Derived.Lib.MapLaws
import Derived.Lib.TrimUEq
namespace Go.Proofs.YtnogpoojhhmadaaDoor.Header
open Go.RowKit Base
/-- A rune that is a blank. -/
def bR (r : Nat) : Bool := decide (r = 32 ∨ r = 9)
theorem bl_high {x : UInt8} (h : 128 ≤ x.toNat) : isBl x = false := by
  unfold isBl
  rw [decide_eq_false_iff_not]
  omega
theorem rune_at (s : ByteArray) (pos : Nat) (h : pos < s.size) : ∃ r k : Nat, Utf8.decode s pos = (r, k) ∧ 1 ≤ k ∧ pos + k ≤ s.size ∧ ((k = 1 ∧ bR r = true ∧ isBl (s.data.toList.getD pos 0) = true) ∨ (bR r = false ∧ ∀ j, j < k → isBl (s.data.toList.getD (pos + j) 0) = false)) := by
  have hl := str_len s
  have hd := Lib.decode_N s pos
  generalize s.data.toList = l at hd hl
  have hn : ∀ r, 128 ≤ r → bR r = false := fun r hr => by unfold bR; rw [decide_eq_false_iff_not]; omega
  rcases Lib.decodeN_shape (l.length - pos) (l.getD pos 0).toNat (l.getD (pos + 1) 0).toNat (l.getD (pos + 2) 0).toNat (l.getD (pos + 3) 0).toNat with ⟨a, e⟩ | ⟨a, b, c, d, e⟩ | ⟨a, b, c, c2, d, _, e⟩ | ⟨a, b, c, c2, c3, d, _, e⟩ | e
  · refine ⟨_, _, hd.trans e, Nat.le_refl _, by omega, ?_⟩
    have hx : bR (l.getD pos 0).toNat = isBl (l.getD pos 0) := rfl
    cases hs : isBl (l.getD pos 0) with
    | true => exact Or.inl ⟨rfl, by rw [hx, hs], rfl⟩
    | false =>
      refine Or.inr ⟨by rw [hx, hs], fun j hj => ?_⟩
      obtain rfl : j = 0 := by omega
      exact hs
  · refine ⟨_, _, hd.trans e, by omega, by omega, Or.inr ⟨hn _ d, fun j hj => bl_high ?_⟩⟩
    rcases (by omega : j = 0 ∨ j = 1) with rfl | rfl
    · rw [Nat.add_zero]; omega
    · omega
  · refine ⟨_, _, hd.trans e, by omega, by omega, Or.inr ⟨hn _ (by omega), fun j hj => bl_high ?_⟩⟩
    rcases (by omega : j = 0 ∨ j = 1 ∨ j = 2) with rfl | rfl | rfl
    · rw [Nat.add_zero]; omega
    · omega
    · omega
  · refine ⟨_, _, hd.trans e, by omega, by omega, Or.inr ⟨hn _ (by omega), fun j hj => bl_high ?_⟩⟩
    rcases (by omega : j = 0 ∨ j = 1 ∨ j = 2 ∨ j = 3) with rfl | rfl | rfl | rfl
    · rw [Nat.add_zero]; omega
    · omega
    · omega
    · omega
  · by_cases ha : 128 ≤ (l.getD pos 0).toNat
    · refine ⟨_, _, hd.trans e, Nat.le_refl _, by omega, Or.inr ⟨hn _ (by omega), fun j hj => bl_high ?_⟩⟩
      obtain rfl : j = 0 := by omega
      exact ha
    · have := Lib.decodeN_ascii (l.length - pos) (l.getD pos 0).toNat (l.getD (pos + 1) 0).toNat (l.getD (pos + 2) 0).toNat (l.getD (pos + 3) 0).toNat (by omega)
      have := congrArg Prod.fst (e.symm.trans this)
      simp only at this
      omega
theorem words_app {r : List UInt8} : ∀ (x cur : List UInt8), (∀ y ∈ x, isBl y = false) → wordsG (x ++ r) cur = wordsG r (cur ++ x)
  | [], cur, _ => by simp
  | y :: t, cur, h => by
    rw [List.cons_append, wordsG, if_neg (by rw [h y List.mem_cons_self]; simp), words_app t (cur ++ [y]) fun z hz => h z (List.mem_cons_of_mem _ hz)]
    simp
def curOf (l : List UInt8) (pos : Nat) : Option Nat → List UInt8
  | none => []
  | some a => (l.take pos).drop a
theorem cur_on {l : List UInt8} {pos k : Nat} (h : pos + k ≤ l.length) : ∀ (st : Option Nat), (∀ a, st = some a → a < pos) → curOf l (pos + k) (some (st.getD pos)) = curOf l pos st ++ (l.drop pos).take k
  | none, _ => by
    show (l.take (pos + k)).drop pos = [] ++ _
    rw [List.take_add, List.drop_append_of_le_length (by rw [List.length_take]; omega), List.drop_eq_nil_of_le (by rw [List.length_take]; omega)]
  | some a, ha => by
    have := ha a rfl
    show (l.take (pos + k)).drop a = (l.take pos).drop a ++ _
    rw [List.take_add, List.drop_append_of_le_length (by rw [List.length_take]; omega)]
theorem spans_is (s : ByteArray) : ∀ (f pos : Nat) (st : Option Nat) (acc : List (Nat × Nat)), s.size ≤ pos + f → pos ≤ s.size → (∀ a, st = some a → a < pos) →
    (Lib.closeSpans s (Lib.spansFromP bR s f pos st acc)).map (fun x => s.extract x.1 x.2) = acc.map (fun x => s.extract x.1 x.2) ++ (wordsG (s.data.toList.drop pos) (curOf s.data.toList pos st)).map fun x => ⟨x.toArray⟩ := by
  intro f
  induction f with
  | zero =>
    intro pos st acc h h1 h2
    obtain rfl : pos = s.size := by omega
    rw [Lib.spansFromP, List.drop_eq_nil_of_le (by rw [str_len]; omega), wordsG]
    cases st with
    | none => simp [Lib.closeSpans, curOf]
    | some a =>
      have ha := h2 a rfl
      have hne : curOf s.data.toList s.size (some a) ≠ [] := by
        intro e
        have := congrArg List.length e
        simp only [curOf, List.length_drop, List.length_take, str_len, List.length_nil] at this
        omega
      rw [if_neg hne]
      simp [Lib.closeSpans, curOf, extract_bytes]
  | succ f ih =>
    intro pos st acc h h1 h2
    unfold Lib.spansFromP
    by_cases hlt : pos < s.size
    · rw [if_pos hlt]
      obtain ⟨r, k, hd, hk1, hk2, hcase⟩ := rune_at s pos hlt
      rw [hd]
      rcases hcase with ⟨rfl, hb, hbl⟩ | ⟨hb, hnb⟩
      · have hdr := drop_cons (l := s.data.toList) (i := pos) (by rw [str_len]; exact hlt)
        simp only [hb, if_true]
        rw [hdr, wordsG, if_pos hbl]
        cases st with
        | none =>
          rw [ih _ _ _ (by omega) (by omega) (fun a ha => by cases ha)]
          simp [curOf]
        | some a =>
          have ha := h2 a rfl
          have hne : curOf s.data.toList pos (some a) ≠ [] := by
            intro e
            have := congrArg List.length e
            simp only [curOf, List.length_drop, List.length_take, str_len, List.length_nil] at this
            omega
          rw [if_neg hne]
          show List.map _ (Lib.closeSpans s (Lib.spansFromP bR s f (pos + 1) none (acc ++ [(a, pos)]))) = _
          rw [ih _ _ _ (by omega) (by omega) (fun a ha => by cases ha)]
          simp [curOf, extract_bytes]
      · simp only [hb]
        have hx : s.data.toList.drop pos = (s.data.toList.drop pos).take k ++ s.data.toList.drop (pos + k) := by rw [← List.drop_drop, List.take_append_drop]
        have hall : ∀ y ∈ (s.data.toList.drop pos).take k, isBl y = false := fun y hy => by
          obtain ⟨j, hj⟩ := List.mem_iff_getElem?.1 hy
          have hjk : j < k := by
            have := (List.getElem?_eq_some_iff.1 hj).1
            rw [List.length_take] at this; omega
          rw [List.getElem?_take_of_lt hjk, List.getElem?_drop] at hj
          have := hnb j hjk
          rw [List.getD_eq_getElem?_getD, hj] at this
          exact this
        rw [hx, words_app _ _ hall, ← cur_on (by rw [str_len]; exact hk2) st h2]
        cases st with
        | none => exact ih _ _ _ (by omega) (by omega) (fun a ha => by cases ha; omega)
        | some a => exact ih _ _ _ (by omega) (by omega) (fun b hb => by cases hb; have := h2 a rfl; omega)
    · obtain rfl : pos = s.size := by omega
      rw [if_neg hlt, List.drop_eq_nil_of_le (by rw [str_len]; omega), wordsG]
      cases st with
      | none => simp [Lib.closeSpans, curOf]
      | some a =>
        have ha := h2 a rfl
        have hne : curOf s.data.toList s.size (some a) ≠ [] := by
          intro e
          have := congrArg List.length e
          simp only [curOf, List.length_drop, List.length_take, str_len, List.length_nil] at this
          omega
        rw [if_neg hne]
        simp [Lib.closeSpans, curOf, extract_bytes]
theorem fields_is (s : ByteArray) : Lib.goFieldsP bR s = (wordsOf s.data.toList).map fun x => ⟨x.toArray⟩ := by
  unfold Lib.goFieldsP Lib.spansOfP
  rw [spans_is s s.size 0 none [] (by omega) (Nat.zero_le _) (fun a h => by cases h)]
  rfl
end Go.Proofs.YtnogpoojhhmadaaDoor.Header
