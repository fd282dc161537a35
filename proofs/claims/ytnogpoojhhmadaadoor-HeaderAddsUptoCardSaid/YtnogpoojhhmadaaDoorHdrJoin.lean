/-
  HEADER: ahead of a content a field is put: its fields then; and the new one's body unfolded: plain.
-/
import Derived.Test.YtnogpoojhhmadaaDoorHdrNew
namespace Go.Proofs.YtnogpoojhhmadaaDoor.Header
open Go.RowKit Base
def edge (c : UInt8) : Bool := isBl c || decide (c.toNat = 13 ∨ c.toNat = 10)
theorem words_are (q : UInt8 → Prop) : ∀ (l cur : List UInt8), (∀ c ∈ l, q c) → (∀ c ∈ cur, q c ∧ isBl c = false) → ∀ x ∈ wordsG l cur, x ≠ [] ∧ ∀ c ∈ x, q c ∧ isBl c = false
  | [], cur, _, hc, x, hx => by
    rw [wordsG] at hx
    split at hx
    · cases hx
    · rename_i hne
      rw [List.mem_singleton.1 hx]
      exact ⟨hne, hc⟩
  | c :: r, cur, hl, hc, x, hx => by
    have hr : ∀ d ∈ r, q d := fun d hd => hl d (List.mem_cons_of_mem _ hd)
    rw [wordsG] at hx
    split at hx
    · split at hx
      · exact words_are q r [] hr (fun d hd => by cases hd) x hx
      · rename_i hne
        rcases List.mem_cons.1 hx with rfl | hx
        · exact ⟨hne, hc⟩
        · exact words_are q r [] hr (fun d hd => by cases hd) x hx
    · rename_i hb
      exact words_are q r (cur ++ [c]) hr (fun d hd => by
        rcases List.mem_append.1 hd with hd | hd
        · exact hc d hd
        · rw [List.mem_singleton.1 hd]
          exact ⟨hl c (by simp), by cases h : isBl c <;> simp_all⟩) x hx
theorem bad_no {bd : List UInt8} (h : bd.any badB = false) : ∀ c ∈ bd, c.toNat ≠ 13 ∧ c.toNat ≠ 10 := fun c hc => by
  have := List.any_eq_false.1 h c hc
  unfold badB at this
  simp at this
  omega
theorem word_is {bd : List UInt8} (h : bd.any badB = false) : ∀ x ∈ wordsOf bd, wordB x ∧ ∀ c ∈ x, edge c = false := fun x hx => by
  obtain ⟨h1, h2⟩ := words_are (fun c => c.toNat ≠ 13 ∧ c.toNat ≠ 10) bd [] (bad_no h) (fun c hc => by cases hc) x hx
  refine ⟨⟨h1, fun c hc => decide_eq_true (h2 c hc).1.1⟩, fun c hc => ?_⟩
  have := h2 c hc
  unfold edge
  rw [this.2]
  simp; exact ⟨this.1.1, this.1.2⟩
theorem field_eq (nm bd : List UInt8) : ∃ col s ws, (wordsOf bd = [] ∧ s = [] ∧ ws = [] ∨ ∃ x, wordsOf bd = x :: ws ∧ s = x) ∧ ∀ D, fieldB nm bd ++ D = (nm ++ 58 :: (32 :: s)) ++ (foldG false col ws ++ ([13, 10] ++ D)) := by
  cases hw : wordsOf bd with
  | nil => exact ⟨0, [], [], Or.inl ⟨rfl, rfl, rfl⟩, fun D => by unfold fieldB foldOf; rw [hw]; simp [foldG]⟩
  | cons x r => exact ⟨colOf ((nm.length + 2 : Nat) : Int) + x.length, x, r, Or.inr ⟨x, rfl, rfl⟩, fun D => by unfold fieldB foldOf; rw [hw]; simp [foldG]⟩
/-- The new field, and then what the content has. -/
theorem add_first (nm bd D : List UInt8) (hn : nameB nm = true) (hb : bd.any badB = false) :
    splitOf (fieldB nm bd ++ D) = splitF (fieldB nm bd ++ D) (fieldB nm bd ++ D).length (fieldB nm bd).length [⟨nm, 32 :: foldOf bd ((nm.length + 2 : Nat) : Int), 0, (fieldB nm bd).length⟩] := by
  obtain ⟨col, s, ws, hs, he⟩ := field_eq nm bd
  have hw := word_is hb
  have h1 : (∀ x ∈ ws, wordB x) ∧ ∀ c ∈ 32 :: s, noCr c = true := by
    rcases hs with ⟨h0, rfl, rfl⟩ | ⟨x, h0, rfl⟩
    · exact ⟨fun x hx => (by cases hx), fun c hc => by rw [List.mem_singleton.1 hc]; rfl⟩
    · rw [h0] at hw
      exact ⟨fun y hy => (hw y (List.mem_cons_of_mem _ hy)).1, fun c hc => by
        rcases List.mem_cons.1 hc with rfl | hc
        · rfl
        · exact (hw s (by simp)).1.2 c hc⟩
  have := first_fold D (fieldB nm bd ++ D) nm hn (by simp) ws col (32 :: s) (fieldB nm bd ++ D).length h1.1 h1.2 (he D) (Nat.le_refl _)
  have hl : (fieldB nm bd ++ D).length - D.length = (fieldB nm bd).length := by simp
  rw [hl] at this
  unfold splitOf
  rw [this]
  have e1 : ((fieldB nm bd ++ D).take ((fieldB nm bd).length - 2)).drop (nm.length + 1) = 32 :: foldOf bd ((nm.length + 2 : Nat) : Int) := by
    have : (fieldB nm bd).length - 2 = (nm ++ [58, 32] ++ foldOf bd ((nm.length + 2 : Nat) : Int)).length := by unfold fieldB; simp; omega
    rw [this]
    have h2 : fieldB nm bd ++ D = (nm ++ [58, 32] ++ foldOf bd ((nm.length + 2 : Nat) : Int)) ++ ([13, 10] ++ D) := by unfold fieldB; simp
    rw [h2, List.take_left]
    have h3 : nm ++ [58, 32] ++ foldOf bd ((nm.length + 2 : Nat) : Int) = (nm ++ [58]) ++ (32 :: foldOf bd ((nm.length + 2 : Nat) : Int)) := by simp
    rw [h3, show nm.length + 1 = (nm ++ [58]).length by simp, List.drop_left]
  rw [e1]
theorem add_split (nm bd D : List UInt8) (hn : nameB nm = true) (hb : bd.any badB = false) (hd : isBl (D.getD 0 0) = false) :
    splitOf (fieldB nm bd ++ D) = (⟨nm, 32 :: foldOf bd ((nm.length + 2 : Nat) : Int), 0, (fieldB nm bd).length⟩ :: (splitOf D).1.map (shF (fieldB nm bd).length), (fieldB nm bd).length + (splitOf D).2) := by
  rw [add_first nm bd D hn hb]
  have := split_over (fieldB nm bd) D [⟨nm, 32 :: foldOf bd ((nm.length + 2 : Nat) : Int), 0, (fieldB nm bd).length⟩] (fieldB nm bd ++ D).length 0 [] (Or.inr hd)
  simp only [List.map_nil, List.append_nil, Nat.add_zero] at this
  rw [this, split_fuel D (fieldB nm bd ++ D).length D.length 0 [] (by simp) (by omega)]
  rfl
theorem split_grows (l : List UInt8) : ∀ (n a : Nat) (T : List Fld), T.length ≤ (splitF l n a T).1.length
  | 0, a, T => Nat.le_refl _
  | n + 1, a, T => by
    rw [splitF]
    split
    · split
      · rename_i h
        obtain ⟨T0, f, rfl⟩ := snoc_of h.2.2
        rw [contF_snoc]
        have := split_grows l n (lineOf l a).2 (T0 ++ [⟨f.nm, (l.take (lineOf l a).1).drop (f.fr + f.nm.length + 1), f.fr, (lineOf l a).2⟩])
        simp only [List.length_append, List.length_singleton] at this ⊢
        exact this
      · split
        · rename_i c hc
          have := split_grows l n (lineOf l a).2 (T ++ [⟨(l.take (a + c)).drop a, (l.take (lineOf l a).1).drop (a + c + 1), a, (lineOf l a).2⟩])
          simp only [List.length_append, List.length_singleton] at this
          omega
        · exact Nat.le_refl _
    · exact Nat.le_refl _
/-- A content that begins with a blank: there is the new field, at least. -/
theorem add_some (nm bd D : List UInt8) (hn : nameB nm = true) (hb : bd.any badB = false) : 0 < (splitOf (fieldB nm bd ++ D)).1.length := by
  rw [add_first nm bd D hn hb]
  exact split_grows _ _ _ [_]
/-! Unfolded -/
def dropCr : List UInt8 → List UInt8
  | [] => []
  | c :: r => if c.toNat = 13 ∧ (r.getD 0 0).toNat = 10 ∧ isBl (r.getD 1 0) = true then dropCr (r.drop 1) else c :: dropCr r
  termination_by l => l.length
  decreasing_by
    · simp; omega
    · simp
def trimE (l : List UInt8) : List UInt8 := ((l.dropWhile edge).reverse.dropWhile edge).reverse
def unfoldOf (l : List UInt8) : List UInt8 := trimE (dropCr l)
def tailW : List (List UInt8) → List UInt8
  | [] => []
  | x :: r => 32 :: (x ++ tailW r)
/-- Words, with one blank between two. -/
def joinW : List (List UInt8) → List UInt8
  | [] => []
  | x :: r => x ++ tailW r
theorem dropCr_seg : ∀ (s t : List UInt8), (∀ c ∈ s, noCr c = true) → dropCr (s ++ t) = s ++ dropCr t
  | [], t, _ => rfl
  | c :: s, t, h => by
    have hc : c.toNat ≠ 13 := by have := h c (by simp); unfold noCr at this; exact of_decide_eq_true this
    rw [List.cons_append, dropCr, if_neg (fun x => hc x.1), dropCr_seg s t (fun x hx => h x (List.mem_cons_of_mem _ hx)), List.cons_append]
theorem dropCr_fold : ∀ (ws : List (List UInt8)) (col : Nat), (∀ x ∈ ws, wordB x) → dropCr (foldG false col ws) = tailW ws
  | [], col, _ => by rw [foldG, dropCr]; rfl
  | x :: r, col, h => by
    have hx : ∀ c ∈ 32 :: x, noCr c = true := fun c hc => by
      rcases List.mem_cons.1 hc with rfl | hc
      · rfl
      · exact (h x (by simp)).2 c hc
    have hr : ∀ y ∈ r, wordB y := fun y hy => h y (List.mem_cons_of_mem _ hy)
    rw [foldG]
    split
    · have e : [13, 10] ++ ([32] ++ (x ++ foldG false (1 + x.length) r)) = 13 :: 10 :: ((32 :: x) ++ foldG false (1 + x.length) r) := by simp
      rw [e, dropCr, if_pos ⟨rfl, rfl, rfl⟩, List.drop_one, List.tail_cons, dropCr_seg _ _ hx, dropCr_fold r _ hr]
      simp [tailW]
    · have e : [32] ++ (x ++ foldG false (col + 1 + x.length) r) = (32 :: x) ++ foldG false (col + 1 + x.length) r := by simp
      rw [e, dropCr_seg _ _ hx, dropCr_fold r _ hr]
      simp [tailW]
theorem tail_end : ∀ (ws : List (List UInt8)) (p : List UInt8), (∀ x ∈ ws, x ≠ [] ∧ ∀ c ∈ x, edge c = false) → (p ≠ [] ∧ ∀ c ∈ p, edge c = false) → ∃ q c, p ++ tailW ws = q ++ [c] ∧ edge c = false
  | [], p, _, hp => by
    refine ⟨p.dropLast, p.getLast hp.1, by rw [tailW, List.append_nil, List.dropLast_concat_getLast hp.1], hp.2 _ (List.getLast_mem hp.1)⟩
  | x :: r, p, h, hp => by
    obtain ⟨q, c, h1, h2⟩ := tail_end r x (fun y hy => h y (List.mem_cons_of_mem _ hy)) (h x (by simp))
    exact ⟨p ++ 32 :: q, c, by rw [tailW, h1]; simp, h2⟩
/-- The new field's body, unfolded, is the text's words. -/
theorem unfold_fold (bd : List UInt8) (col : Int) (hb : bd.any badB = false) : unfoldOf (32 :: foldOf bd col) = joinW (wordsOf bd) := by
  have hw := word_is hb
  unfold foldOf unfoldOf
  cases h : wordsOf bd with
  | nil => rw [foldG]; decide_cbv
  | cons x r =>
    rw [h] at hw
    have hx := hw x (by simp)
    have e : (32 : UInt8) :: foldG true (colOf col) (x :: r) = (32 :: x) ++ foldG false (colOf col + x.length) r := by rw [foldG]; simp
    rw [e, dropCr_seg _ _ (fun c hc => by
      rcases List.mem_cons.1 hc with rfl | hc
      · rfl
      · exact hx.1.2 c hc), dropCr_fold r _ (fun y hy => (hw y (List.mem_cons_of_mem _ hy)).1)]
    obtain ⟨q, c, h1, h2⟩ := tail_end r x (fun y hy => ⟨(hw y (List.mem_cons_of_mem _ hy)).1.1, (hw y (List.mem_cons_of_mem _ hy)).2⟩) ⟨hx.1.1, hx.2⟩
    unfold trimE
    obtain ⟨d, x', rfl⟩ : ∃ d x', x = d :: x' := by cases x with | nil => exact absurd rfl hx.1.1 | cons d x' => exact ⟨d, x', rfl⟩
    have hd : edge d = false := hx.2 d (by simp)
    rw [List.cons_append, List.dropWhile_cons_of_pos (by rfl), List.cons_append, List.dropWhile_cons_of_neg (by rw [hd]; simp), ← List.cons_append, h1, List.reverse_append, List.reverse_singleton, List.singleton_append, List.dropWhile_cons_of_neg (by rw [h2]; simp), List.reverse_cons, List.reverse_reverse, ← h1]
    rfl
end Go.Proofs.YtnogpoojhhmadaaDoor.Header
