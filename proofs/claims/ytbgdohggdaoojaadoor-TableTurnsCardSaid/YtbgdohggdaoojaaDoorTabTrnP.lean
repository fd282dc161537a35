/-
  TABLE: entries and the same in another order, with blanks more and comments between, are read as one table: plain.
-/
import Derived.Test.YtbgdohggdaoojaaDoorTabTrnM
namespace Go.Proofs.YtbgdohggdaoojaaDoor.Table
open Go.RowKit Base
/-- A line of an entry, with blanks. -/
def lineE (m b : List UInt8) (e : KV) : List UInt8 := e.1 ++ m ++ (e.2 ++ b)
def kvN (e : KV) : KV := (lower e.1, trim e.2)
def headC : List (List UInt8) := [[35, 32, 99, 111, 109, 109, 101, 110, 116], [32, 9]]
def tailC : List (List UInt8) := [[32, 32, 35, 32, 120], []]
def linesTwo (m : List UInt8) (O : List KV) : List (List UInt8) := headC ++ O.flatMap fun e => lineE m m e :: tailC
def linesOne (O : List KV) : List (List UInt8) := O.map (lineE [32] [])
theorem isOk_key {c : UInt8} (h : 32 ≤ c.toNat ∧ c.toNat ≤ 126) : isOkB c = true ∧ c ≠ 10 := by
  refine ⟨by unfold isOkB; rw [decide_eq_true_eq]; omega, fun e => ?_⟩
  subst e
  exact absurd h.1 (by decide)
theorem isOk_bl {c : UInt8} (h : isBl c = true) : isOkB c = true ∧ c ≠ 10 := by
  have h2 : c.toNat = 32 ∨ c.toNat = 9 := by unfold isBl at h; exact of_decide_eq_true h
  refine ⟨by unfold isOkB; rw [decide_eq_true_eq]; omega, fun e => ?_⟩
  subst e
  exact absurd h2 (by decide)
theorem line_ok {e : KV} {m b : List UInt8} (h : PlainE e.1 e.2) (hm : ∀ c ∈ m, isBl c = true) (hb : ∀ c ∈ b, isBl c = true) : ∀ x ∈ lineE m b e, isOkB x = true ∧ x ≠ 10 := by
  intro x hx
  unfold lineE at hx
  simp only [List.mem_append] at hx
  rcases hx with (hx | hx) | hx | hx
  · have := h.kb x hx; exact isOk_key (by omega)
  · exact isOk_bl (hm x hx)
  · exact isOk_key (h.vb x hx)
  · exact isOk_bl (hb x hx)
theorem line_skip {e : KV} {m b : List UInt8} (h : PlainE e.1 e.2) : skipB (lineE m b e) = false ∧ headIs isBl (lineE m b e) = false := by
  unfold lineE
  rw [List.append_assoc]
  exact plain_line h _
theorem kv_of_plain {e : KV} (h : PlainE e.1 e.2) : (kvN e).1.length ≤ 320 ∧ (kvN e).2 ≠ [] ∧ (kvN e).2.length ≤ 1000 :=
  ⟨by show (lower e.1).length ≤ _; rw [lower_len]; exact h.kl, h.vne, Nat.le_trans (trim_len _) h.vl⟩
theorem textOf_len_map {f : KV → List (List UInt8)} {n : Nat} : ∀ (O : List KV), (∀ e ∈ O, (textOf (f e)).length ≤ n) → (textOf (O.flatMap f)).length ≤ O.length * n
  | [], _ => by simp [textOf]
  | e :: O, h => by
    have ih := textOf_len_map O fun x hx => h x (List.mem_cons_of_mem _ hx)
    have h1 := h e List.mem_cons_self
    rw [List.flatMap_cons, textOf_app, List.length_append, List.length_cons, Nat.add_mul]
    omega
theorem parse_one {O : List KV} (hp : ∀ e ∈ O, PlainE e.1 e.2) (hd : (O.map fun e => lower e.1).Nodup) (hl : O.length ≤ 60) : ∃ U, (parseOf (textOf (linesOne O))).1 = U ∧ (parseOf (textOf (linesOne O))).2.1 = 0 ∧ Good U ∧ U.Perm (O.map kvN) := by
  have hb1 : ∀ c ∈ ([32] : List UInt8), isBl c = true := fun c hc => by simp at hc; subst hc; rfl
  have hb0 : ∀ c ∈ ([] : List UInt8), isBl c = true := fun c hc => by simp at hc
  have hfilter : (linesOne O).filter (fun l => !skipB l) = linesOne O := List.filter_eq_self.2 fun l h => by
    obtain ⟨e, he, rfl⟩ := List.mem_map.1 h
    rw [(line_skip (hp e he)).1]; rfl
  refine parse_fine ?_ ?_ ?_ (K := O.map kvN) ?_ ?_ ?_ ?_
  · intro l h
    obtain ⟨e, he, rfl⟩ := List.mem_map.1 h
    exact line_ok (hp e he) hb1 hb0
  · intro l h
    obtain ⟨e, he, rfl⟩ := List.mem_map.1 h
    exact Or.inr (line_skip (hp e he))
  · have h1 : linesOne O = O.flatMap fun e => [lineE [32] [] e] := by
      unfold linesOne
      induction O with
      | nil => rfl
      | cons x r ih =>
        rw [List.map_cons, List.flatMap_cons, List.singleton_append]
        congr 1
        exact ih (fun e he => hp e (List.mem_cons_of_mem _ he)) (List.nodup_cons.1 hd).2 (by simp at hl; omega) (by
          exact List.filter_eq_self.2 fun l h => by
            obtain ⟨e, he, rfl⟩ := List.mem_map.1 h
            rw [(line_skip (hp e (List.mem_cons_of_mem _ he))).1]; rfl)
    rw [h1]
    refine Nat.le_trans (textOf_len_map (n := 1400) O fun e he => ?_) (by omega)
    have h1 := (hp e he).kl
    have h2 := (hp e he).vl
    simp [textOf, lineE]
    omega
  · rw [hfilter]
    unfold linesOne
    rw [List.map_map]
    refine List.map_congr_left fun e he => ?_
    exact plain_kv (hp e he) ⟨by simp, hb1⟩ hb0
  · intro p h
    obtain ⟨e, he, rfl⟩ := List.mem_map.1 h
    exact kv_of_plain (hp e he)
  · rw [List.map_map]; exact hd
  · rw [List.length_map]; omega
theorem two_filter {m : List UInt8} : ∀ (O : List KV), (∀ e ∈ O, PlainE e.1 e.2) → (O.flatMap fun e => lineE m m e :: tailC).filter (fun l => !skipB l) = O.map (lineE m m)
  | [], _ => rfl
  | e :: O, h => by
    rw [List.flatMap_cons, List.filter_append, two_filter O fun x hx => h x (List.mem_cons_of_mem _ hx), List.map_cons]
    rw [List.filter_cons_of_pos (by rw [(line_skip (h e List.mem_cons_self)).1]; rfl)]
    rw [show tailC.filter (fun l => !skipB l) = [] by decide]; rfl
theorem parse_two {O : List KV} {m : List UInt8} (hm : BlankS m) (hml : m.length ≤ 21) (hp : ∀ e ∈ O, PlainE e.1 e.2) (hd : (O.map fun e => lower e.1).Nodup) (hl : O.length ≤ 60) : ∃ U, (parseOf (textOf (linesTwo m O))).1 = U ∧ (parseOf (textOf (linesTwo m O))).2.1 = 0 ∧ Good U ∧ U.Perm (O.map kvN) := by
  have hfilter : (linesTwo m O).filter (fun l => !skipB l) = O.map (lineE m m) := by
    unfold linesTwo
    rw [List.filter_append, two_filter O hp, show headC.filter (fun l => !skipB l) = [] by decide]; rfl
  have hmem : ∀ l ∈ linesTwo m O, l ∈ headC ∨ l ∈ tailC ∨ ∃ e ∈ O, l = lineE m m e := by
    intro l h
    unfold linesTwo at h
    rcases List.mem_append.1 h with h | h
    · exact Or.inl h
    · obtain ⟨e, he, h⟩ := List.mem_flatMap.1 h
      rcases List.mem_cons.1 h with h | h
      · exact Or.inr (Or.inr ⟨e, he, h⟩)
      · exact Or.inr (Or.inl h)
  have hc1 : ∀ l ∈ headC, (∀ x ∈ l, isOkB x = true ∧ x ≠ 10) ∧ skipB l = true := by decide
  have hc2 : ∀ l ∈ tailC, (∀ x ∈ l, isOkB x = true ∧ x ≠ 10) ∧ skipB l = true := by decide
  refine parse_fine ?_ ?_ ?_ (K := O.map kvN) ?_ ?_ ?_ ?_
  · intro l h
    rcases hmem l h with h | h | ⟨e, he, rfl⟩
    · exact (hc1 l h).1
    · exact (hc2 l h).1
    · exact line_ok (hp e he) hm.2 hm.2
  · intro l h
    rcases hmem l h with h | h | ⟨e, he, rfl⟩
    · exact Or.inl (hc1 l h).2
    · exact Or.inl (hc2 l h).2
    · exact Or.inr (line_skip (hp e he))
  · unfold linesTwo
    rw [textOf_app, List.length_append]
    have h1 : (textOf headC).length = 13 := by decide
    have h2 := textOf_len_map (f := fun e => lineE m m e :: tailC) (n := 1400) O fun e he => by
      have h1 := (hp e he).kl
      have h2 := (hp e he).vl
      rw [textOf_cons, List.length_append, List.length_cons, show (textOf tailC).length = 7 by decide]
      simp only [lineE, List.length_append]
      omega
    omega
  · rw [hfilter, List.map_map]
    refine List.map_congr_left fun e he => ?_
    exact plain_kv (hp e he) hm hm.2
  · intro p h
    obtain ⟨e, he, rfl⟩ := List.mem_map.1 h
    exact kv_of_plain (hp e he)
  · rw [List.map_map]; exact hd
  · rw [List.length_map]; omega
/-- Turned on by r. -/
def rotE (O : List KV) (r : Nat) : List KV := (List.range O.length).map fun i => O.getD ((i + r) % O.length) ([], [])
theorem rot_eq {O : List KV} {r : Nat} (h : r < O.length) : rotE O r = O.drop r ++ O.take r := by
  refine List.ext_getElem (by simp [rotE]; omega) fun i h1 h2 => ?_
  have hi : i < O.length := by simpa [rotE] using h1
  have hx : (rotE O r)[i] = O.getD ((i + r) % O.length) ([], []) := by simp [rotE]
  rw [hx]
  by_cases hlt : i + r < O.length
  · rw [Nat.mod_eq_of_lt hlt, List.getElem_append_left (by rw [List.length_drop]; omega), List.getElem_drop, List.getD_eq_getElem?_getD, List.getElem?_eq_getElem hlt]
    simp [Nat.add_comm]
  · have : (i + r) % O.length = i + r - O.length := by rw [Nat.mod_eq_sub_mod (by omega), Nat.mod_eq_of_lt (by omega)]
    rw [this, List.getElem_append_right (by rw [List.length_drop]; omega), List.getElem_take, List.getD_eq_getElem?_getD, List.getElem?_eq_getElem (by omega)]
    simp only [Option.getD_some, List.length_drop]
    congr 1
    omega
theorem rot_perm {O : List KV} {r : Nat} (h : r < O.length) : (rotE O r).Perm O := by
  rw [rot_eq h]
  exact List.perm_append_comm.trans (by rw [List.take_append_drop])
/-- THE SAME TABLE of both texts. -/
theorem turns_same {O O2 : List KV} {m : List UInt8} (hm : BlankS m) (hml : m.length ≤ 21) (hp : ∀ e ∈ O, PlainE e.1 e.2) (hd : (O.map fun e => lower e.1).Nodup) (hl : O.length ≤ 60) (h2 : O2.Perm O) :
    ∃ U, (parseOf (textOf (linesOne O))).1 = U ∧ (parseOf (textOf (linesOne O))).2.1 = 0 ∧ (parseOf (textOf (linesTwo m O2))).1 = U ∧ (parseOf (textOf (linesTwo m O2))).2.1 = 0 ∧ U.length = O.length ∧ Good U := by
  obtain ⟨U, u1, u2, u3, u4⟩ := parse_one hp hd hl
  obtain ⟨V, v1, v2, v3, v4⟩ := parse_two hm hml (O := O2) (fun e he => hp e (h2.subset he)) ((h2.map _).nodup_iff.2 hd) (by rw [h2.length_eq]; exact hl)
  have : V = U := rising_one (v4.trans ((h2.map kvN).trans u4.symm)) v3.rise u3.rise
  subst this
  exact ⟨V, u1, u2, v1, v2, by rw [u4.length_eq, List.length_map], v3⟩
end Go.Proofs.YtbgdohggdaoojaaDoor.Table
