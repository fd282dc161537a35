/-
  TABLE: both readers read the same: plain.
-/
import Derived.Test.YtbgdohggdaoojaaDoorTabPrs0
namespace Go.Proofs.YtbgdohggdaoojaaDoor.Table
open Go.RowKit Base
/-- Entries, one behind the other. -/
def procE : List KV → List Ent → (Nat × Nat) ⊕ List KV
  | E, [] => .inr E
  | E, e :: r => if wrongP E (kvOf e).1 (kvOf e).2 = 0 then procE (E ++ [kvOf e]) r else .inl (wrongP E (kvOf e).1 (kvOf e).2, e.pos)
def runEnd (r : RunR) : (Nat × Nat) ⊕ List KV := match r with
  | .inl f => .inl f
  | .inr (E, cur) => endP E cur
theorem addLast_snoc (pre : List Ent) (e : Ent) (p : List UInt8) : addLast (pre ++ [e]) p = pre ++ [{ e with more := e.more ++ [p] }] := by
  unfold addLast
  have h : (pre ++ [e]).length - 1 = pre.length := by simp
  rw [h]
  have h2 : (pre ++ [e])[pre.length]? = some e := by simp
  rw [h2]
  show (pre ++ [e]).set pre.length _ = _
  rw [List.set_append_right _ _ (Nat.le_refl _)]
  simp
theorem endP_proc (E : List KV) (e : Ent) : endP E (some e) = procE E [e] := by
  show (if _ then _ else _) = _
  unfold procE
  split <;> rfl
/-- With an entry open. -/
theorem run_some : ∀ (ls : List (List UInt8)) (a : Nat) (pre : List Ent) (e : Ent) (bd : List Nat) (E : List KV),
    ∃ tl, (linesFrom a ls (pre ++ [e], bd)) = (pre ++ tl, bd) ∧ runEnd (runP a ls E (some e)) = procE E tl
  | [], a, pre, e, bd, E => ⟨[e], rfl, endP_proc E e⟩
  | l :: r, a, pre, e, bd, E => by
    rw [linesFrom, runP_cons]
    unfold stepL
    by_cases hs : skipB l = true
    · rw [if_pos hs, if_pos hs]
      exact run_some r (a + l.length + 1) pre e bd E
    · rw [if_neg hs, if_neg hs]
      by_cases hb : headIs isBl l = true
      · rw [if_pos hb, if_pos hb, if_neg (by simp), addLast_snoc]
        exact run_some r (a + l.length + 1) pre _ bd E
      · rw [if_neg hb, if_neg hb]
        obtain ⟨tl, h1, h2⟩ := run_some r (a + l.length + 1) (pre ++ [e]) ⟨a, l, []⟩ bd (E ++ [kvOf e])
        refine ⟨e :: tl, by rw [h1, List.append_assoc]; rfl, ?_⟩
        by_cases hw : wrongP E (kvOf e).1 (kvOf e).2 = 0
        · rw [endP_yes hw]
          show runEnd (runP (a + l.length + 1) r (E ++ [kvOf e]) (some ⟨a, l, []⟩)) = _
          rw [h2]
          conv => rhs; rw [procE]
          rw [if_pos hw]
        · rw [endP_no hw]
          show (Sum.inl _ : (Nat × Nat) ⊕ List KV) = _
          rw [procE, if_neg hw]
/-- Positions of what comes later. -/
theorem from_pos : ∀ (ls : List (List UInt8)) (a : Nat) (es : List Ent) (bd : List Nat), ∃ tl or, (linesFrom a ls (es, bd)).2 = bd ++ or ∧ (linesFrom a ls (es, bd)).1.map Ent.pos = es.map Ent.pos ++ tl ∧ (∀ x ∈ tl, a ≤ x) ∧ (∀ x ∈ or, a ≤ x) ∧ tl.Pairwise (· < ·) ∧ or.Pairwise (· < ·) ∧ (∀ x ∈ tl, x < a + sumL ls) ∧ ∀ x ∈ or, x < a + sumL ls
  | [], a, es, bd => ⟨[], [], by simp [linesFrom]⟩
  | l :: r, a, es, bd => by
    have hsum : sumL (l :: r) = l.length + 1 + sumL r := by simp [sumL]
    have step : ∀ (es2 : List Ent) (bd2 : List Nat) (t1 o1 : List Nat), stepL (es, bd) a l = (es2, bd2) → bd2 = bd ++ o1 → es2.map Ent.pos = es.map Ent.pos ++ t1 → (t1 = [] ∨ t1 = [a]) → (o1 = [] ∨ o1 = [a]) →
        ∃ tl or, (linesFrom a (l :: r) (es, bd)).2 = bd ++ or ∧ (linesFrom a (l :: r) (es, bd)).1.map Ent.pos = es.map Ent.pos ++ tl ∧ (∀ x ∈ tl, a ≤ x) ∧ (∀ x ∈ or, a ≤ x) ∧ tl.Pairwise (· < ·) ∧ or.Pairwise (· < ·) ∧ (∀ x ∈ tl, x < a + sumL (l :: r)) ∧ ∀ x ∈ or, x < a + sumL (l :: r) := by
      intro es2 bd2 t1 o1 h1 h2 h3 h4 h5
      obtain ⟨tl, or, k1, k2, k3, k4, k5, k6, k7, k8⟩ := from_pos r (a + l.length + 1) es2 bd2
      rw [linesFrom, h1]
      refine ⟨t1 ++ tl, o1 ++ or, by rw [k1, h2, List.append_assoc], by rw [k2, h3, List.append_assoc], ?_, ?_, ?_, ?_, ?_, ?_⟩
      · intro x hx
        rcases List.mem_append.1 hx with hx | hx
        · rcases h4 with rfl | rfl
          · simp at hx
          · simp at hx; omega
        · have := k3 x hx; omega
      · intro x hx
        rcases List.mem_append.1 hx with hx | hx
        · rcases h5 with rfl | rfl
          · simp at hx
          · simp at hx; omega
        · have := k4 x hx; omega
      · rcases h4 with rfl | rfl
        · exact k5
        · exact List.pairwise_cons.2 ⟨fun x hx => by have := k3 x hx; omega, k5⟩
      · rcases h5 with rfl | rfl
        · exact k6
        · exact List.pairwise_cons.2 ⟨fun x hx => by have := k4 x hx; omega, k6⟩
      · intro x hx
        rcases List.mem_append.1 hx with hx | hx
        · rcases h4 with rfl | rfl
          · simp at hx
          · simp at hx; omega
        · have := k7 x hx; omega
      · intro x hx
        rcases List.mem_append.1 hx with hx | hx
        · rcases h5 with rfl | rfl
          · simp at hx
          · simp at hx; omega
        · have := k8 x hx; omega
    by_cases hs : skipB l = true
    · exact step es bd [] [] (by unfold stepL; rw [if_pos hs]) (by simp) (by simp) (Or.inl rfl) (Or.inl rfl)
    · by_cases hb : headIs isBl l = true
      · by_cases h0 : es = []
        · exact step es (bd ++ [a]) [] [a] (by unfold stepL; rw [if_neg hs, if_pos hb, if_pos h0]) rfl (by simp) (Or.inl rfl) (Or.inr rfl)
        · refine step (addLast es (trim l)) bd [] [] (by unfold stepL; rw [if_neg hs, if_pos hb, if_neg h0]) (by simp) ?_ (Or.inl rfl) (Or.inl rfl)
          obtain ⟨q, c, rfl⟩ : ∃ q c, es = q ++ [c] := ⟨es.dropLast, es.getLast h0, (List.dropLast_concat_getLast h0).symm⟩
          rw [addLast_snoc]; simp
      · exact step (es ++ [⟨a, l, []⟩]) bd [a] [] (by unfold stepL; rw [if_neg hs, if_neg hb]) (by simp) (by simp) (Or.inr rfl) (Or.inl rfl)
/-- With none. -/
theorem run_none : ∀ (ls : List (List UInt8)) (a : Nat) (bd : List Nat),
    (∃ tl, linesFrom a ls ([], bd) = (tl, bd) ∧ runEnd (runP a ls [] none) = procE [] tl) ∨
    (∃ p or, a ≤ p ∧ (linesFrom a ls ([], bd)).2 = bd ++ p :: or ∧ runP a ls [] none = .inl (61, p) ∧ (∀ e ∈ (linesFrom a ls ([], bd)).1, p < e.pos) ∧ (∀ x ∈ or, p < x) ∧ p < a + sumL ls)
  | [], a, bd => Or.inl ⟨[], rfl, rfl⟩
  | l :: r, a, bd => by
    have hsum : sumL (l :: r) = l.length + 1 + sumL r := by simp [sumL]
    rw [linesFrom, runP_cons]
    unfold stepL
    by_cases hs : skipB l = true
    · rw [if_pos hs, if_pos hs]
      rcases run_none r (a + l.length + 1) bd with h | ⟨p, or, h0, h1, h2, h3, h4, h5⟩
      · exact Or.inl h
      · exact Or.inr ⟨p, or, by omega, h1, h2, h3, h4, by omega⟩
    · rw [if_neg hs, if_neg hs]
      by_cases hb : headIs isBl l = true
      · rw [if_pos hb, if_pos hb, if_pos rfl]
        obtain ⟨tl, or, k1, k2, k3, k4, k5, k6, k7, k8⟩ := from_pos r (a + l.length + 1) [] (bd ++ [a])
        refine Or.inr ⟨a, or, Nat.le_refl _, by rw [k1, List.append_assoc]; rfl, rfl, fun e he => ?_, fun x hx => by have := k4 x hx; omega, by omega⟩
        have : e.pos ∈ (linesFrom (a + l.length + 1) r ([], bd ++ [a])).1.map Ent.pos := List.mem_map.2 ⟨e, he, rfl⟩
        rw [k2] at this
        have := k3 e.pos (by simpa using this)
        omega
      · rw [if_neg hb, if_neg hb]
        obtain ⟨tl, h1, h2⟩ := run_some r (a + l.length + 1) [] ⟨a, l, []⟩ bd []
        exact Or.inl ⟨tl, h1, h2⟩
end Go.Proofs.YtbgdohggdaoojaaDoor.Table
