/-
  TABLE: both readers read the same: plain, the rest.
-/
import Derived.Test.YtbgdohggdaoojaaDoorTabSame
namespace Go.Proofs.YtbgdohggdaoojaaDoor.Table
open Go.RowKit Base
theorem hasOf_iff {T : List KV} (hr : Rising T) {key : List UInt8} : hasOf T key = true ↔ key ∈ T.map Prod.fst := by
  constructor
  · intro h
    unfold hasOf at h
    cases hp : T[posOf T key]? with
    | none => rw [hp] at h; cases h
    | some p => rw [hp] at h; exact List.mem_map.2 ⟨p, List.mem_of_getElem? hp, by simpa using h⟩
  · intro h
    obtain ⟨p, hp, rfl⟩ := List.mem_map.1 h
    cases hh : hasOf T p.1
    · have hm : p ∈ T.take (posOf T p.1) ++ T.drop (posOf T p.1) := by rw [List.take_append_drop]; exact hp
      rcases List.mem_append.1 hm with h | h
      · exact absurd (take_under p h) (List.lt_irrefl _)
      · exact absurd (drop_over hr hh p h) (List.lt_irrefl _)
    · rfl
theorem wrong_same {T E : List KV} (hg : Good T) (hp : T.Perm E) (x : KV) : wrongP E x.1 x.2 = wrongE T x := by
  have h1 : (x.1 ∈ E.map Prod.fst) ↔ hasOf T x.1 = true := by rw [hasOf_iff hg.rise]; exact ((hp.map Prod.fst).mem_iff).symm
  have h2 : E.length = T.length := hp.length_eq.symm
  have h3 := hg.few
  unfold wrongP wrongE
  by_cases a : 320 < x.1.length ∨ x.2 = [] ∨ 1000 < x.2.length
  · rw [if_pos a, if_pos a]
  · rw [if_neg a, if_neg a]
    by_cases b : hasOf T x.1 = true
    · rw [if_pos (h1.2 b), if_pos b]
    · rw [if_neg (fun h => b (h1.1 h)), if_neg b]
      by_cases c : 2000 ≤ T.length
      · rw [if_pos (by omega), if_pos c]
      · rw [if_neg (by omega), if_neg c]
theorem ins_perm {T E : List KV} (hp : T.Perm E) (x : KV) : (insKV T x).Perm (E ++ [x]) := by
  unfold insKV
  refine List.perm_middle.trans ?_
  rw [List.take_append_drop]
  exact (hp.cons x).trans (List.perm_append_singleton x E).symm
theorem proc_pos : ∀ (es : List Ent) (E : List KV) (f : Nat × Nat), procE E es = .inl f → f.1 ≠ 0 ∧ ∃ e ∈ es, f.2 = e.pos
  | [], E, f, h => by cases h
  | e :: r, E, f, h => by
    rw [procE] at h
    split at h
    · obtain ⟨h1, q, hq, h2⟩ := proc_pos r _ f h
      exact ⟨h1, q, List.mem_cons_of_mem _ hq, h2⟩
    · rename_i hw
      cases h
      exact ⟨hw, e, List.mem_cons_self, rfl⟩
theorem run_stop {es : List Ent} {a c : Nat} {T : List KV} (h : ∀ e ∈ es, a ≤ e.pos) : runE es a c T = (T, c, a) := by
  cases es with
  | nil => rfl
  | cons e r =>
    have := h e List.mem_cons_self
    rw [runE, if_neg (by omega)]
theorem run_proc : ∀ (es : List Ent) (a c : Nat) (E T : List KV), Good T → T.Perm E → (es.map Ent.pos).Pairwise (· < ·) →
    (∀ f, procE E es = .inl f → (f.2 < a → (runE es a c T).2 = f) ∧ (a ≤ f.2 → (runE es a c T).2 = (c, a))) ∧
    (∀ E', procE E es = .inr E' → (runE es a c T).2 = (c, a) ∧ ((∀ e ∈ es, e.pos < a) → Good (runE es a c T).1 ∧ (runE es a c T).1.Perm E'))
  | [], a, c, E, T, hg, hp, _ => ⟨fun f h => (by cases h), fun E' h => (by cases h; exact ⟨rfl, fun _ => ⟨hg, hp⟩⟩)⟩
  | e :: r, a, c, E, T, hg, hp, hs => by
    rw [List.map_cons, List.pairwise_cons] at hs
    have hlater : ∀ q ∈ r, e.pos < q.pos := fun q hq => hs.1 _ (List.mem_map.2 ⟨q, hq, rfl⟩)
    have hws := wrong_same hg hp (kvOf e)
    have hpos := proc_pos (e :: r) E
    rw [procE] at hpos ⊢
    rw [runE]
    by_cases hlt : e.pos < a
    · rw [if_pos hlt]
      by_cases hw : wrongP E (kvOf e).1 (kvOf e).2 = 0
      · rw [if_pos hw]
        rw [if_pos (hws ▸ hw)]
        obtain ⟨h1, h2⟩ := run_proc r a c (E ++ [kvOf e]) (insKV T (kvOf e)) (hg.ins (hws ▸ hw)) (ins_perm hp _) hs.2
        exact ⟨h1, fun E' h => ⟨(h2 E' h).1, fun hh => (h2 E' h).2 fun q hq => hh q (List.mem_cons_of_mem _ hq)⟩⟩
      · rw [if_neg hw]
        rw [if_neg (hws ▸ hw), run_stop (fun q hq => Nat.le_of_lt (hlater q hq)), ← hws]
        refine ⟨fun f h => ?_, fun E' h => by cases h⟩
        cases h
        exact ⟨fun _ => rfl, fun h => absurd hlt (Nat.not_lt.2 h)⟩
    · rw [if_neg hlt]
      refine ⟨fun f h => ⟨fun h2 => ?_, fun _ => rfl⟩, fun E' h => ⟨rfl, fun h2 => absurd (h2 e List.mem_cons_self) hlt⟩⟩
      obtain ⟨_, q, hq, h3⟩ := hpos f h
      rcases List.mem_cons.1 hq with rfl | hq
      · omega
      · have := hlater q hq; omega
theorem minBad_app : ∀ (l m : List Nat) (r : Nat × Nat), minBad (l ++ m) r = minBad m (minBad l r)
  | [], m, r => rfl
  | x :: l, m, r => by rw [List.cons_append, minBad, minBad, minBad_app l m]
theorem minBad_ge : ∀ (l : List Nat) (r : Nat × Nat), (∀ x ∈ l, r.1 ≤ x) → minBad l r = r
  | [], r, _ => rfl
  | x :: l, r, h => by
    have := h x List.mem_cons_self
    rw [minBad, if_neg (by omega)]
    exact minBad_ge l r fun y hy => h y (List.mem_cons_of_mem _ hy)
theorem minBad_head {p : Nat} {l : List Nat} (r : Nat × Nat) (h : ∀ x ∈ l, p ≤ x) : minBad (p :: l) r = if p < r.1 then (p, 61) else r := by
  rw [minBad]
  split
  · exact minBad_ge l _ h
  · exact minBad_ge l _ fun x hx => by have := h x hx; omega
theorem bad_min (l : List UInt8) : (badF l = (0, 0) ∧ minBad (badK l l.length) (l.length + 1, 0) = (l.length + 1, 0)) ∨ ∃ i, i < l.length + 1 ∧ badF l = (61, i) ∧ minBad (badK l l.length) (l.length + 1, 0) = (i, 61) := by
  have hpw : (badK l l.length).Pairwise (· < ·) := List.Pairwise.filter _ List.pairwise_lt_range
  have hmem : ∀ x ∈ badK l l.length, x < l.length := fun x hx => List.mem_range.1 (List.mem_filter.1 hx).1
  unfold badF
  cases h : badK l l.length with
  | nil => exact Or.inl ⟨rfl, rfl⟩
  | cons i t =>
    rw [h] at hpw hmem
    have hi := hmem i List.mem_cons_self
    refine Or.inr ⟨i, by omega, rfl, ?_⟩
    rw [minBad_head _ (fun x hx => Nat.le_of_lt ((List.pairwise_cons.1 hpw).1 x hx)), if_pos (show i < l.length + 1 by omega)]
theorem parseP_end (l : List UInt8) : parseP l = match runEnd (runP 0 (splitB 10 l) [] none) with
    | .inl f => .inl (firstF (badF l) f)
    | .inr E2 => if (badF l).1 = 0 then .inr E2 else .inl (badF l) := by
  unfold parseP runEnd
  cases runP 0 (splitB 10 l) [] none with
  | inl f => rfl
  | inr r => obtain ⟨E, cur⟩ := r; rfl
/-- Both readers read the same. -/
theorem parse_same (l : List UInt8) (hl : l.length ≤ 262144) :
    (∀ f, parseP l = .inl f → f.1 ≠ 0 ∧ (parseOf l).2 = f) ∧ (∀ E, parseP l = .inr E → (parseOf l).2.1 = 0 ∧ Good (parseOf l).1 ∧ (parseOf l).1.Perm E) := by
  have hsum : sumL (splitB 10 l) = l.length + 1 := splitB_sum 10 l
  have hof : parseOf l = runE (linesOf l).1 (minBad (linesOf l).2 (l.length + 1, 0)).1 (minBad (linesOf l).2 (l.length + 1, 0)).2 [] := by
    unfold parseOf; rw [if_neg (by omega)]
  rw [hof, parseP_end]
  unfold linesOf
  rcases run_none (splitB 10 l) 0 (badK l l.length) with ⟨tl, h1, h2⟩ | ⟨p, or, _, h1, h2, h3, h4, h5⟩
  · rw [h1, h2]
    obtain ⟨t2, o2, k1, k2, k3, k4, k5, k6, k7, k8⟩ := from_pos (splitB 10 l) 0 [] (badK l l.length)
    rw [h1] at k2
    have hpw : (tl.map Ent.pos).Pairwise (· < ·) := by
      have : tl.map Ent.pos = t2 := by simpa using k2
      rw [this]; exact k5
    have hlt : ∀ e ∈ tl, e.pos < l.length + 1 := fun e he => by
      have : e.pos ∈ t2 := by
        have : tl.map Ent.pos = t2 := by simpa using k2
        rw [← this]; exact List.mem_map.2 ⟨e, he, rfl⟩
      have := k7 _ this; omega
    dsimp only
    rcases bad_min l with ⟨hb, hm⟩ | ⟨i, hi, hb, hm⟩
    · rw [hb, hm]
      obtain ⟨r1, r2⟩ := run_proc tl (l.length + 1) 0 [] [] Good.nil (List.Perm.refl _) hpw
      cases hp : procE [] tl with
      | inl f =>
        obtain ⟨hf, e, he, hfe⟩ := proc_pos tl [] f hp
        refine ⟨fun g hg => ?_, fun E hE => by cases hE⟩
        cases hg
        have : firstF (0, 0) f = f := by unfold firstF; rw [if_neg (by simp [hf])]
        rw [this]
        exact ⟨hf, (r1 f hp).1 (hfe ▸ hlt e he)⟩
      | inr E2 =>
        refine ⟨fun g hg => (by cases hg), fun E hE => ?_⟩
        cases hE
        have q := r2 _ hp
        exact ⟨by rw [q.1], (q.2 hlt).1, (q.2 hlt).2⟩
    · rw [hb, hm]
      obtain ⟨r1, r2⟩ := run_proc tl i 61 [] [] Good.nil (List.Perm.refl _) hpw
      cases hp : procE [] tl with
      | inl f =>
        obtain ⟨hf, e, he, hfe⟩ := proc_pos tl [] f hp
        refine ⟨fun g hg => ?_, fun E hE => by cases hE⟩
        cases hg
        unfold firstF
        by_cases hif : i ≤ f.2
        · rw [if_pos (Or.inr ⟨by simp, hif⟩)]
          exact ⟨by simp, (r1 f hp).2 hif⟩
        · rw [if_neg (by simp [hf, hif])]
          exact ⟨hf, (r1 f hp).1 (by omega)⟩
      | inr E2 =>
        refine ⟨fun g hg => ?_, fun E hE => by cases hE⟩
        cases hg
        exact ⟨by simp, (r2 _ hp).1⟩
  · rw [h1, h2]
    rw [minBad_app]
    dsimp only [runEnd]
    refine ⟨fun g hg => ?_, fun E hE => by cases hE⟩
    cases hg
    rcases bad_min l with ⟨hb, hm⟩ | ⟨i, hi, hb, hm⟩
    · rw [hb, hm, minBad_head _ (fun x hx => Nat.le_of_lt (h4 x hx)), if_pos (show p < (l.length + 1, 0).1 by show p < l.length + 1; omega)]
      rw [run_stop (fun e he => Nat.le_of_lt (h3 e he))]
      exact ⟨by simp [firstF], rfl⟩
    · rw [hb, hm, minBad_head _ (fun x hx => Nat.le_of_lt (h4 x hx))]
      unfold firstF
      by_cases hip : i ≤ p
      · rw [if_neg (show ¬ p < (i, 61).1 by show ¬ p < i; omega), run_stop (fun e he => by have := h3 e he; show i ≤ e.pos; omega), if_pos (Or.inr ⟨by simp, hip⟩)]
        exact ⟨by simp, rfl⟩
      · rw [if_pos (show p < (i, 61).1 by show p < i; omega), run_stop (fun e he => Nat.le_of_lt (h3 e he)), if_neg (by simp [hip])]
        exact ⟨by simp, rfl⟩
/-- One table in order. -/
theorem sorted_one : ∀ (T U : List KV), T.Perm U → SortedK T → Rising U → T = U
  | [], U, hp, _, _ => hp.nil_eq
  | x :: T, [], hp, _, _ => absurd hp.length_eq (by simp)
  | x :: T, y :: U, hp, hs, hr => by
    unfold SortedK at hs
    unfold Rising at hr
    rw [List.pairwise_cons] at hs hr
    have hxy : x = y := by
      have hx : x ∈ y :: U := hp.subset List.mem_cons_self
      have hy : y ∈ x :: T := hp.symm.subset List.mem_cons_self
      rcases List.mem_cons.1 hx with h | h
      · exact h
      · rcases List.mem_cons.1 hy with h2 | h2
        · exact h2.symm
        · exact absurd (hr.1 x h) (hs.1 y h2)
    subst hxy
    rw [sorted_one T U (List.Perm.cons_inv hp) hs.2 hr.2]
end Go.Proofs.YtbgdohggdaoojaaDoor.Table
