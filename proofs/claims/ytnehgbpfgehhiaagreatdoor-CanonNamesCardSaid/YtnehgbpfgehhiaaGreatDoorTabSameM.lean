/-
  MERGED by mergefill.py: TabSame, TabSam2, TabPar.
-/
import Derived.Test.YtnehgbpfgehhiaaGreatDoorTabPrs0
import Derived.Test.YtnehgbpfgehhiaaGreatDoorTabPrs
/-
  TABLE: both readers read the same: plain.
-/
namespace Go.Proofs.YtnehgbpfgehhiaaGreatDoor.Table
open Go.RowKit Base
/-- Entries, one behind the other. -/
def procE : List KV → List Ent → (Nat × Nat) ⊕ List KV
  | E, [] => .inr E
  | E, e :: r => if wrongP E (kvOf e).1 (kvOf e).2 = 0 then procE (E ++ [kvOf e]) r else .inl (wrongP E (kvOf e).1 (kvOf e).2, e.pos)
def runEnd (r : RunR) : (Nat × Nat) ⊕ List KV := match r with
  | .inl f => .inl f
  | .inr (E, cur) => endP E cur
theorem addLast_snoc (pre : List Ent) (e : Ent) (p : List UInt8) : addLast (pre ++ [e]) p = pre ++ [{ e with more := e.more ++ [p] }] := by
  unfold addLast
  have h : (pre ++ [e]).length - 1 = pre.length := by simp
  rw [h]
  have h2 : (pre ++ [e])[pre.length]? = some e := by simp
  rw [h2]
  show (pre ++ [e]).set pre.length _ = _
  rw [List.set_append_right _ _ (Nat.le_refl _)]
  simp
theorem endP_proc (E : List KV) (e : Ent) : endP E (some e) = procE E [e] := by
  show (if _ then _ else _) = _
  unfold procE
  split <;> rfl
/-- With an entry open. -/
theorem run_some : ∀ (ls : List (List UInt8)) (a : Nat) (pre : List Ent) (e : Ent) (bd : List Nat) (E : List KV),
    ∃ tl, (linesFrom a ls (pre ++ [e], bd)) = (pre ++ tl, bd) ∧ runEnd (runP a ls E (some e)) = procE E tl
  | [], a, pre, e, bd, E => ⟨[e], rfl, endP_proc E e⟩
  | l :: r, a, pre, e, bd, E => by
    rw [linesFrom, runP_cons]
    unfold stepL
    by_cases hs : skipB l = true
    · rw [if_pos hs, if_pos hs]
      exact run_some r (a + l.length + 1) pre e bd E
    · rw [if_neg hs, if_neg hs]
      by_cases hb : headIs isBl l = true
      · rw [if_pos hb, if_pos hb, if_neg (by simp), addLast_snoc]
        exact run_some r (a + l.length + 1) pre _ bd E
      · rw [if_neg hb, if_neg hb]
        obtain ⟨tl, h1, h2⟩ := run_some r (a + l.length + 1) (pre ++ [e]) ⟨a, l, []⟩ bd (E ++ [kvOf e])
        refine ⟨e :: tl, by rw [h1, List.append_assoc]; rfl, ?_⟩
        by_cases hw : wrongP E (kvOf e).1 (kvOf e).2 = 0
        · rw [endP_yes hw]
          show runEnd (runP (a + l.length + 1) r (E ++ [kvOf e]) (some ⟨a, l, []⟩)) = _
          rw [h2]
          conv => rhs; rw [procE]
          rw [if_pos hw]
        · rw [endP_no hw]
          show (Sum.inl _ : (Nat × Nat) ⊕ List KV) = _
          rw [procE, if_neg hw]
/-- Positions of what comes later. -/
theorem from_pos : ∀ (ls : List (List UInt8)) (a : Nat) (es : List Ent) (bd : List Nat), ∃ tl or, (linesFrom a ls (es, bd)).2 = bd ++ or ∧ (linesFrom a ls (es, bd)).1.map Ent.pos = es.map Ent.pos ++ tl ∧ (∀ x ∈ tl, a ≤ x) ∧ (∀ x ∈ or, a ≤ x) ∧ tl.Pairwise (· < ·) ∧ or.Pairwise (· < ·) ∧ (∀ x ∈ tl, x < a + sumL ls) ∧ ∀ x ∈ or, x < a + sumL ls
  | [], a, es, bd => ⟨[], [], by simp [linesFrom]⟩
  | l :: r, a, es, bd => by
    have hsum : sumL (l :: r) = l.length + 1 + sumL r := by simp [sumL]
    have step : ∀ (es2 : List Ent) (bd2 : List Nat) (t1 o1 : List Nat), stepL (es, bd) a l = (es2, bd2) → bd2 = bd ++ o1 → es2.map Ent.pos = es.map Ent.pos ++ t1 → (t1 = [] ∨ t1 = [a]) → (o1 = [] ∨ o1 = [a]) →
        ∃ tl or, (linesFrom a (l :: r) (es, bd)).2 = bd ++ or ∧ (linesFrom a (l :: r) (es, bd)).1.map Ent.pos = es.map Ent.pos ++ tl ∧ (∀ x ∈ tl, a ≤ x) ∧ (∀ x ∈ or, a ≤ x) ∧ tl.Pairwise (· < ·) ∧ or.Pairwise (· < ·) ∧ (∀ x ∈ tl, x < a + sumL (l :: r)) ∧ ∀ x ∈ or, x < a + sumL (l :: r) := by
      intro es2 bd2 t1 o1 h1 h2 h3 h4 h5
      obtain ⟨tl, or, k1, k2, k3, k4, k5, k6, k7, k8⟩ := from_pos r (a + l.length + 1) es2 bd2
      rw [linesFrom, h1]
      refine ⟨t1 ++ tl, o1 ++ or, by rw [k1, h2, List.append_assoc], by rw [k2, h3, List.append_assoc], ?_, ?_, ?_, ?_, ?_, ?_⟩
      · intro x hx
        rcases List.mem_append.1 hx with hx | hx
        · rcases h4 with rfl | rfl
          · simp at hx
          · simp at hx; omega
        · have := k3 x hx; omega
      · intro x hx
        rcases List.mem_append.1 hx with hx | hx
        · rcases h5 with rfl | rfl
          · simp at hx
          · simp at hx; omega
        · have := k4 x hx; omega
      · rcases h4 with rfl | rfl
        · exact k5
        · exact List.pairwise_cons.2 ⟨fun x hx => by have := k3 x hx; omega, k5⟩
      · rcases h5 with rfl | rfl
        · exact k6
        · exact List.pairwise_cons.2 ⟨fun x hx => by have := k4 x hx; omega, k6⟩
      · intro x hx
        rcases List.mem_append.1 hx with hx | hx
        · rcases h4 with rfl | rfl
          · simp at hx
          · simp at hx; omega
        · have := k7 x hx; omega
      · intro x hx
        rcases List.mem_append.1 hx with hx | hx
        · rcases h5 with rfl | rfl
          · simp at hx
          · simp at hx; omega
        · have := k8 x hx; omega
    by_cases hs : skipB l = true
    · exact step es bd [] [] (by unfold stepL; rw [if_pos hs]) (by simp) (by simp) (Or.inl rfl) (Or.inl rfl)
    · by_cases hb : headIs isBl l = true
      · by_cases h0 : es = []
        · exact step es (bd ++ [a]) [] [a] (by unfold stepL; rw [if_neg hs, if_pos hb, if_pos h0]) rfl (by simp) (Or.inl rfl) (Or.inr rfl)
        · refine step (addLast es (trim l)) bd [] [] (by unfold stepL; rw [if_neg hs, if_pos hb, if_neg h0]) (by simp) ?_ (Or.inl rfl) (Or.inl rfl)
          obtain ⟨q, c, rfl⟩ : ∃ q c, es = q ++ [c] := ⟨es.dropLast, es.getLast h0, (List.dropLast_concat_getLast h0).symm⟩
          rw [addLast_snoc]; simp
      · exact step (es ++ [⟨a, l, []⟩]) bd [a] [] (by unfold stepL; rw [if_neg hs, if_neg hb]) (by simp) (by simp) (Or.inr rfl) (Or.inl rfl)
/-- With none. -/
theorem run_none : ∀ (ls : List (List UInt8)) (a : Nat) (bd : List Nat),
    (∃ tl, linesFrom a ls ([], bd) = (tl, bd) ∧ runEnd (runP a ls [] none) = procE [] tl) ∨
    (∃ p or, a ≤ p ∧ (linesFrom a ls ([], bd)).2 = bd ++ p :: or ∧ runP a ls [] none = .inl (61, p) ∧ (∀ e ∈ (linesFrom a ls ([], bd)).1, p < e.pos) ∧ (∀ x ∈ or, p < x) ∧ p < a + sumL ls)
  | [], a, bd => Or.inl ⟨[], rfl, rfl⟩
  | l :: r, a, bd => by
    have hsum : sumL (l :: r) = l.length + 1 + sumL r := by simp [sumL]
    rw [linesFrom, runP_cons]
    unfold stepL
    by_cases hs : skipB l = true
    · rw [if_pos hs, if_pos hs]
      rcases run_none r (a + l.length + 1) bd with h | ⟨p, or, h0, h1, h2, h3, h4, h5⟩
      · exact Or.inl h
      · exact Or.inr ⟨p, or, by omega, h1, h2, h3, h4, by omega⟩
    · rw [if_neg hs, if_neg hs]
      by_cases hb : headIs isBl l = true
      · rw [if_pos hb, if_pos hb, if_pos rfl]
        obtain ⟨tl, or, k1, k2, k3, k4, k5, k6, k7, k8⟩ := from_pos r (a + l.length + 1) [] (bd ++ [a])
        refine Or.inr ⟨a, or, Nat.le_refl _, by rw [k1, List.append_assoc]; rfl, rfl, fun e he => ?_, fun x hx => by have := k4 x hx; omega, by omega⟩
        have : e.pos ∈ (linesFrom (a + l.length + 1) r ([], bd ++ [a])).1.map Ent.pos := List.mem_map.2 ⟨e, he, rfl⟩
        rw [k2] at this
        have := k3 e.pos (by simpa using this)
        omega
      · rw [if_neg hb, if_neg hb]
        obtain ⟨tl, h1, h2⟩ := run_some r (a + l.length + 1) [] ⟨a, l, []⟩ bd []
        exact Or.inl ⟨tl, h1, h2⟩
end Go.Proofs.YtnehgbpfgehhiaaGreatDoor.Table
/-
  TABLE: both readers read the same: plain, the rest.
-/
namespace Go.Proofs.YtnehgbpfgehhiaaGreatDoor.Table
open Go.RowKit Base
theorem hasOf_iff {T : List KV} (hr : Rising T) {key : List UInt8} : hasOf T key = true ↔ key ∈ T.map Prod.fst := by
  constructor
  · intro h
    unfold hasOf at h
    cases hp : T[posOf T key]? with
    | none => rw [hp] at h; cases h
    | some p => rw [hp] at h; exact List.mem_map.2 ⟨p, List.mem_of_getElem? hp, by simpa using h⟩
  · intro h
    obtain ⟨p, hp, rfl⟩ := List.mem_map.1 h
    cases hh : hasOf T p.1
    · have hm : p ∈ T.take (posOf T p.1) ++ T.drop (posOf T p.1) := by rw [List.take_append_drop]; exact hp
      rcases List.mem_append.1 hm with h | h
      · exact absurd (take_under p h) (List.lt_irrefl _)
      · exact absurd (drop_over hr hh p h) (List.lt_irrefl _)
    · rfl
theorem wrong_same {T E : List KV} (hg : Good T) (hp : T.Perm E) (x : KV) : wrongP E x.1 x.2 = wrongE T x := by
  have h1 : (x.1 ∈ E.map Prod.fst) ↔ hasOf T x.1 = true := by rw [hasOf_iff hg.rise]; exact ((hp.map Prod.fst).mem_iff).symm
  have h2 : E.length = T.length := hp.length_eq.symm
  have h3 := hg.few
  unfold wrongP wrongE
  by_cases a : 320 < x.1.length ∨ x.2 = [] ∨ 1000 < x.2.length
  · rw [if_pos a, if_pos a]
  · rw [if_neg a, if_neg a]
    by_cases b : hasOf T x.1 = true
    · rw [if_pos (h1.2 b), if_pos b]
    · rw [if_neg (fun h => b (h1.1 h)), if_neg b]
      by_cases c : 2000 ≤ T.length
      · rw [if_pos (by omega), if_pos c]
      · rw [if_neg (by omega), if_neg c]
theorem ins_perm {T E : List KV} (hp : T.Perm E) (x : KV) : (insKV T x).Perm (E ++ [x]) := by
  unfold insKV
  refine List.perm_middle.trans ?_
  rw [List.take_append_drop]
  exact (hp.cons x).trans (List.perm_append_singleton x E).symm
theorem proc_pos : ∀ (es : List Ent) (E : List KV) (f : Nat × Nat), procE E es = .inl f → f.1 ≠ 0 ∧ ∃ e ∈ es, f.2 = e.pos
  | [], E, f, h => by cases h
  | e :: r, E, f, h => by
    rw [procE] at h
    split at h
    · obtain ⟨h1, q, hq, h2⟩ := proc_pos r _ f h
      exact ⟨h1, q, List.mem_cons_of_mem _ hq, h2⟩
    · rename_i hw
      cases h
      exact ⟨hw, e, List.mem_cons_self, rfl⟩
theorem run_stop {es : List Ent} {a c : Nat} {T : List KV} (h : ∀ e ∈ es, a ≤ e.pos) : runE es a c T = (T, c, a) := by
  cases es with
  | nil => rfl
  | cons e r =>
    have := h e List.mem_cons_self
    rw [runE, if_neg (by omega)]
theorem run_proc : ∀ (es : List Ent) (a c : Nat) (E T : List KV), Good T → T.Perm E → (es.map Ent.pos).Pairwise (· < ·) →
    (∀ f, procE E es = .inl f → (f.2 < a → (runE es a c T).2 = f) ∧ (a ≤ f.2 → (runE es a c T).2 = (c, a))) ∧
    (∀ E', procE E es = .inr E' → (runE es a c T).2 = (c, a) ∧ ((∀ e ∈ es, e.pos < a) → Good (runE es a c T).1 ∧ (runE es a c T).1.Perm E'))
  | [], a, c, E, T, hg, hp, _ => ⟨fun f h => (by cases h), fun E' h => (by cases h; exact ⟨rfl, fun _ => ⟨hg, hp⟩⟩)⟩
  | e :: r, a, c, E, T, hg, hp, hs => by
    rw [List.map_cons, List.pairwise_cons] at hs
    have hlater : ∀ q ∈ r, e.pos < q.pos := fun q hq => hs.1 _ (List.mem_map.2 ⟨q, hq, rfl⟩)
    have hws := wrong_same hg hp (kvOf e)
    have hpos := proc_pos (e :: r) E
    rw [procE] at hpos ⊢
    rw [runE]
    by_cases hlt : e.pos < a
    · rw [if_pos hlt]
      by_cases hw : wrongP E (kvOf e).1 (kvOf e).2 = 0
      · rw [if_pos hw]
        rw [if_pos (hws ▸ hw)]
        obtain ⟨h1, h2⟩ := run_proc r a c (E ++ [kvOf e]) (insKV T (kvOf e)) (hg.ins (hws ▸ hw)) (ins_perm hp _) hs.2
        exact ⟨h1, fun E' h => ⟨(h2 E' h).1, fun hh => (h2 E' h).2 fun q hq => hh q (List.mem_cons_of_mem _ hq)⟩⟩
      · rw [if_neg hw]
        rw [if_neg (hws ▸ hw), run_stop (fun q hq => Nat.le_of_lt (hlater q hq)), ← hws]
        refine ⟨fun f h => ?_, fun E' h => by cases h⟩
        cases h
        exact ⟨fun _ => rfl, fun h => absurd hlt (Nat.not_lt.2 h)⟩
    · rw [if_neg hlt]
      refine ⟨fun f h => ⟨fun h2 => ?_, fun _ => rfl⟩, fun E' h => ⟨rfl, fun h2 => absurd (h2 e List.mem_cons_self) hlt⟩⟩
      obtain ⟨_, q, hq, h3⟩ := hpos f h
      rcases List.mem_cons.1 hq with rfl | hq
      · omega
      · have := hlater q hq; omega
theorem minBad_app : ∀ (l m : List Nat) (r : Nat × Nat), minBad (l ++ m) r = minBad m (minBad l r)
  | [], m, r => rfl
  | x :: l, m, r => by rw [List.cons_append, minBad, minBad, minBad_app l m]
theorem minBad_ge : ∀ (l : List Nat) (r : Nat × Nat), (∀ x ∈ l, r.1 ≤ x) → minBad l r = r
  | [], r, _ => rfl
  | x :: l, r, h => by
    have := h x List.mem_cons_self
    rw [minBad, if_neg (by omega)]
    exact minBad_ge l r fun y hy => h y (List.mem_cons_of_mem _ hy)
theorem minBad_head {p : Nat} {l : List Nat} (r : Nat × Nat) (h : ∀ x ∈ l, p ≤ x) : minBad (p :: l) r = if p < r.1 then (p, 61) else r := by
  rw [minBad]
  split
  · exact minBad_ge l _ h
  · exact minBad_ge l _ fun x hx => by have := h x hx; omega
theorem bad_min (l : List UInt8) : (badF l = (0, 0) ∧ minBad (badK l l.length) (l.length + 1, 0) = (l.length + 1, 0)) ∨ ∃ i, i < l.length + 1 ∧ badF l = (61, i) ∧ minBad (badK l l.length) (l.length + 1, 0) = (i, 61) := by
  have hpw : (badK l l.length).Pairwise (· < ·) := List.Pairwise.filter _ List.pairwise_lt_range
  have hmem : ∀ x ∈ badK l l.length, x < l.length := fun x hx => List.mem_range.1 (List.mem_filter.1 hx).1
  unfold badF
  cases h : badK l l.length with
  | nil => exact Or.inl ⟨rfl, rfl⟩
  | cons i t =>
    rw [h] at hpw hmem
    have hi := hmem i List.mem_cons_self
    refine Or.inr ⟨i, by omega, rfl, ?_⟩
    rw [minBad_head _ (fun x hx => Nat.le_of_lt ((List.pairwise_cons.1 hpw).1 x hx)), if_pos (show i < l.length + 1 by omega)]
theorem parseP_end (l : List UInt8) : parseP l = match runEnd (runP 0 (splitB 10 l) [] none) with
    | .inl f => .inl (firstF (badF l) f)
    | .inr E2 => if (badF l).1 = 0 then .inr E2 else .inl (badF l) := by
  unfold parseP runEnd
  cases runP 0 (splitB 10 l) [] none with
  | inl f => rfl
  | inr r => obtain ⟨E, cur⟩ := r; rfl
/-- Both readers read the same. -/
theorem parse_same (l : List UInt8) (hl : l.length ≤ 262144) :
    (∀ f, parseP l = .inl f → f.1 ≠ 0 ∧ (parseOf l).2 = f) ∧ (∀ E, parseP l = .inr E → (parseOf l).2.1 = 0 ∧ Good (parseOf l).1 ∧ (parseOf l).1.Perm E) := by
  have hsum : sumL (splitB 10 l) = l.length + 1 := splitB_sum 10 l
  have hof : parseOf l = runE (linesOf l).1 (minBad (linesOf l).2 (l.length + 1, 0)).1 (minBad (linesOf l).2 (l.length + 1, 0)).2 [] := by
    unfold parseOf; rw [if_neg (by omega)]
  rw [hof, parseP_end]
  unfold linesOf
  rcases run_none (splitB 10 l) 0 (badK l l.length) with ⟨tl, h1, h2⟩ | ⟨p, or, _, h1, h2, h3, h4, h5⟩
  · rw [h1, h2]
    obtain ⟨t2, o2, k1, k2, k3, k4, k5, k6, k7, k8⟩ := from_pos (splitB 10 l) 0 [] (badK l l.length)
    rw [h1] at k2
    have hpw : (tl.map Ent.pos).Pairwise (· < ·) := by
      have : tl.map Ent.pos = t2 := by simpa using k2
      rw [this]; exact k5
    have hlt : ∀ e ∈ tl, e.pos < l.length + 1 := fun e he => by
      have : e.pos ∈ t2 := by
        have : tl.map Ent.pos = t2 := by simpa using k2
        rw [← this]; exact List.mem_map.2 ⟨e, he, rfl⟩
      have := k7 _ this; omega
    dsimp only
    rcases bad_min l with ⟨hb, hm⟩ | ⟨i, hi, hb, hm⟩
    · rw [hb, hm]
      obtain ⟨r1, r2⟩ := run_proc tl (l.length + 1) 0 [] [] Good.nil (List.Perm.refl _) hpw
      cases hp : procE [] tl with
      | inl f =>
        obtain ⟨hf, e, he, hfe⟩ := proc_pos tl [] f hp
        refine ⟨fun g hg => ?_, fun E hE => by cases hE⟩
        cases hg
        have : firstF (0, 0) f = f := by unfold firstF; rw [if_neg (by simp [hf])]
        rw [this]
        exact ⟨hf, (r1 f hp).1 (hfe ▸ hlt e he)⟩
      | inr E2 =>
        refine ⟨fun g hg => (by cases hg), fun E hE => ?_⟩
        cases hE
        have q := r2 _ hp
        exact ⟨by rw [q.1], (q.2 hlt).1, (q.2 hlt).2⟩
    · rw [hb, hm]
      obtain ⟨r1, r2⟩ := run_proc tl i 61 [] [] Good.nil (List.Perm.refl _) hpw
      cases hp : procE [] tl with
      | inl f =>
        obtain ⟨hf, e, he, hfe⟩ := proc_pos tl [] f hp
        refine ⟨fun g hg => ?_, fun E hE => by cases hE⟩
        cases hg
        unfold firstF
        by_cases hif : i ≤ f.2
        · rw [if_pos (Or.inr ⟨by simp, hif⟩)]
          exact ⟨by simp, (r1 f hp).2 hif⟩
        · rw [if_neg (by simp [hf, hif])]
          exact ⟨hf, (r1 f hp).1 (by omega)⟩
      | inr E2 =>
        refine ⟨fun g hg => ?_, fun E hE => by cases hE⟩
        cases hg
        exact ⟨by simp, (r2 _ hp).1⟩
  · rw [h1, h2]
    rw [minBad_app]
    dsimp only [runEnd]
    refine ⟨fun g hg => ?_, fun E hE => by cases hE⟩
    cases hg
    rcases bad_min l with ⟨hb, hm⟩ | ⟨i, hi, hb, hm⟩
    · rw [hb, hm, minBad_head _ (fun x hx => Nat.le_of_lt (h4 x hx)), if_pos (show p < (l.length + 1, 0).1 by show p < l.length + 1; omega)]
      rw [run_stop (fun e he => Nat.le_of_lt (h3 e he))]
      exact ⟨by simp [firstF], rfl⟩
    · rw [hb, hm, minBad_head _ (fun x hx => Nat.le_of_lt (h4 x hx))]
      unfold firstF
      by_cases hip : i ≤ p
      · rw [if_neg (show ¬ p < (i, 61).1 by show ¬ p < i; omega), run_stop (fun e he => by have := h3 e he; show i ≤ e.pos; omega), if_pos (Or.inr ⟨by simp, hip⟩)]
        exact ⟨by simp, rfl⟩
      · rw [if_pos (show p < (i, 61).1 by show p < i; omega), run_stop (fun e he => Nat.le_of_lt (h3 e he)), if_neg (by simp [hip])]
        exact ⟨by simp, rfl⟩
/-- One table in order. -/
theorem sorted_one : ∀ (T U : List KV), T.Perm U → SortedK T → Rising U → T = U
  | [], U, hp, _, _ => hp.nil_eq
  | x :: T, [], hp, _, _ => absurd hp.length_eq (by simp)
  | x :: T, y :: U, hp, hs, hr => by
    unfold SortedK at hs
    unfold Rising at hr
    rw [List.pairwise_cons] at hs hr
    have hxy : x = y := by
      have hx : x ∈ y :: U := hp.subset List.mem_cons_self
      have hy : y ∈ x :: T := hp.symm.subset List.mem_cons_self
      rcases List.mem_cons.1 hx with h | h
      · exact h
      · rcases List.mem_cons.1 hy with h2 | h2
        · exact h2.symm
        · exact absurd (hr.1 x h) (hs.1 y h2)
    subst hxy
    rw [sorted_one T U (List.Perm.cons_inv hp) hs.2 hr.2]
end Go.Proofs.YtnehgbpfgehhiaaGreatDoor.Table
/-
  TABLE, the program: the reader, as the other reader reads.
-/
namespace Go.Proofs.YtnehgbpfgehhiaaGreatDoor.Table
open Go.RowKit Base
theorem parse_good (l : List UInt8) (h : (parseOf l).2.1 = 0) : Good (parseOf l).1 := by
  by_cases hl : l.length ≤ 262144
  · obtain ⟨h1, h2⟩ := parse_same l hl
    cases hp : parseP l with
    | inl f =>
      obtain ⟨h3, h4⟩ := h1 f hp
      rw [h4] at h; exact absurd h h3
    | inr E => exact (h2 E hp).2.1
  · unfold parseOf at h
    rw [if_pos (by omega)] at h
    exact absurd h (by decide)
set_option maxHeartbeats 4000000 in
set_option maxRecDepth 100000 in
theorem pParseBig (s : ByteArray) (w : World) (hbig : 262144 < s.size) : Calls Tryz.prog 17 #[.string s] w (fun e w' => Below w.heap.size w w' ∧ e = .returned (.tuple #[.pointer none, fltV (60, 262144)])) := by
  have i1 : (262144 : Int) < (s.size : Int) := by omega
  clear hbig
  go_enter Tryz.func17, Tryz.ntmps17
  go_wp2
  refine wp_scope_fwd fun F hF => ?_
  have HF := Lib.hid hF
  clear hF
  go_wp2
  rw [Exit.fwd_ret]
  exact bodyPost_ret (v := .tuple #[.pointer none, .agg #[.int .i64 60, .int .i64 262144]]) (by simp [results, Tryz.results17, go_sem]) rfl ⟨Below.alloc1 _ _, rfl⟩
/-- The reader of the program's own. -/
theorem pParse (HIX : IdxOk) (s : ByteArray) (w : World) (hm : MaxOk w) : Calls Tryz.prog 17 #[.string s] w (ParseEnd 106 (parseOf s.data.toList) w) := by
  by_cases hbig : 262144 < s.size
  · refine (pParseBig s w hbig).mono fun e w' h => ⟨h.1, Or.inr ?_⟩
    have : parseOf s.data.toList = ([], 60, 262144) := by unfold parseOf; rw [if_pos (by rw [str_len]; exact hbig)]
    rw [this]
    exact ⟨by decide, h.2⟩
  · refine (pParseIn HIX s w hm (by omega)).mono fun e w' h => ⟨h.1, ?_⟩
    obtain ⟨h1, h2⟩ := parse_same s.data.toList (by rw [str_len]; omega)
    obtain ⟨_, h⟩ := h
    cases hp : parseP s.data.toList with
    | inl f =>
      rw [hp] at h
      obtain ⟨h3, h4⟩ := h1 f hp
      rw [h4]
      exact Or.inr ⟨h3, h⟩
    | inr E =>
      rw [hp] at h
      obtain ⟨b, T, he, hT, hS, hat⟩ := h
      obtain ⟨h3, h4, h5⟩ := h2 E hp
      rw [sorted_one T _ (hT.trans h5.symm) hS h4.rise] at hat
      exact Or.inl ⟨h3, b, he, hat⟩
end Go.Proofs.YtnehgbpfgehhiaaGreatDoor.Table
