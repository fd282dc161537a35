/-
  TABLE: lines that begin entries, in whatever order, with blanks more and comments between: what they are read as: plain.
-/
import Derived.Test.YtbgdohggdaoojaaDoorTabSam2
namespace Go.Proofs.YtbgdohggdaoojaaDoor.Table
open Go.RowKit Base
/-- Lines, one behind the other. -/
def textOf (L : List (List UInt8)) : List UInt8 := L.flatMap fun l => l ++ [10]
theorem textOf_cons (l : List UInt8) (L : List (List UInt8)) : textOf (l :: L) = l ++ 10 :: textOf L := by simp [textOf]
theorem textOf_app (L K : List (List UInt8)) : textOf (L ++ K) = textOf L ++ textOf K := by simp [textOf]
theorem split_text : ∀ (L : List (List UInt8)), (∀ l ∈ L, ∀ x ∈ l, x ≠ (10 : UInt8)) → splitB 10 (textOf L) = L ++ [[]]
  | [], _ => rfl
  | l :: L, h => by
    rw [textOf_cons, splitB_at (h l List.mem_cons_self), split_text L fun k hk => h k (List.mem_cons_of_mem _ hk)]; rfl
theorem badK_nil {l : List UInt8} (h : ∀ x ∈ l, isOkB x = true) : badK l l.length = [] := by
  unfold badK
  rw [List.filter_eq_nil_iff]
  intro i hi
  have hi := List.mem_range.1 hi
  rw [List.getD_eq_getElem?_getD, List.getElem?_eq_getElem hi]
  simp [h _ (List.getElem_mem hi)]
/-- A line that says nothing, or begins an entry. -/
def fineL (l : List UInt8) : Prop := skipB l = true ∨ (skipB l = false ∧ headIs isBl l = false)
def entsFrom : Nat → List (List UInt8) → List Ent
  | _, [] => []
  | a, l :: L => (if skipB l = true then [] else [⟨a, l, []⟩]) ++ entsFrom (a + l.length + 1) L
theorem lines_fine : ∀ (L : List (List UInt8)) (a : Nat) (es : List Ent) (bad : List Nat), (∀ l ∈ L, fineL l) → linesFrom a (L ++ [[]]) (es, bad) = (es ++ entsFrom a L, bad)
  | [], a, es, bad, _ => by
    rw [List.nil_append, linesFrom, linesFrom, stepL_nil]; simp [entsFrom]
  | l :: L, a, es, bad, h => by
    rw [List.cons_append, linesFrom, entsFrom]
    have ih := fun es => lines_fine L (a + l.length + 1) es bad fun k hk => h k (List.mem_cons_of_mem _ hk)
    rcases h l List.mem_cons_self with h1 | ⟨h1, h2⟩
    · have : stepL (es, bad) a l = (es, bad) := by unfold stepL; rw [if_pos h1]
      rw [this, ih, if_pos h1]; rfl
    · have : stepL (es, bad) a l = (es ++ [⟨a, l, []⟩], bad) := by unfold stepL; rw [if_neg (by rw [h1]; simp), if_neg (by rw [h2]; simp)]
      rw [this, ih, if_neg (by rw [h1]; simp)]; simp
theorem ents_kv : ∀ (L : List (List UInt8)) (a : Nat), (entsFrom a L).map kvOf = (L.filter fun l => !skipB l).map fun l => kvOf ⟨0, l, []⟩
  | [], _ => rfl
  | l :: L, a => by
    rw [entsFrom, List.map_append, ents_kv L]
    cases h : skipB l
    · rw [if_neg (by simp), List.filter_cons_of_pos (by simp [h])]; rfl
    · rw [if_pos rfl, List.filter_cons_of_neg (by simp [h])]; rfl
theorem ents_pos : ∀ (L : List (List UInt8)) (a : Nat), ∀ e ∈ entsFrom a L, e.pos < a + (textOf L).length
  | [], _, e, h => by simp [entsFrom] at h
  | l :: L, a, e, h => by
    rw [entsFrom] at h
    rw [textOf_cons, List.length_append, List.length_cons]
    rcases List.mem_append.1 h with h | h
    · split at h
      · simp at h
      · simp only [List.mem_singleton] at h
        rw [h]; show a < _; omega
    · have := ents_pos L _ e h
      omega
theorem has_no {T : List KV} {key : List UInt8} (h : ∀ p ∈ T, p.1 ≠ key) : hasOf T key = false := by
  unfold hasOf
  cases hp : T[posOf T key]? with
  | none => rfl
  | some p => simpa using h p (List.mem_of_getElem? hp)
theorem ins_permT (T : List KV) (x : KV) : (insKV T x).Perm (T ++ [x]) := by
  unfold insKV
  refine (List.perm_middle).trans ?_
  rw [List.take_append_drop]
  exact (List.perm_append_comm (l₁ := [x]) (l₂ := T))
theorem run_fine : ∀ (es : List Ent) (a : Nat) (T : List KV), (∀ e ∈ es, e.pos < a) → Good T → (∀ e ∈ es, (kvOf e).1.length ≤ 320 ∧ (kvOf e).2 ≠ [] ∧ (kvOf e).2.length ≤ 1000) →
    ((T ++ es.map kvOf).map Prod.fst).Nodup → T.length + es.length ≤ 2000 → ∃ U, runE es a 0 T = (U, 0, a) ∧ Good U ∧ U.Perm (T ++ es.map kvOf)
  | [], a, T, _, hg, _, _, _ => ⟨T, rfl, hg, by simp⟩
  | e :: es, a, T, hp, hg, hk, hd, hl => by
    rw [List.length_cons] at hl
    obtain ⟨k1, k2, k3⟩ := hk e List.mem_cons_self
    have hno : hasOf T (kvOf e).1 = false := has_no fun p hpm hpe => by
      rw [List.map_append, List.nodup_append] at hd
      exact hd.2.2 p.1 (List.mem_map.2 ⟨p, hpm, rfl⟩) (kvOf e).1 (List.mem_map.2 ⟨kvOf e, by simp, rfl⟩) hpe
    have hw : wrongE T (kvOf e) = 0 := by
      unfold wrongE
      rw [if_neg (by rintro (h | h | h); omega; exact k2 h; omega), if_neg (by rw [hno]; simp), if_neg (by omega)]
    have hperm := ins_permT T (kvOf e)
    have hlen : (insKV T (kvOf e)).length = T.length + 1 := by rw [hperm.length_eq]; simp
    obtain ⟨U, h1, h2, h3⟩ := run_fine es a (insKV T (kvOf e)) (fun x hx => hp x (List.mem_cons_of_mem _ hx)) (hg.ins hw) (fun x hx => hk x (List.mem_cons_of_mem _ hx))
      ((((hperm.append_right (es.map kvOf)).map Prod.fst).nodup_iff).2 (by simpa using hd)) (by omega)
    refine ⟨U, ?_, h2, h3.trans ?_⟩
    · rw [runE, if_pos (hp e List.mem_cons_self), if_pos hw]; exact h1
    · simpa using hperm.append_right (es.map kvOf)
/-- A text of fine lines is read as a table of what they say. -/
theorem parse_fine {L : List (List UInt8)} (hok : ∀ l ∈ L, ∀ x ∈ l, isOkB x = true ∧ x ≠ 10) (hf : ∀ l ∈ L, fineL l) (hlen : (textOf L).length ≤ 262144)
    {K : List KV} (hK : ((L.filter fun l => !skipB l).map fun l => kvOf ⟨0, l, []⟩) = K) (hk : ∀ p ∈ K, p.1.length ≤ 320 ∧ p.2 ≠ [] ∧ p.2.length ≤ 1000) (hd : (K.map Prod.fst).Nodup) (hl : K.length ≤ 2000) :
    ∃ U, (parseOf (textOf L)).1 = U ∧ (parseOf (textOf L)).2.1 = 0 ∧ Good U ∧ U.Perm K := by
  have hall : ∀ x ∈ textOf L, isOkB x = true := fun x hx => by
    unfold textOf at hx
    obtain ⟨l, hl, hx⟩ := List.mem_flatMap.1 hx
    rcases List.mem_append.1 hx with hx | hx
    · exact (hok l hl x hx).1
    · simp at hx; subst hx; rfl
  have h1 : linesOf (textOf L) = (entsFrom 0 L, []) := by
    unfold linesOf
    rw [split_text L fun l hl x hx => (hok l hl x hx).2, badK_nil hall, lines_fine L 0 [] [] hf]; rfl
  have he := ents_kv L 0
  rw [hK] at he
  have hlen2 : (entsFrom 0 L).length = K.length := by rw [← he]; simp
  obtain ⟨U, u1, u2, u3⟩ := run_fine (entsFrom 0 L) ((textOf L).length + 1) [] (fun e h => by have := ents_pos L 0 e h; omega) Good.nil
    (fun e h => hk _ (by rw [← he]; exact List.mem_map.2 ⟨e, h, rfl⟩)) (by rw [List.nil_append, he]; exact hd) (by rw [hlen2]; simpa using hl)
  have h2 : parseOf (textOf L) = (U, 0, (textOf L).length + 1) := by
    unfold parseOf
    rw [if_neg (by omega), h1]
    exact u1
  refine ⟨U, by rw [h2], by rw [h2], u2, ?_⟩
  rw [List.nil_append, he] at u3
  exact u3
theorem rising_one {T U : List KV} (hp : T.Perm U) (ht : Rising T) (hu : Rising U) : T = U :=
  sorted_one T U hp (List.Pairwise.imp (fun h h2 => absurd (bytes_trans h h2) (List.lt_irrefl _)) ht) hu
/-! ### Entries that may be written as one line -/
structure PlainE (k v : List UInt8) : Prop where
  kb : ∀ c ∈ k, 33 ≤ c.toNat ∧ c.toNat ≤ 126
  vb : ∀ c ∈ v, 32 ≤ c.toNat ∧ c.toNat ≤ 126
  kne : k ≠ []
  kl : k.length ≤ 320
  hash : headIs isHash k = false
  vne : trim v ≠ []
  vl : v.length ≤ 1000
/-- Blanks alone. -/
def BlankS (m : List UInt8) : Prop := m ≠ [] ∧ ∀ c ∈ m, isBl c = true
theorem trimL_blank : ∀ (m l : List UInt8), (∀ c ∈ m, isBl c = true) → trimL (m ++ l) = trimL l
  | [], _, _ => rfl
  | c :: m, l, h => by
    rw [List.cons_append, trimL_cons_yes (h c List.mem_cons_self), trimL_blank m l fun x hx => h x (List.mem_cons_of_mem _ hx)]
theorem trimR_rev (l : List UInt8) : trimR l = (trimL l.reverse).reverse := rfl
theorem trimL_back {m : List UInt8} (hm : ∀ c ∈ m, isBl c = true) : ∀ (l : List UInt8), trimL l ≠ [] → trimL (l ++ m) = trimL l ++ m
  | [], h => absurd rfl h
  | c :: l, h => by
    cases hc : isBl c
    · rw [List.cons_append, trimL_cons_no hc, trimL_cons_no hc]; rfl
    · rw [trimL_cons_yes hc] at h
      rw [List.cons_append, trimL_cons_yes hc, trimL_cons_yes hc, trimL_back hm l h]
theorem trim_ne {v : List UInt8} (h : trim v ≠ []) : trimL v ≠ [] := fun e => h (by unfold trim; rw [e]; rfl)
theorem trim_between {a b v : List UInt8} (ha : ∀ c ∈ a, isBl c = true) (hb : ∀ c ∈ b, isBl c = true) (hv : trim v ≠ []) : trim (a ++ v ++ b) = trim v := by
  unfold trim
  rw [List.append_assoc, trimL_blank a _ ha, trimL_back hb v (trim_ne hv), trimR_rev, List.reverse_append, trimL_blank b.reverse _ fun c hc => hb c (List.mem_reverse.1 hc)]; rfl
theorem bl_of {c : UInt8} (h : 33 ≤ c.toNat ∧ c.toNat ≤ 126) : isBl c = false := by
  unfold isBl; rw [decide_eq_false_iff_not]; omega
theorem plain_key {k v m : List UInt8} (h : PlainE k v) (hm : BlankS m) (t : List UInt8) : keyOf (k ++ m ++ t) = k ∧ (k ++ m ++ t).dropWhile noBl = m ++ t := by
  have hk : ∀ c ∈ k, noBl c = true := fun c hc => by unfold noBl; rw [bl_of (h.kb c hc)]; rfl
  obtain ⟨hm0, hm1⟩ := hm
  match m, hm0 with
  | x :: m, _ =>
    have hx : noBl x = false := by unfold noBl; rw [hm1 x List.mem_cons_self]; rfl
    constructor
    · unfold keyOf
      rw [List.append_assoc, List.takeWhile_append_of_pos hk, List.cons_append, List.takeWhile_cons_of_neg (by rw [hx]; simp), List.append_nil]
    · rw [List.append_assoc, List.dropWhile_append_of_pos hk, List.cons_append, List.dropWhile_cons_of_neg (by rw [hx]; simp)]
theorem plain_kv {k v m b : List UInt8} (h : PlainE k v) (hm : BlankS m) (hb : ∀ c ∈ b, isBl c = true) : kvOf ⟨0, k ++ m ++ (v ++ b), []⟩ = (lower k, trim v) := by
  obtain ⟨h1, h2⟩ := plain_key h hm (v ++ b)
  unfold kvOf
  show (lower (keyOf (k ++ m ++ (v ++ b))), valueOf ((k ++ m ++ (v ++ b)).dropWhile noBl) []) = _
  rw [h1, h2]
  unfold valueOf
  rw [List.foldl_nil, ← List.append_assoc, trim_between hm.2 hb h.vne]
theorem plain_line {k v : List UInt8} (h : PlainE k v) (t : List UInt8) : skipB (k ++ t) = false ∧ headIs isBl (k ++ t) = false := by
  match k, h.kne, h with
  | x :: k, _, h =>
    have hx : isBl x = false := bl_of (h.kb x List.mem_cons_self)
    have hh : isHash x = false := h.hash
    refine ⟨?_, hx⟩
    unfold skipB trim
    rw [List.cons_append, trimL_cons_no hx]
    have : ∃ r, trimR (x :: (k ++ t)) = x :: r := by
      rw [trimR_rev, List.reverse_cons]
      generalize (k ++ t).reverse = l
      induction l with
      | nil => exact ⟨[], by rw [List.nil_append, trimL_cons_no hx]; rfl⟩
      | cons c l ih =>
        cases hc : isBl c
        · rw [List.cons_append, trimL_cons_no hc]
          exact ⟨(c :: l).reverse, by simp⟩
        · rw [List.cons_append, trimL_cons_yes hc]; exact ih
    obtain ⟨r, hr⟩ := this
    rw [hr]
    simp [headIs, hh]
end Go.Proofs.YtbgdohggdaoojaaDoor.Table
