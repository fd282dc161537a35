/-
  TABLE: what a text is read as: plain; rows of entries put together.
-/
import Derived.Test.YtbgdohggdaoojaaDoorTabLines
namespace Go.Proofs.YtbgdohggdaoojaaDoor.Table
open Go.RowKit Base
def wrongE (T : List KV) (x : KV) : Nat :=
  if 320 < x.1.length ∨ x.2 = [] ∨ 1000 < x.2.length then 61 else if hasOf T x.1 = true then 63 else if 2000 ≤ T.length then 62 else 0
def insKV (T : List KV) (x : KV) : List KV := T.take (posOf T x.1) ++ x :: T.drop (posOf T x.1)
def minBad : List Nat → Nat × Nat → Nat × Nat
  | [], r => r
  | x :: l, r => minBad l (if x < r.1 then (x, 61) else r)
/-- Table, code, place. -/
abbrev PAns := List KV × Nat × Nat
def runE : List Ent → Nat → Nat → List KV → PAns
  | [], a, c, T => (T, c, a)
  | e :: r, a, c, T => if e.pos < a then (if wrongE T (kvOf e) = 0 then runE r a c (insKV T (kvOf e)) else runE r e.pos (wrongE T (kvOf e)) T) else (T, c, a)
def parseOf (l : List UInt8) : PAns :=
  if 262144 < l.length then ([], 60, 262144) else runE (linesOf l).1 (minBad (linesOf l).2 (l.length + 1, 0)).1 (minBad (linesOf l).2 (l.length + 1, 0)).2 []
/-- What a reader of tables answers. -/
def ParseEnd (ty : TypeId) (p : PAns) (w : World) (e : Ending) (w' : World) : Prop :=
  Below w.heap.size w w' ∧ ((p.2.1 = 0 ∧ ∃ b, e = .returned (.tuple #[.pointer (some ⟨b, 0, none⟩), .agg #[.int .i64 0, .int .i64 0]]) ∧ TabNew ty w w' b p.1) ∨ (p.2.1 ≠ 0 ∧ e = .returned (.tuple #[.pointer none, .agg #[.int .i64 (p.2.1 : Int), .int .i64 (p.2.2 : Int)]])))
/-- A table as it may be. -/
structure Good (T : List KV) : Prop where
  rise : Rising T
  short : Short T
  few : T.length ≤ 2000
theorem Good.nil : Good [] := ⟨List.Pairwise.nil, fun p hp => by simp at hp, Nat.zero_le _⟩
theorem tw_take {α : Type} {p : α → Bool} : ∀ (l : List α), l.take (l.takeWhile p).length = l.takeWhile p ∧ l.drop (l.takeWhile p).length = l.dropWhile p
  | [] => by simp
  | x :: r => by
    obtain ⟨h1, h2⟩ := tw_take (p := p) r
    by_cases h : p x = true
    · simp [h, h1, h2]
    · simp [h]
theorem tw_mem {α : Type} {p : α → Bool} {x : α} : ∀ (l : List α), x ∈ l.takeWhile p → p x = true
  | [], h => by simp at h
  | y :: r, h => by
    by_cases hy : p y = true
    · rw [List.takeWhile_cons_of_pos hy] at h
      rcases List.mem_cons.1 h with rfl | h
      · exact hy
      · exact tw_mem r h
    · rw [List.takeWhile_cons_of_neg hy] at h; simp at h
theorem dw_head {α : Type} {p : α → Bool} {x : α} {r : List α} : ∀ (l : List α), l.dropWhile p = x :: r → p x = false
  | [], h => by simp at h
  | y :: l, h => by
    by_cases hy : p y = true
    · rw [List.dropWhile_cons_of_pos hy] at h; exact dw_head l h
    · rw [List.dropWhile_cons_of_neg hy] at h
      cases h; simpa using hy
theorem bytes_total : ∀ (a b : List UInt8), a < b ∨ a = b ∨ b < a
  | [], [] => Or.inr (Or.inl rfl)
  | [], _ :: _ => Or.inl (by simp)
  | _ :: _, [] => Or.inr (Or.inr (by simp))
  | x :: a, y :: b => by
    rw [List.cons_lt_cons_iff, List.cons_lt_cons_iff]
    rcases UInt8.lt_or_lt_of_ne (a := x) (b := y) |> fun h => (Classical.em (x = y)).symm.imp_left h with h | h
    · rcases h with h | h
      · exact Or.inl (Or.inl h)
      · exact Or.inr (Or.inr (Or.inl h))
    · subst h
      rcases bytes_total a b with h | h | h
      · exact Or.inl (Or.inr ⟨rfl, h⟩)
      · exact Or.inr (Or.inl (by rw [h]))
      · exact Or.inr (Or.inr (Or.inr ⟨rfl, h⟩))
theorem take_under {T : List KV} {key : List UInt8} : ∀ p ∈ T.take (posOf T key), p.1 < key := by
  intro p hp
  unfold posOf at hp
  rw [(tw_take T).1] at hp
  exact of_decide_eq_true (show decide (p.1 < key) = true from tw_mem (p := under key) T hp)
theorem drop_over {T : List KV} (hr : Rising T) {key : List UInt8} (hn : hasOf T key = false) : ∀ p ∈ T.drop (posOf T key), key < p.1 := by
  intro p hp
  rcases Nat.lt_or_ge (posOf T key) T.length with hlt | hge
  · have hd := List.drop_eq_getElem_cons hlt
    have hnot : ¬ T[posOf T key].1 < key := by
      have e := (tw_take (p := under key) T).2
      have h := dw_head T (e.symm.trans hd)
      intro hh
      rw [show under key T[posOf T key] = true from decide_eq_true hh] at h
      cases h
    have hneq : T[posOf T key].1 ≠ key := fun e => by
      unfold hasOf at hn
      rw [List.getElem?_eq_getElem hlt] at hn
      simp [e] at hn
    have h0 : key < T[posOf T key].1 := by
      rcases bytes_total key T[posOf T key].1 with h | h | h
      · exact h
      · exact absurd h.symm hneq
      · exact absurd h hnot
    rw [hd] at hp
    rcases List.mem_cons.1 hp with rfl | hp
    · exact h0
    · obtain ⟨j, hj, rfl⟩ := List.getElem_of_mem hp
      rw [List.length_drop] at hj
      have h1 := rise_lt hr (i := posOf T key) (j := posOf T key + 1 + j) (p := T[posOf T key]) (q := T[posOf T key + 1 + j]) (by omega) (List.getElem?_eq_getElem hlt) (List.getElem?_eq_getElem (by omega))
      rw [List.getElem_drop]
      exact bytes_trans h0 h1
  · rw [List.drop_eq_nil_of_le hge] at hp; simp at hp
theorem Good.ins {T : List KV} (h : Good T) {x : KV} (hw : wrongE T x = 0) : Good (insKV T x) := by
  unfold wrongE at hw
  split at hw
  · omega
  · rename_i h1
    split at hw
    · omega
    · rename_i h2
      split at hw
      · omega
      · rename_i h3
        have hn : hasOf T x.1 = false := by simpa using h2
        refine ⟨?_, fun p hp => ?_, ?_⟩
        · unfold insKV Rising
          rw [List.pairwise_append]
          refine ⟨List.Pairwise.sublist (List.take_sublist _ _) h.rise, ?_, fun a ha b hb => ?_⟩
          · rw [List.pairwise_cons]
            exact ⟨drop_over h.rise hn, List.Pairwise.sublist (List.drop_sublist _ _) h.rise⟩
          · have h4 := take_under a ha
            rcases List.mem_cons.1 hb with rfl | hb
            · exact h4
            · exact bytes_trans h4 (drop_over h.rise hn b hb)
        · unfold insKV at hp
          rcases List.mem_append.1 hp with hp | hp
          · exact h.short p (List.mem_of_mem_take hp)
          · rcases List.mem_cons.1 hp with rfl | hp
            · omega
            · exact h.short p (List.mem_of_mem_drop hp)
        · unfold insKV
          have := posOf_le T x.1
          rw [List.length_append, List.length_take, List.length_cons, List.length_drop]
          omega
theorem info40 : (Tryd.prog.info? 40).map (fun i => (i.zero, i.size, i.bytes)) = some (some (.agg #[.string ⟨#[]⟩, .string ⟨#[]⟩]), 2, 32) := by kernel_rfl
theorem Rows2.take {w : World} {a : Option Addr} {n c k : Nat} {T : List KV} (h : Rows2 w (.slice a n c) T) (hk : k ≤ T.length) : Rows2 w (.slice a k c) (T.take k) := by
  have hl : (T.take k).length = k := by simp; omega
  rcases h with ⟨rfl, a, c, he, hn⟩ | ⟨b, o, c, he, h1, h2⟩
  · cases he
    have : k = 0 := by simpa using hk
    subst this
    exact Or.inl ⟨rfl, _, _, rfl, hn⟩
  · cases he
    refine Or.inr ⟨b, o, c, by rw [hl], by omega, fun i x hx => ?_⟩
    have hi : i < k := by have := (List.getElem?_eq_some_iff.1 hx).1; omega
    rw [List.getElem?_take_of_lt hi] at hx
    exact h2 i x hx
theorem Rows2.drop {w : World} {a : Option Addr} {n c k : Nat} {T : List KV} (h : Rows2 w (.slice a n c) T) (hk : k ≤ T.length) :
    Rows2 w (.slice (if c = k then a else Option.map (fun x => x.add (k * 2)) a) (n - k) (c - k)) (T.drop k) := by
  have hl : (T.drop k).length = T.length - k := List.length_drop
  rcases h with ⟨rfl, a, c, he, hn⟩ | ⟨b, o, c, he, h1, h2⟩
  · cases he
    have : k = 0 := by simpa using hk
    subst this
    refine Or.inl ⟨rfl, _, _, rfl, fun hx => ?_⟩
    split at hx
    · have := hn hx; omega
    · cases a with
      | none => have := hn rfl; omega
      | some a => cases hx
  · cases he
    by_cases hz : k = T.length
    · refine Or.inl ⟨List.drop_eq_nil_of_le (by omega), _, _, by rw [show T.length - k = 0 by omega], fun hx => ?_⟩
      split at hx <;> cases hx
    · rw [if_neg (by omega)]
      refine Or.inr ⟨b, o + k * 2, c - k, by rw [hl]; simp [Addr.add_lit], by omega, fun i x hx => ?_⟩
      rw [List.getElem?_drop] at hx
      have := h2 (k + i) x hx
      rw [show o + k * 2 + i * 2 = o + (k + i) * 2 by omega]
      exact this
theorem rows2_one (w : World) (p : KV) (t : TypeId) : Rows2 (w.alloc (.cells #[S p.1, S p.2] t)) (.slice (some ⟨w.heap.size, 0, none⟩) 1 1) [p] := by
  have hb := (MapKept.heap_alloc w (.cells #[S p.1, S p.2] t)).1
  refine Or.inr ⟨w.heap.size, 0, 1, rfl, Nat.le_refl _, fun i q hq => ?_⟩
  have hi : i = 0 := by have := (List.getElem?_eq_some_iff.1 hq).1; simp at this; omega
  subst hi
  simp at hq; subst hq
  exact ⟨cell_of_row _ _ 0 _ _ _ hb, cell_of_row _ _ 1 _ _ _ hb⟩
theorem enc2_one (T : List KV) : ∀ u ∈ T.flatMap enc2, u.oneCell' = true := fun u hu => by
  obtain ⟨p, _, hu⟩ := List.mem_flatMap.1 hu
  simp [enc2] at hu
  rcases hu with rfl | rfl <;> rfl
/-- append of entries onto a row of the call's own. -/
theorem run_append2 (w : World) (B : Nat) (ty : TypeId) (v y : Value) (T X : List KV) (hown : w.ownsRow B 40 2 v T.length (T.flatMap enc2)) (hr : Rows2 w y X) (hlim : T.length + X.length ≤ 1000000) (hB : B ≤ w.heap.size) :
    ∃ v' w', (Builtin.append_ #[34, 34] ty #[v, y]).run Tryd.prog w = .ok v' w' ∧ w'.ownsRow B 40 2 v' (T ++ X).length ((T ++ X).flatMap enc2) ∧ Below B w w' := by
  obtain ⟨i0, hi, hz0, hz1, hz2⟩ := info_parts info40
  have hb : ∀ w', w.grownBy w' v.ownBlock → Below B w w' := fun w' hg => (Below.refl B w).grown hg hB fun k hk => (World.ownsRow.lt hown k hk).1
  rcases hr with ⟨rfl, a, c, rfl, hc⟩ | ⟨b, o, c, rfl, _, hcell⟩
  · cases a with
    | none =>
      obtain rfl := hc rfl
      refine ⟨v, w, run_append_owned_none (P := Tryd.prog) w B 34 ty 40 i0 2 Tryd.underlying34 hi v _ _ hown, ?_, Below.refl _ _⟩
      rw [List.append_nil]; exact hown
    | some a =>
      obtain ⟨v', w', k1, k2, k3, _, k5⟩ := run_append_own_at (P := Tryd.prog) w B 34 ty 40 i0 (.agg #[.string ⟨#[]⟩, .string ⟨#[]⟩]) 2 32 Tryd.underlying34 hi hz0 hz1 hz2 rfl (by decide) v _ _ hown a 0 c [] rfl (fun j u h => by simp at h) (fun u h => by cases h) (by unfold maxLen; omega) (by omega) hB
      refine ⟨v', w', k1, ?_, hb w' k3⟩
      rw [List.append_nil]; simpa using k2
  · obtain ⟨v', w', k1, k2, k3, _, k5⟩ := run_append_own_at (P := Tryd.prog) w B 34 ty 40 i0 (.agg #[.string ⟨#[]⟩, .string ⟨#[]⟩]) 2 32 Tryd.underlying34 hi hz0 hz1 hz2 rfl (by decide) v _ _ hown ⟨b, o, none⟩ X.length c (X.flatMap enc2) (by rw [flat2_len]) (fun j u h => by
        rw [Addr.add_lit]
        have hj : j < (X.flatMap enc2).length := (List.getElem?_eq_some_iff.1 h).1
        rw [flat2_len] at hj
        obtain ⟨p, hp⟩ : ∃ p, X[j / 2]? = some p := ⟨X[j / 2], List.getElem?_eq_getElem (by omega)⟩
        have h2 := flat2 X (j / 2) (j % 2) p hp (by omega)
        rw [show j / 2 * 2 + j % 2 = j by omega, h] at h2
        obtain ⟨c1, c2⟩ := hcell (j / 2) p hp
        rcases Nat.mod_two_eq_zero_or_one j with hm | hm
        · rw [hm] at h2
          rw [show o + j = o + j / 2 * 2 by omega, c1]; exact h2.symm
        · rw [hm] at h2
          rw [show o + j = o + j / 2 * 2 + 1 by omega, c2]; exact h2.symm) (enc2_one X) (by unfold maxLen; omega) (by omega) hB
    refine ⟨v', w', k1, ?_, hb w' k3⟩
    rw [List.length_append, List.flatMap_append]; exact k2
theorem wp_append2 {w : World} {ops : Array Oper} {rest : List Oper} {o : Oper} {a : Act} {Q : Exit → Act → World → Prop} (hgd : o.guard = none) (s x : Operand)
    (ho : o.op = .call { callee := .builtin .append, args := #[s, x], argTypes := #[34, 34] })
    (B : Nat) (v y : Value) (T X : List KV) (hs : a.eval s = v) (hx : a.eval x = y) (hown : w.ownsRow B 40 2 v T.length (T.flatMap enc2)) (hr : Rows2 w y X) (hlim : T.length + X.length ≤ 1000000) (hB : B ≤ w.heap.size)
    (h : ∀ v' w', w'.ownsRow B 40 2 v' (T ++ X).length ((T ++ X).flatMap enc2) → Below B w w' → wpList Tryd.prog ops Q rest (a.put o.dst v') w') : wpList Tryd.prog ops Q (o :: rest) a w := by
  refine wpList_plain hgd fun K hK => ?_
  obtain ⟨v', w', hr, h2, h3⟩ := run_append2 w B o.type v y T X hown hr hlim hB
  unfold Oper.wp execOp
  simp only [ho, resolve, invoke, builtin, Sem.run_bind, Sem.run_pure, Result.andThen_ok, List.map_toArray, List.map_cons, List.map_nil, hs, hx, hr]
  exact hK _ _ (h v' w' h2 h3)
end Go.Proofs.YtbgdohggdaoojaaDoor.Table
