/-
  REPLY: a text cut at a byte; the status of a line, plain: the two ways are one.
-/
import Derived.Test.YthkabehojmncmaaDoorRepNum
import Derived.Test.YthkabehojmncmaaDoorShelf
namespace Go.Proofs.YthkabehojmncmaaDoor.Reply
open Go.RowKit Base
def cutB (c : UInt8) : List UInt8 → List UInt8 × List UInt8 × Bool
  | [] => ([], [], false)
  | x :: t => if x = c then ([], t, true) else (x :: (cutB c t).1, (cutB c t).2.1, (cutB c t).2.2)
theorem cutB_form (c : UInt8) : ∀ l : List UInt8, ((cutB c l).2.2 = true ∧ l = (cutB c l).1 ++ c :: (cutB c l).2.1 ∧ Lib.indexByte l c = ((cutB c l).1.length : Int)) ∨ ((cutB c l).2.2 = false ∧ l = (cutB c l).1 ∧ (cutB c l).2.1 = [] ∧ Lib.indexByte l c = -1)
  | [] => Or.inr ⟨rfl, rfl, rfl, rfl⟩
  | x :: t => by
    by_cases hx : x = c
    · subst hx
      left
      rw [cutB, if_pos rfl, Lib.indexByte, if_pos (by simp)]
      exact ⟨rfl, rfl, rfl⟩
    · rw [cutB, if_neg hx, Lib.indexByte, if_neg (by simpa using hx)]
      rcases cutB_form c t with ⟨h1, h2, h3⟩ | ⟨h1, h2, h3, h4⟩
      · left
        refine ⟨h1, by rw [List.cons_append, ← h2], ?_⟩
        rw [h3, if_neg (by simp <;> omega)]
        simp
      · right
        refine ⟨h1, by rw [← h2], h3, ?_⟩
        rw [h4, if_pos (by rfl)]
theorem cutB_app (c : UInt8) : ∀ (p t : List UInt8), (∀ u ∈ p, u ≠ c) → cutB c (p ++ c :: t) = (p, t, true) ∧ cutB c p = (p, [], false)
  | [], t, _ => by simp [cutB]
  | x :: p, t, h => by
    obtain ⟨h1, h2⟩ := cutB_app c p t fun u hu => h u (List.mem_cons_of_mem _ hu)
    have hx := h x List.mem_cons_self
    rw [List.cons_append, cutB, cutB, if_neg hx, if_neg hx, h1, h2]
    exact ⟨rfl, rfl⟩
set_option maxHeartbeats 4000000 in
set_option maxRecDepth 100000 in
theorem lCut (s : ByteArray) (c : UInt8) (w : World) (hs : s.size ≤ 9223372036854775000) : Calls Tryd.prog 38 #[.string s, .string ⟨#[c]⟩] w fun e w' => e = .returned (.tuple #[S (cutB c s.data.toList).1, S (cutB c s.data.toList).2.1, .bool (cutB c s.data.toList).2.2]) ∧ Below w.heap.size w w' := by
  have HI0 := Tryd.stringslite_Index_one s c w
  have hlen := str_len s
  rcases cutB_form c s.data.toList with ⟨h1, h2, h3⟩ | ⟨h1, h2, h3, h4⟩
  · rw [h1]
    generalize (cutB c s.data.toList).1 = p at h2 h3
    generalize (cutB c s.data.toList).2.1 = r at h2
    have hl : p.length + 1 + r.length = s.size := by
      have := congrArg List.length h2
      simp at this; omega
    have E1 : Hid (Value.string (s.extract 0 p.length) = S p) := by
      show _ = _
      rw [extract_bytes, h2]; simp
    have E2 : Hid (Value.string (s.extract (p.length + 1) s.size) = S r) := by
      show _ = _
      rw [extract_bytes, List.take_of_length_le (by omega), h2, show p.length + 1 = (p ++ [c]).length by simp, show p ++ c :: r = (p ++ [c]) ++ r by simp, List.drop_left]
    rw [h3] at HI0
    have HI : Hid (Calls Tryd.prog 42 #[.string s, .string ⟨#[c]⟩] w fun e w' => e = .returned (.int .i64 (p.length : Int)) ∧ w' = w) := HI0
    obtain ⟨n, hn⟩ : ∃ n, n = p.length := ⟨_, rfl⟩
    rw [← hn] at HI E1 E2 hl
    have c1 : (0 : Int) ≤ (n : Int) := by omega
    have c2 : (n : Int) ≤ (s.size : Int) := by omega
    have c3 : (n : Int) + 1 ≤ (s.size : Int) := by omega
    have c4 : (0 : Int) ≤ (n : Int) + 1 := by omega
    have HB0 : Hid (∀ k, Below w.heap.size w (w.drewN k)) := fun k => ⟨rfl, rfl, rfl, Nat.le_refl _, fun _ _ => rfl⟩
    clear h2 h3 h1 hn hl HI0 hlen
    go_enter Tryd.func38, Tryd.ntmps38
    go_wp2_with (first | (go_at_call 42; refine HI.out.mono ?_; rintro ee w1 ⟨rfl, rfl⟩; refine Hid.out ?_) | fail)
    refine Lib.hid ?_
    go_wp2
    go_quiet (fail)
    go_wp2
    go_ret3
    rw [E1.out, E2.out]
    exact ⟨rfl, HB0.out _⟩
  · rw [h1, h3, ← h2]
    rw [h4] at HI0
    have HI : Hid (Calls Tryd.prog 42 #[.string s, .string ⟨#[c]⟩] w fun e w' => e = .returned (.int .i64 (-1)) ∧ w' = w) := HI0
    clear h1 h2 h3 h4 HI0 hlen
    go_enter Tryd.func38, Tryd.ntmps38
    go_wp2_with (first | (go_at_call 42; refine HI.out.mono ?_; rintro ee w1 ⟨rfl, rfl⟩; refine Hid.out ?_) | fail)
    refine Lib.hid ?_
    go_wp2
    go_ret3
    exact ⟨rfl, Below.refl _ _⟩
set_option maxHeartbeats 4000000 in
set_option maxRecDepth 100000 in
theorem pCut (s : ByteArray) (c : UInt8) (w : World) (hs : s.size ≤ 9223372036854775000) : Calls Tryd.prog 31 #[.string s, .string ⟨#[c]⟩] w fun e w' => e = .returned (.tuple #[S (cutB c s.data.toList).1, S (cutB c s.data.toList).2.1, .bool (cutB c s.data.toList).2.2]) ∧ Below w.heap.size w w' := by
  have HC := Lib.hid (lCut s c w hs)
  generalize (cutB c s.data.toList).1 = p at HC
  generalize (cutB c s.data.toList).2.1 = r at HC
  generalize (cutB c s.data.toList).2.2 = b at HC
  go_enter Tryd.func31, Tryd.ntmps31
  go_wp2_with (first | (go_at_call 38; refine HC.out.mono ?_; rintro ee w1 ⟨rfl, hb⟩; refine Hid.out ?_) | fail)
  refine Lib.hid ?_
  have HB := Lib.hid hb
  clear hb
  go_wp2
  go_ret3
  exact ⟨rfl, HB.out⟩
/-! ### The status, plain -/
abbrev Stat := Option (Nat × Nat × Nat)
def statP (s : List UInt8) : Stat :=
  match numP (cutB 46 (cutB 32 s).1).1, numP (cutB 46 (cutB 46 (cutB 32 s).1).2.1).1, numP (cutB 46 (cutB 46 (cutB 32 s).1).2.1).2.1 with
  | some a, some b, some c => if a = 2 ∨ a = 4 ∨ a = 5 then some (a, b, c) else none
  | _, _, _ => none
def stat2 (s : List UInt8) (k v : Nat) : Stat :=
  match numR (s.drop (k + 1)) with
  | none => none
  | some q => if k + 1 + q.2 < s.length ∧ (s.getD (k + 1 + q.2) 0).toNat ≠ 32 then none else some ((s.getD 0 0).toNat - 48, v, q.1)
def statR (s : List UInt8) : Stat :=
  if s.length < 5 ∨ ¬ ((s.getD 0 0).toNat = 50 ∨ (s.getD 0 0).toNat = 52 ∨ (s.getD 0 0).toNat = 53) ∨ (s.getD 1 0).toNat ≠ 46 then none
  else match numR (s.drop 2) with
    | none => none
    | some p => if s.length ≤ 2 + p.2 ∨ (s.getD (2 + p.2) 0).toNat ≠ 46 then none else stat2 s (2 + p.2) p.1
theorem digN_all : ∀ {x : List UInt8} {n v : Nat}, digN n x = some v → x.all digC = true
  | [], _, _, _ => rfl
  | c :: r, n, v, h => by
    rw [digN_cons] at h
    by_cases hc : digC c = true
    · rw [if_pos hc] at h
      rw [List.all_cons, hc, digN_all h]; rfl
    · rw [if_neg hc] at h; cases h
theorem numP_some {x : List UInt8} {v : Nat} (h : numP x = some v) : 1 ≤ x.length ∧ x.length ≤ 3 ∧ ¬ (1 < x.length ∧ (x.getD 0 0).toNat = 48) ∧ digN 0 x = some v := by
  unfold numP at h
  split at h
  · cases h
  · rename_i hh
    exact ⟨by omega, by omega, fun h2 => hh (Or.inr (Or.inr h2)), h⟩
theorem runR_app : ∀ {x r : List UInt8} {f n v : Nat}, digN n x = some v → x.length < f → (r = [] ∨ digC (r.getD 0 0) = false) → runR f n (x ++ r) = (v, x.length)
  | [], r, f, n, v, h, _, hr => by
    cases h
    rcases hr with rfl | hr
    · rw [List.append_nil, runR_nil]; rfl
    · cases r with
      | nil => rw [List.append_nil, runR_nil]; rfl
      | cons y t => rw [List.nil_append, runR_no (by simpa using hr)]; rfl
  | c :: x, r, 0, n, v, h, hl, _ => by omega
  | c :: x, r, f + 1, n, v, h, hl, hr => by
    rw [digN_cons] at h
    by_cases hc : digC c = true
    · rw [if_pos hc] at h
      rw [List.cons_append, runR_yes hc, runR_app h (by simp at hl; omega) hr]
      simp
    · rw [if_neg hc] at h; cases h
theorem numR_app {x r : List UInt8} {v : Nat} (h : numP x = some v) (hr : r = [] ∨ digC (r.getD 0 0) = false) : numR (x ++ r) = some (v, x.length) := by
  obtain ⟨h1, h2, h3, h4⟩ := numP_some h
  have hrun : runR 4 0 (x ++ r) = (v, x.length) := runR_app h4 (by omega) hr
  have hg : (x ++ r).getD 0 0 = x.getD 0 0 := by
    cases x with
    | nil => simp at h1
    | cons y t => rfl
  unfold numR
  rw [hrun, hg]
  dsimp only
  rw [if_neg (by omega)]
theorem runR_take : ∀ (f n : Nat) (l : List UInt8), digN n (l.take (runR f n l).2) = some (runR f n l).1 ∧ ((runR f n l).2 = f ∨ l.drop (runR f n l).2 = [] ∨ digC (l.getD (runR f n l).2 0) = false)
  | 0, n, l => by rw [runR_zero]; exact ⟨by simp [digN], Or.inl rfl⟩
  | f + 1, n, [] => by rw [runR_nil]; exact ⟨rfl, Or.inr (Or.inl rfl)⟩
  | f + 1, n, c :: r => by
    by_cases hc : digC c = true
    · have := runR_take f (10 * n + (c.toNat - 48)) r
      rw [runR_yes hc]
      dsimp only
      rw [List.take_succ_cons, digN_cons, if_pos hc, List.drop_succ_cons, List.getD_cons_succ]
      exact ⟨this.1, this.2.imp (by omega) id⟩
    · have hc2 : digC c = false := by simpa using hc
      rw [runR_no hc2]
      exact ⟨rfl, Or.inr (Or.inr hc2)⟩
theorem numR_some {l : List UInt8} {p : Nat × Nat} (h : numR l = some p) : ∃ x r, l = x ++ r ∧ x.length = p.2 ∧ numP x = some p.1 ∧ (r = [] ∨ digC (r.getD 0 0) = false) := by
  unfold numR at h
  split at h
  · cases h
  · rename_i hh
    cases h
    have ht := runR_take 4 0 l
    have hle := runR_le 4 0 l
    generalize runR 4 0 l = q at ht hle hh
    have hl : (l.take q.2).length = q.2 := by rw [List.length_take]; omega
    refine ⟨l.take q.2, l.drop q.2, (List.take_append_drop _ _).symm, hl, ?_, ?_⟩
    · unfold numP
      have hg : (l.take q.2).getD 0 0 = l.getD 0 0 := by
        rw [List.getD_eq_getElem?_getD, List.getElem?_take_of_lt (by omega), List.getD_eq_getElem?_getD]
      rw [hl, hg, if_neg (by omega)]
      exact ht.1
    · rcases ht.2 with h4 | h4 | h4
      · omega
      · exact Or.inl h4
      · right
        rw [List.getD_eq_getElem?_getD, List.getElem?_drop, Nat.add_zero, ← List.getD_eq_getElem?_getD]
        exact h4
/-- A status, and what stands behind it. -/
structure Dec (s : List UInt8) (c0 : UInt8) (x y : List UInt8) (b c : Nat) : Prop where
  form : ∃ t, s = c0 :: 46 :: (x ++ 46 :: (y ++ t)) ∧ (t = [] ∨ ∃ r, t = 32 :: r)
  cls : c0.toNat = 50 ∨ c0.toNat = 52 ∨ c0.toNat = 53
  sub : numP x = some b
  det : numP y = some c
theorem dig_ne {x : List UInt8} {v : Nat} (h : numP x = some v) {d : UInt8} (hd : digC d = false) : ∀ u ∈ x, u ≠ d := by
  intro u hu e
  have := List.all_eq_true.1 (digN_all (numP_some h).2.2.2) u hu
  rw [e, hd] at this
  cases this
theorem numP_one {c : UInt8} (h1 : 48 ≤ c.toNat) (h2 : c.toNat ≤ 57) : numP [c] = some (c.toNat - 48) := by
  unfold numP
  rw [if_neg (by simp), digN_cons, if_pos (dig_yes h1 h2)]
  simp [digN]
theorem dec_P {s : List UInt8} {c0 : UInt8} {x y : List UInt8} {b c : Nat} (h : Dec s c0 x y b c) : statP s = some (c0.toNat - 48, b, c) := by
  obtain ⟨⟨t, rfl, ht⟩, hc, hx, hy⟩ := h
  have e1 : (cutB 32 (c0 :: 46 :: (x ++ 46 :: (y ++ t)))).1 = c0 :: 46 :: (x ++ 46 :: y) := by
    have hno : ∀ u ∈ c0 :: 46 :: (x ++ 46 :: y), u ≠ 32 := by
      intro u hu
      simp only [List.mem_cons, List.mem_append] at hu
      rcases hu with rfl | rfl | hu | rfl | hu
      · intro e; rw [e] at hc; simp at hc
      · decide
      · exact dig_ne hx (by decide) u hu
      · decide
      · exact dig_ne hy (by decide) u hu
    rcases ht with rfl | ⟨r, rfl⟩
    · rw [List.append_nil, (cutB_app 32 _ [] hno).2]
    · rw [show c0 :: 46 :: (x ++ 46 :: (y ++ 32 :: r)) = (c0 :: 46 :: (x ++ 46 :: y)) ++ 32 :: r by simp, (cutB_app 32 _ r hno).1]
  have e2 : cutB 46 (c0 :: 46 :: (x ++ 46 :: y)) = ([c0], x ++ 46 :: y, true) :=
    (cutB_app 46 [c0] _ (fun u hu e => by rw [List.mem_singleton.1 hu] at e; rw [e] at hc; simp at hc)).1
  have e3 : cutB 46 (x ++ 46 :: y) = (x, y, true) := (cutB_app 46 x y (dig_ne hx (by decide))).1
  unfold statP
  rw [e1, e2]
  dsimp only
  rw [e3]
  dsimp only
  rw [numP_one (by omega) (by omega), hx, hy]
  dsimp only
  rw [if_pos (by omega)]
theorem dec_R {s : List UInt8} {c0 : UInt8} {x y : List UInt8} {b c : Nat} (h : Dec s c0 x y b c) : statR s = some (c0.toNat - 48, b, c) := by
  obtain ⟨⟨t, rfl, ht⟩, hc, hx, hy⟩ := h
  have lx := numP_some hx
  have ly := numP_some hy
  have g0 : (c0 :: 46 :: (x ++ 46 :: (y ++ t))).getD 0 0 = c0 := rfl
  have g1 : (c0 :: 46 :: (x ++ 46 :: (y ++ t))).getD 1 0 = 46 := rfl
  have d2 : (c0 :: 46 :: (x ++ 46 :: (y ++ t))).drop 2 = x ++ 46 :: (y ++ t) := rfl
  have gx : (c0 :: 46 :: (x ++ 46 :: (y ++ t))).getD (2 + x.length) 0 = 46 := by
    rw [Nat.add_comm]
    simp [List.getD]
  have dx : (c0 :: 46 :: (x ++ 46 :: (y ++ t))).drop (2 + x.length + 1) = y ++ t := by
    rw [show 2 + x.length + 1 = (c0 :: 46 :: (x ++ [46])).length by simp; omega, show c0 :: 46 :: (x ++ 46 :: (y ++ t)) = (c0 :: 46 :: (x ++ [46])) ++ (y ++ t) by simp, List.drop_left]
  have hlen : (c0 :: 46 :: (x ++ 46 :: (y ++ t))).length = 3 + x.length + y.length + t.length := by simp; omega
  unfold statR
  rw [g0, g1, d2, hlen, if_neg (by have : (46 : UInt8).toNat = 46 := rfl; omega), numR_app hx (Or.inr (by rfl))]
  dsimp only
  rw [gx, if_neg (by have : (46 : UInt8).toNat = 46 := rfl; omega)]
  unfold stat2
  rw [dx, numR_app hy (ht.imp id fun ⟨r, hr⟩ => by rw [hr]; rfl), hlen]
  dsimp only
  rw [if_neg, g0]
  rintro ⟨h1, h2⟩
  rcases ht with rfl | ⟨r, rfl⟩
  · simp at h1; omega
  · apply h2
    rw [show c0 :: 46 :: (x ++ 46 :: (y ++ 32 :: r)) = (c0 :: 46 :: (x ++ 46 :: y)) ++ 32 :: r by simp, List.getD_eq_getElem?_getD, List.getElem?_append_right (by simp; omega)]
    rw [show 2 + x.length + 1 + y.length - (c0 :: 46 :: (x ++ 46 :: y)).length = 0 by simp; omega]
    rfl
theorem numP_cls {x : List UInt8} {a : Nat} (h : numP x = some a) (ha : a = 2 ∨ a = 4 ∨ a = 5) : ∃ c0, x = [c0] ∧ (c0.toNat = 50 ∨ c0.toNat = 52 ∨ c0.toNat = 53) := by
  obtain ⟨h1, h2, h3, h4⟩ := numP_some h
  have hall := digN_all h4
  match x, h1, h2, h3, h4, hall with
  | [u], _, _, _, h4, hall =>
    refine ⟨u, rfl, ?_⟩
    have hu : digC u = true := by simpa using hall
    rw [digN_cons, if_pos hu, digN] at h4
    unfold digC at hu
    have := of_decide_eq_true hu
    injection h4 with h4
    omega
  | [u, v], _, _, h3, h4, hall =>
    exfalso
    simp only [List.all_cons, List.all_nil, Bool.and_true, Bool.and_eq_true] at hall
    obtain ⟨hu, hv⟩ := hall
    rw [digN_cons, if_pos hu, digN_cons, if_pos hv, digN] at h4
    unfold digC at hu hv
    have := of_decide_eq_true hu
    have := of_decide_eq_true hv
    injection h4 with h4
    have h5 : ¬ u.toNat = 48 := fun e => h3 ⟨by simp, e⟩
    omega
  | [u, v, q], _, _, h3, h4, hall =>
    exfalso
    simp only [List.all_cons, List.all_nil, Bool.and_true, Bool.and_eq_true] at hall
    obtain ⟨hu, hv, hq⟩ := hall
    rw [digN_cons, if_pos hu, digN_cons, if_pos hv, digN_cons, if_pos hq, digN] at h4
    unfold digC at hu hv hq
    have := of_decide_eq_true hu
    have := of_decide_eq_true hv
    have := of_decide_eq_true hq
    injection h4 with h4
    have h5 : ¬ u.toNat = 48 := fun e => h3 ⟨by simp, e⟩
    omega
theorem numP_nil : numP [] = none := rfl
theorem P_dec {s : List UInt8} {o : Nat × Nat × Nat} (h : statP s = some o) : ∃ c0 x y b c, Dec s c0 x y b c := by
  unfold statP at h
  split at h
  · rename_i a b c ha hb hc
    split at h
    · rename_i hcls
      obtain ⟨c0, hc0, hcc⟩ := numP_cls ha hcls
      rcases cutB_form 46 (cutB 32 s).1 with ⟨_, f1, _⟩ | ⟨_, _, f1, _⟩
      · rcases cutB_form 46 (cutB 46 (cutB 32 s).1).2.1 with ⟨_, f2, _⟩ | ⟨_, _, f2, _⟩
        · refine ⟨c0, (cutB 46 (cutB 46 (cutB 32 s).1).2.1).1, (cutB 46 (cutB 46 (cutB 32 s).1).2.1).2.1, b, c, ?_, hcc, hb, hc⟩
          rw [hc0] at f1
          rcases cutB_form 32 s with ⟨_, f3, _⟩ | ⟨_, f3, _, _⟩
          · refine ⟨32 :: (cutB 32 s).2.1, ?_, Or.inr ⟨_, rfl⟩⟩
            conv => lhs; rw [f3, f1, f2]
            simp
          · refine ⟨[], ?_, Or.inl rfl⟩
            conv => lhs; rw [f3, f1, f2]
            simp
        · rw [f2, numP_nil] at hc; cases hc
      · rw [f1, show cutB 46 [] = ([], [], false) from rfl, numP_nil] at hb; cases hb
    · cases h
  · cases h
theorem R_dec {s : List UInt8} {o : Nat × Nat × Nat} (h : statR s = some o) : ∃ c0 x y b c, Dec s c0 x y b c := by
  unfold statR at h
  split at h
  · cases h
  · rename_i h1
    split at h
    · cases h
    · rename_i p hp
      split at h
      · cases h
      · rename_i h2
        unfold stat2 at h
        split at h
        · cases h
        · rename_i q hq
          split at h
          · cases h
          · rename_i h3
            obtain ⟨x, r, hx1, hx2, hx3, hx4⟩ := numR_some hp
            obtain ⟨y, t, hy1, hy2, hy3, hy4⟩ := numR_some hq
            match s, h1, h2, h3, hx1, hy1 with
            | c0 :: c1 :: l, h1, h2, h3, hx1, hy1 =>
              have hl : l = x ++ r := hx1
              subst hl
              have e0 : c0.toNat = 50 ∨ c0.toNat = 52 ∨ c0.toNat = 53 := by
                by_cases hh : c0.toNat = 50 ∨ c0.toNat = 52 ∨ c0.toNat = 53
                · exact hh
                · exact (h1 (Or.inr (Or.inl hh))).elim
              have e1 : c1 = 46 := by
                apply UInt8.toNat_inj.1
                by_cases hh : c1.toNat = (46 : UInt8).toNat
                · exact hh
                · exact (h1 (Or.inr (Or.inr hh))).elim
              subst e1
              rw [← hx2] at h2 h3 hy1
              cases r with
              | nil => exfalso; apply h2; left; simp; omega
              | cons z r =>
                have ez : z = 46 := by
                  apply UInt8.toNat_inj.1
                  by_cases hh : z.toNat = (46 : UInt8).toNat
                  · exact hh
                  · exfalso
                    apply h2
                    right
                    rw [Nat.add_comm]
                    simpa [List.getD] using hh
                subst ez
                have hr : r = y ++ t := by
                  rw [← hy1, show 2 + x.length + 1 = (c0 :: 46 :: (x ++ [46])).length by simp; omega, show c0 :: 46 :: (x ++ 46 :: r) = (c0 :: 46 :: (x ++ [46])) ++ r by simp, List.drop_left]
                subst hr
                refine ⟨c0, x, y, _, _, ⟨t, rfl, ?_⟩, e0, hx3, hy3⟩
                cases t with
                | nil => exact Or.inl rfl
                | cons z2 t =>
                  right
                  have : z2 = 32 := by
                    apply UInt8.toNat_inj.1
                    by_cases hh : z2.toNat = (32 : UInt8).toNat
                    · exact hh
                    · exfalso
                      apply h3
                      refine ⟨by simp; omega, ?_⟩
                      rw [← hy2, show c0 :: 46 :: (x ++ 46 :: (y ++ z2 :: t)) = (c0 :: 46 :: (x ++ 46 :: y)) ++ z2 :: t by simp, List.getD_eq_getElem?_getD, List.getElem?_append_right (by simp; omega)]
                      rw [show 2 + x.length + 1 + y.length - (c0 :: 46 :: (x ++ 46 :: y)).length = 0 by simp; omega]
                      exact hh
                  exact ⟨t, by rw [this]⟩
            | [c0], h1, _, _, _, _ => exact (h1 (Or.inl (by simp))).elim
            | [], h1, _, _, _, _ => exact (h1 (Or.inl (by simp))).elim
/-- The two ways are one. -/
theorem stat_same (s : List UInt8) : statP s = statR s := by
  cases hp : statP s with
  | some o =>
    obtain ⟨c0, x, y, b, c, hd⟩ := P_dec hp
    rw [dec_R hd, ← hp, dec_P hd]
  | none =>
    cases hr : statR s with
    | none => rfl
    | some o =>
      obtain ⟨c0, x, y, b, c, hd⟩ := R_dec hr
      rw [dec_P hd] at hp
      cases hp
end Go.Proofs.YthkabehojmncmaaDoor.Reply
