/-
  DATE, the program, plain: what is read thing by thing is what the document's answer reads.
-/
import Derived.Test.YtklhgaioolamfaaDoorDatQ
namespace Go.Proofs.YtklhgaioolamfaaDoor.Date
/-! ### The parts -/
def okD (x : Int) : Int × Bool := if x < 0 then (0, false) else (x, true)
theorem okD_no {x : Int} (h : x < 0) : okD x = (0, false) := if_pos h
theorem okD_yes {x : Int} (h : ¬ x < 0) : okD x = (x, true) := if_neg h
def monthQ (l : List UInt8) : Int × Bool := if placeD monB l < 0 then (0, false) else (placeD monB l + 1, true)
def dateQ (d m y : Int) : Int × Bool :=
  if d < 0 ∨ m < 0 ∨ y < 0 ∨ d < 1 ∨ (md y.toNat (m + 1).toNat : Int) < d then (0, false) else (dayZ y.toNat (m + 1).toNat d.toNat, true)
def weekZ (day : Int) : Int := Int.tmod (Int.tmod (day + 4) 7 + 7) 7
theorem week_in (day : Int) : 0 ≤ weekZ day ∧ weekZ day < 7 := by
  unfold weekZ
  have h1 : -7 < Int.tmod (day + 4) 7 := by
    have := Int.lt_tmod_of_pos (day + 4) (show (0 : Int) < 7 by decide)
    omega
  rw [Int.tmod_eq_emod_of_nonneg (by omega)]
  omega
def nameQ (nm : List UInt8) (day : Int) : Bool := decide (nm = []) || decide (lowL nm = lowL (nmAt dayB (weekZ day).toNat) ++ [44])
/-- The tick of the parts. -/
def tickQ (nm : List UInt8) (a b c d e : List UInt8) (more : List (List UInt8)) : Option Int :=
  let dt := dateQ (numD a 1 2) (placeD monB b) (numD c 4 4)
  let ck := okD (clockD d)
  let zn := zoneD e
  if dt.2 = true ∧ ck.2 = true ∧ zn.2 = true ∧ nameQ nm dt.1 = true ∧ (0 ≤ dt.1 * 86400 + ck.1 - zn.1 ∧ dt.1 * 86400 + ck.1 - zn.1 ≤ 253402300799) ∧ more = [] then some (dt.1 * 86400 + ck.1 - zn.1) else none
def fiveQ (nm : List UInt8) (ws : List (List UInt8)) : Option Int := tickQ nm (ws.getD 0 []) (ws.getD 1 []) (ws.getD 2 []) (ws.getD 3 []) (ws.getD 4 []) (ws.drop 5)
/-- Is a thing a name? -/
def commaD (w : List UInt8) : Bool := decide (w ≠ [] ∧ w.getD (w.length - 1) 0 = 44)
def parseQ (ws : List (List UInt8)) : Option Int := if commaD (ws.headD []) = true then fiveQ (ws.headD []) ws.tail else fiveQ [] ws
/-! ### Bounds -/
theorem numG_lo : ∀ (l : List UInt8) (n : Nat), -1 ≤ numG n l
  | [], n => by rw [numG]; omega
  | c :: r, n => by
    rw [numG]
    split
    · omega
    · exact numG_lo r _
theorem numD_lo (l : List UInt8) (a b : Nat) : -1 ≤ numD l a b := by
  unfold numD
  split
  · omega
  · exact numG_lo l 0
theorem num12_le (l : List UInt8) : numD l 1 2 ≤ 99 := by
  unfold numD
  split
  · omega
  · have := numG_le l 0
    rcases (by omega : l.length = 1 ∨ l.length = 2) with h | h <;> rw [h] at this <;> simp at this <;> omega
theorem num4_le (l : List UInt8) : numD l 4 4 ≤ 9999 := by
  unfold numD
  split
  · omega
  · have := numG_le l 0
    rw [show l.length = 4 by omega] at this
    simp at this; omega
theorem num_day (a : List UInt8) : numD (if a.length = 1 then 48 :: a else a) 2 2 = numD a 1 2 := by
  split
  · rename_i h
    unfold numD
    rw [List.length_cons, h, if_neg (by omega), if_neg (by omega), numG, if_neg (by decide)]
    rfl
  · unfold numD
    by_cases h2 : a.length = 2
    · rw [if_neg (by omega), if_neg (by omega)]
    · rw [if_pos (by omega), if_pos (by omega)]
theorem num_comma : ∀ (l : List UInt8) (n : Nat), (44 : UInt8) ∈ l → numG n l = -1
  | [], _, h => by simp at h
  | c :: r, n, h => by
    rw [numG]
    split
    · rfl
    · rename_i h1
      have h2 : c ≠ 44 := fun e => h1 (by rw [e]; decide)
      exact num_comma r _ ((List.mem_cons.1 h).resolve_left (fun e => h2 e.symm))
theorem place_range (nm s : List UInt8) : ∀ (f i : Nat), placeF nm s f i = -1 ∨ ∃ k : Nat, placeF nm s f i = (k : Int) ∧ i ≤ k ∧ k < i + f ∧ lowL (nmAt nm k) = lowL s
  | 0, _ => Or.inl rfl
  | f + 1, i => by
    rw [placeF]
    by_cases h : lowL (nmAt nm i) = lowL s
    · rw [if_pos h]; exact Or.inr ⟨i, rfl, by omega, by omega, h⟩
    · rw [if_neg h]
      rcases place_range nm s f (i + 1) with h2 | ⟨k, h2, h3, h4, h5⟩
      · exact Or.inl h2
      · exact Or.inr ⟨k, h2, by omega, by omega, h5⟩
theorem place_mon (s : List UInt8) : placeD monB s = -1 ∨ ∃ k : Nat, placeD monB s = (k : Int) ∧ k < 12 := by
  unfold placeD
  split
  · exact Or.inl rfl
  · rcases place_range monB s (monB.length / 3) 0 with h | ⟨k, h, _, h2, _⟩
    · exact Or.inl h
    · exact Or.inr ⟨k, h, by have : monB.length / 3 = 12 := rfl; omega⟩
theorem place_day (s : List UInt8) : placeD dayB s = -1 ∨ ∃ k : Nat, placeD dayB s = (k : Int) ∧ k < 7 ∧ s.length = 3 ∧ lowL (nmAt dayB k) = lowL s := by
  unfold placeD
  split
  · exact Or.inl rfl
  · rename_i h0
    rcases place_range dayB s (dayB.length / 3) 0 with h | ⟨k, h, _, h2, h3⟩
    · exact Or.inl h
    · exact Or.inr ⟨k, h, by have : dayB.length / 3 = 7 := rfl; omega, by omega, h3⟩
theorem low_len (l : List UInt8) : (lowL l).length = l.length := by simp [lowL]
theorem place_hit : ∀ (nm s : List UInt8) (f i k : Nat), i ≤ k → k < i + f → lowL (nmAt nm k) = lowL s → 0 ≤ placeF nm s f i
  | _, _, 0, _, _, _, h, _ => by omega
  | nm, s, f + 1, i, k, h1, h2, h3 => by
    rw [placeF]
    by_cases h : lowL (nmAt nm i) = lowL s
    · rw [if_pos h]; omega
    · rw [if_neg h]
      have : i ≠ k := fun e => h (by rw [e]; exact h3)
      exact place_hit nm s f (i + 1) k (by omega) (by omega) h3
theorem days_apart : ∀ j < 7, ∀ k < 7, lowL (nmAt dayB j) = lowL (nmAt dayB k) → j = k := by decide
theorem days_len : ∀ j < 7, (lowL (nmAt dayB j)).length = 3 := by decide
theorem clock_rng (l : List UInt8) : -1 ≤ clockD l ∧ clockD l ≤ 86399 := by
  unfold clockD
  split
  · unfold timeOf; split <;> omega
  · omega
theorem zone_rng (l : List UInt8) : -86340 ≤ (zoneD l).1 ∧ (zoneD l).1 ≤ 86340 := by
  unfold zoneD
  split
  · decide
  · split
    · decide
    · unfold zoneOf
      split
      · decide
      · split <;> simp only [] <;> omega
theorem zone_nil : zoneD [] = (0, false) := by decide
/-! ### The equality -/
/-- A date, of either reckoning: its tick is the same, where it is a tick. -/
theorem tick_same (nm : List UInt8) (name : Int) (a b c d e : List UInt8)
    (hn : ∀ day, nameQ nm day = true ↔ (name < 0 ∨ weekZ day = name)) :
    tickQ nm a b c d e [] = tickD name (numD a 1 2) (placeD monB b + 1) (numD c 4 4) (clockD d) (zoneD e) := by
  have hm := place_mon b
  obtain ⟨hk1, hk2⟩ := clock_rng d
  obtain ⟨hz1, hz2⟩ := zone_rng e
  have ha := numD_lo a 1 2
  have ha2 := num12_le a
  have hc := numD_lo c 4 4
  unfold tickQ tickD
  generalize numD a 1 2 = A at ha ha2
  generalize placeD monB b = M at hm
  generalize numD c 4 4 = Y at hc
  generalize clockD d = K at hk1 hk2
  generalize zoneD e = Z at hz1 hz2
  by_cases h1 : A < 1 ∨ M + 1 < 1 ∨ Y < 0 ∨ K < 0 ∨ Z.2 = false
  · rw [if_pos h1]
    apply if_neg
    intro h
    obtain ⟨q1, q2, q3, _⟩ := h
    rcases h1 with h1 | h1 | h1 | h1 | h1
    · have : dateQ A M Y = (0, false) := by unfold dateQ; rw [if_pos (by omega)]
      rw [this] at q1; simp at q1
    · have : dateQ A M Y = (0, false) := by unfold dateQ; rw [if_pos (by omega)]
      rw [this] at q1; simp at q1
    · have : dateQ A M Y = (0, false) := by unfold dateQ; rw [if_pos (by omega)]
      rw [this] at q1; simp at q1
    · rw [okD_no h1] at q2; simp at q2
    · rw [h1] at q3; simp at q3
  · rw [if_neg h1]
    have hA : 1 ≤ A := by omega
    have hM : 0 ≤ M := by omega
    have hY : 0 ≤ Y := by omega
    have hK : ¬ K < 0 := by omega
    have hZ : Z.2 = true := by
      cases hq : Z.2
      · exact absurd (Or.inr (Or.inr (Or.inr (Or.inr hq)))) h1
      · rfl
    rw [okD_yes hK]
    by_cases h2 : (md Y.toNat (M + 1).toNat : Int) < A
    · rw [if_pos h2]
      apply if_neg
      intro h
      have : dateQ A M Y = (0, false) := by unfold dateQ; rw [if_pos (by omega)]
      rw [this] at h; simp at h
    · rw [if_neg h2]
      have hdq : dateQ A M Y = (dayZ Y.toNat (M + 1).toNat A.toNat, true) := by unfold dateQ; rw [if_neg (by omega)]
      rw [hdq]
      by_cases hy : 1 ≤ Y.toNat
      · rw [day_eq hy]
        generalize aheadZ Y.toNat (M + 1).toNat A.toNat = D
        have hn2 := hn D
        by_cases h3 : 0 ≤ name ∧ Int.tmod (Int.tmod (D + 4) 7 + 7) 7 ≠ name
        · rw [if_pos h3]
          apply if_neg
          intro h
          have := hn2.1 h.2.2.2.1
          unfold weekZ at this
          rcases this with q | q
          · omega
          · exact h3.2 q
        · rw [if_neg h3]
          have hq : nameQ nm D = true := by
            rw [hn2]
            by_cases q : name < 0
            · exact Or.inl q
            · refine Or.inr ?_
              unfold weekZ
              by_cases q2 : Int.tmod (Int.tmod (D + 4) 7 + 7) 7 = name
              · exact q2
              · exact absurd ⟨by omega, q2⟩ h3
          by_cases h4 : 86400 * D + K - Z.1 < 0 ∨ 253402300799 < 86400 * D + K - Z.1
          · rw [if_pos h4]
            apply if_neg
            intro h
            have := h.2.2.2.2.1
            dsimp only at this
            omega
          · rw [if_neg h4, if_pos ⟨rfl, rfl, hZ, hq, ⟨by dsimp only; omega, by dsimp only; omega⟩, rfl⟩]
            dsimp only
            congr 1
            omega
      · have hy0 : Y.toNat = 0 := by omega
        have hmb : (M + 1).toNat ≤ 12 := by
          rcases hm with q | ⟨k, q, q2⟩
          · omega
          · omega
        have hdb : A.toNat ≤ 31 := by
          have := md_le Y.toNat (M + 1).toNat
          omega
        obtain ⟨z1, z2⟩ := day_zero hmb hdb
        rw [hy0]
        generalize dayZ 0 (M + 1).toNat A.toNat = D1 at z1
        generalize aheadZ 0 (M + 1).toNat A.toNat = D2 at z2
        rw [if_neg (fun h => by
          have := h.2.2.2.2.1
          dsimp only at this
          omega)]
        split
        · rfl
        · rw [if_pos (Or.inl (by omega))]
theorem five_same (nm : List UInt8) (name : Int) (ws : List (List UInt8)) (hn : ∀ day, nameQ nm day = true ↔ (name < 0 ∨ weekZ day = name)) : fiveQ nm ws = fiveD name ws := by
  unfold fiveQ
  rcases Nat.lt_trichotomy ws.length 5 with h | h | h
  · have h4 : ws.getD 4 [] = [] := by rw [List.getD_eq_getElem?_getD, List.getElem?_eq_none (by omega)]; rfl
    rw [h4]
    have hr : fiveD name ws = none := by
      match ws, h with
      | [], _ => rfl
      | [_], _ => rfl
      | [_, _], _ => rfl
      | [_, _, _], _ => rfl
      | [_, _, _, _], _ => rfl
      | _ :: _ :: _ :: _ :: _ :: _, h => exfalso; simp at h; omega
    rw [hr]
    unfold tickQ
    rw [zone_nil]
    exact if_neg (fun h => by simp at h)
  · match ws, h with
    | [a, b, c, d, e], _ => exact tick_same nm name a b c d e hn
  · match ws, h with
    | a :: b :: c :: d :: e :: f :: r, _ =>
      show tickQ nm a b c d e (f :: r) = none
      unfold tickQ
      exact if_neg (fun h => by simp at h)
theorem low_comma {c : UInt8} (h : lowB c = 44) : c = 44 := by
  unfold lowB at h
  split at h
  · rename_i h1
    exfalso
    have h2 := congrArg UInt8.toNat h
    rw [UInt8.toNat_add] at h2
    have : (32 : UInt8).toNat = 32 := rfl
    have : (44 : UInt8).toNat = 44 := rfl
    omega
  · exact h
theorem parse_same (l : List UInt8) : parseQ (wordsD l) = parseD l := by
  unfold parseQ parseD
  generalize wordsD l = ws
  have hno : ∀ name : Int, name < 0 → ∀ day, nameQ [] day = true ↔ (name < 0 ∨ weekZ day = name) := fun name h day => ⟨fun _ => Or.inl h, fun _ => by unfold nameQ; rfl⟩
  match ws with
  | [] =>
    rw [if_neg (by decide)]
    exact five_same [] (-1) [] (hno (-1) (by decide))
  | w :: r =>
    show (if commaD w = true then fiveQ w r else fiveQ [] (w :: r)) = _
    by_cases hc : commaD w = true
    · rw [if_pos hc]
      have hc2 : w ≠ [] ∧ w.getD (w.length - 1) 0 = 44 := of_decide_eq_true hc
      by_cases h4 : w.length = 4
      · have h3 : w.getD 3 0 = 44 := by have := hc2.2; rwa [h4] at this
        obtain ⟨x, y, z, rfl⟩ : ∃ x y z, w = [x, y, z, 44] := by
          match w, h4, h3 with
          | [x, y, z, q], _, h3 => exact ⟨x, y, z, by simp at h3; rw [h3]⟩
        have hnd : nameD ([x, y, z, 44] :: r) = if placeD dayB [x, y, z] < 0 then none else some (placeD dayB [x, y, z], r) := by
          show (if [x, y, z, (44 : UInt8)].length = 4 ∧ (([x, y, z, 44] : List UInt8).getD 3 0).toNat = 44 then (if placeD dayB [x, y, z] < 0 then none else some (placeD dayB [x, y, z], r)) else some (-1, [x, y, z, 44] :: r)) = _
          rw [if_pos ⟨rfl, rfl⟩]
        rw [hnd]
        have hlow : ∀ k, lowL [x, y, z, 44] = lowL (nmAt dayB k) ++ [44] ↔ lowL (nmAt dayB k) = lowL [x, y, z] := fun k => by
          show lowL [x, y, z] ++ [44] = _ ↔ _
          constructor
          · intro h; exact (List.append_cancel_right h).symm
          · intro h; rw [h]
        rcases place_day [x, y, z] with h | ⟨k, h, hk, hl, hlw⟩
        · rw [h, if_pos (by decide)]
          show _ = none
          unfold fiveQ tickQ
          apply if_neg
          intro hh
          have hq := hh.2.2.2.1
          generalize (dateQ _ _ _).1 = day at hq
          unfold nameQ at hq
          rw [Bool.or_eq_true, decide_eq_true_eq, decide_eq_true_eq] at hq
          rcases hq with hq | hq
          · cases hq
          · rw [hlow] at hq
            have hw := week_in day
            have hp : 0 ≤ placeD dayB [x, y, z] := by
              unfold placeD
              rw [if_neg (fun q => q rfl)]
              exact place_hit _ _ _ 0 (weekZ day).toNat (by omega) (by have : dayB.length / 3 = 7 := rfl; omega) hq
            omega
        · rw [h, if_neg (by omega)]
          refine five_same _ (k : Int) r (fun day => ?_)
          unfold nameQ
          rw [Bool.or_eq_true, decide_eq_true_eq, decide_eq_true_eq, hlow]
          have hw := week_in day
          constructor
          · rintro (q | q)
            · cases q
            · refine Or.inr ?_
              have := days_apart (weekZ day).toNat (by omega) k hk (q.trans hlw.symm)
              omega
          · rintro (q | q)
            · omega
            · refine Or.inr ?_
              rw [q, Int.toNat_natCast]; exact hlw
      · have hnd : nameD (w :: r) = some (-1, w :: r) := by
          show (if w.length = 4 ∧ (w.getD 3 0).toNat = 44 then _ else _) = _
          rw [if_neg (fun h => h4 h.1)]
        rw [hnd]
        have hq : fiveQ w r = none := by
          unfold fiveQ tickQ
          apply if_neg
          intro hh
          have hq := hh.2.2.2.1
          generalize (dateQ _ _ _).1 = day at hq
          unfold nameQ at hq
          rw [Bool.or_eq_true, decide_eq_true_eq, decide_eq_true_eq] at hq
          rcases hq with hq | hq
          · exact hc2.1 hq
          · have h5 := congrArg List.length hq
            have hw := week_in day
            rw [List.length_append, low_len, days_len _ (by omega)] at h5
            simp at h5
            exact h4 h5
        rw [hq]
        show none = fiveD (-1) (w :: r)
        have hmem : (44 : UInt8) ∈ w := by
          have h0 : 0 < w.length := List.length_pos_iff.2 hc2.1
          have := hc2.2
          rw [List.getD_eq_getElem?_getD, List.getElem?_eq_getElem (by omega)] at this
          exact this ▸ List.getElem_mem _
        have hnum : numD w 1 2 < 1 := by
          unfold numD
          split
          · omega
          · rw [num_comma w 0 hmem]; omega
        match r with
        | [b, c, d, e] =>
          show none = tickD _ _ _ _ _ _
          unfold tickD
          rw [if_pos (Or.inl hnum)]
        | [] => rfl
        | [_] => rfl
        | [_, _] => rfl
        | [_, _, _] => rfl
        | _ :: _ :: _ :: _ :: _ :: _ => rfl
    · rw [if_neg hc]
      have hnd : nameD (w :: r) = some (-1, w :: r) := by
        show (if w.length = 4 ∧ (w.getD 3 0).toNat = 44 then _ else _) = _
        rw [if_neg (fun h => hc (decide_eq_true ⟨fun e => by rw [e] at h; simp at h, by
          rw [h.1]
          have := h.2
          exact UInt8.toNat_inj.1 this⟩))]
      rw [hnd]
      exact five_same [] (-1) (w :: r) (hno (-1) (by decide))
end Go.Proofs.YtklhgaioolamfaaDoor.Date
