/-
  DATE, plain: the calendar, a moment as text, what is read; what is written is read as it.
-/
import Derived.Test.YtklhgaioolamfaaDoorStrBase
namespace Go.Proofs.YtklhgaioolamfaaDoor.Date
/-! ### The calendar -/
def leapN (y : Nat) : Bool := decide (y % 4 = 0) && (decide (y % 100 ≠ 0) || decide (y % 400 = 0))
def yd (y : Nat) : Nat := if leapN y = true then 366 else 365
def mtab : List Nat := [31, 28, 31, 30, 31, 30, 31, 31, 30, 31, 30, 31]
def md (y m : Nat) : Nat := if m = 2 ∧ leapN y = true then 29 else mtab.getD (m - 1) 0
theorem yd_ge (y : Nat) : 365 ≤ yd y := by unfold yd; split <;> omega
theorem yd_le (y : Nat) : yd y ≤ 366 := by unfold yd; split <;> omega
/-- Days ahead of a month, of a year. -/
def befM (y : Nat) : Nat → Nat
  | 0 => 0
  | k + 1 => befM y k + md y (k + 1)
def befY : Nat → Nat
  | 0 => 0
  | k + 1 => befY k + yd (1970 + k)
theorem md_one (y : Nat) : md y 1 = 31 := by simp [md, mtab]
theorem md_two (y : Nat) : md y 2 = if leapN y = true then 29 else 28 := by simp [md, mtab]
theorem md_rest (y m : Nat) (h : m ≠ 2) : md y m = mtab.getD (m - 1) 0 := by unfold md; rw [if_neg (fun x => h x.1)]
theorem md_le (y m : Nat) : md y m ≤ 31 := by
  unfold md
  split
  · omega
  · rcases Nat.lt_or_ge (m - 1) 12 with h | h
    · generalize m - 1 = k at h
      have : ∀ k < 12, mtab.getD k 0 ≤ 31 := by decide
      exact this k h
    · rw [List.getD_eq_getElem?_getD, List.getElem?_eq_none (by simpa [mtab] using h)]
      simp
theorem md_ge (y m : Nat) (h1 : 1 ≤ m) (h2 : m ≤ 12) : 28 ≤ md y m := by
  unfold md
  split
  · omega
  · have : ∀ k < 12, 28 ≤ mtab.getD k 0 := by decide
    exact this (m - 1) (by omega)
theorem yd_eq (y : Nat) : yd y = befM y 12 := by
  simp only [befM]
  rw [md_one, md_two, md_rest y 3 (by omega), md_rest y 4 (by omega), md_rest y 5 (by omega), md_rest y 6 (by omega), md_rest y 7 (by omega), md_rest y 8 (by omega), md_rest y 9 (by omega), md_rest y 10 (by omega), md_rest y 11 (by omega), md_rest y 12 (by omega)]
  unfold yd
  simp only [mtab]
  split <;> simp
theorem befM_mono (y : Nat) : ∀ (k j : Nat), befM y k ≤ befM y (k + j)
  | _, 0 => Nat.le_refl _
  | k, j + 1 => Nat.le_trans (befM_mono y k j) (by rw [← Nat.add_assoc, befM]; omega)
theorem befY_mono : ∀ (k j : Nat), befY k ≤ befY (k + j)
  | _, 0 => Nat.le_refl _
  | k, j + 1 => Nat.le_trans (befY_mono k j) (by rw [← Nat.add_assoc, befY]; omega)
theorem befM_lt (y : Nat) {a b : Nat} (h : a < b) : befM y a + md y (a + 1) ≤ befM y b := by
  obtain ⟨j, rfl⟩ : ∃ j, b = a + 1 + j := ⟨b - (a + 1), by omega⟩
  have := befM_mono y (a + 1) j
  rwa [befM] at this
theorem befY_lt {a b : Nat} (h : a < b) : befY a + yd (1970 + a) ≤ befY b := by
  obtain ⟨j, rfl⟩ : ∃ j, b = a + 1 + j := ⟨b - (a + 1), by omega⟩
  have := befY_mono (a + 1) j
  rwa [befY] at this
/-! ### From days to a date -/
def yearF : Nat → Nat → Nat → Nat × Nat
  | 0, days, y => (y, days)
  | f + 1, days, y => if yd y ≤ days then yearF f (days - yd y) (y + 1) else (y, days)
theorem year_fuel : ∀ (f g days y : Nat), days ≤ f → days ≤ g → yearF f days y = yearF g days y
  | 0, 0, _, _, _, _ => rfl
  | 0, g + 1, days, y, h, _ => by
    have := yd_ge y
    rw [yearF, yearF, if_neg (by omega)]
  | f + 1, 0, days, y, _, h => by
    have := yd_ge y
    rw [yearF, yearF, if_neg (by omega)]
  | f + 1, g + 1, days, y, h1, h2 => by
    have := yd_ge y
    rw [yearF, yearF]
    split
    · exact year_fuel f g _ _ (by omega) (by omega)
    · rfl
def yearO (days y : Nat) : Nat × Nat := yearF days days y
theorem year_stop {days y : Nat} (h : days < yd y) : yearO days y = (y, days) := by
  unfold yearO
  cases days with
  | zero => rfl
  | succ n => rw [yearF, if_neg (by omega)]
theorem year_go {days y : Nat} (h : yd y ≤ days) : yearO days y = yearO (days - yd y) (y + 1) := by
  unfold yearO
  have hy := yd_ge y
  obtain ⟨n, rfl⟩ : ∃ n, days = n + 1 := ⟨days - 1, by omega⟩
  rw [yearF, if_pos h]
  exact year_fuel _ _ _ _ (by omega) (Nat.le_refl _)
theorem year_spec : ∀ (n days k : Nat), days ≤ n → ∃ k' d', yearO days (1970 + k) = (1970 + k', d') ∧ befY k' + d' = befY k + days ∧ d' < yd (1970 + k') ∧ k ≤ k'
  | n, days, k, hn => by
    rcases Nat.lt_or_ge days (yd (1970 + k)) with h | h
    · exact ⟨k, days, year_stop h, rfl, h, Nat.le_refl _⟩
    · have hy := yd_ge (1970 + k)
      cases n with
      | zero => omega
      | succ n =>
        obtain ⟨k', d', h1, h2, h3, h4⟩ := year_spec n (days - yd (1970 + k)) (k + 1) (by omega)
        refine ⟨k', d', ?_, ?_, h3, by omega⟩
        · rw [year_go h, Nat.add_assoc]; exact h1
        · rw [h2, befY]; omega
def monthF : Nat → Nat → Nat → Nat → Nat × Nat
  | 0, _, days, m => (m, days)
  | f + 1, y, days, m => if md y m ≤ days then monthF f y (days - md y m) (m + 1) else (m, days)
def monthO (y days m : Nat) : Nat × Nat := monthF (13 - m) y days m
theorem month_stop {y days m : Nat} (h : days < md y m) : monthO y days m = (m, days) := by
  unfold monthO
  cases 13 - m with
  | zero => rfl
  | succ n => rw [monthF, if_neg (by omega)]
theorem month_go {y days m : Nat} (h : md y m ≤ days) (hm : m ≤ 12) : monthO y days m = monthO y (days - md y m) (m + 1) := by
  unfold monthO
  obtain ⟨n, hn⟩ : ∃ n, 13 - m = n + 1 := ⟨12 - m, by omega⟩
  rw [hn, monthF, if_pos h, show 13 - (m + 1) = n by omega]
theorem month_spec (y : Nat) : ∀ (n days m : Nat), 13 - m ≤ n → 1 ≤ m → m ≤ 12 → befM y (m - 1) + days < yd y → ∃ m' d', monthO y days m = (m', d') ∧ befM y (m' - 1) + d' = befM y (m - 1) + days ∧ d' < md y m' ∧ m ≤ m' ∧ m' ≤ 12
  | 0, _, m, hn, _, h2, _ => by omega
  | n + 1, days, m, hn, h1, h2, hd => by
    rcases Nat.lt_or_ge days (md y m) with h | h
    · exact ⟨m, days, month_stop h, rfl, h, Nat.le_refl _, h2⟩
    · have hb : befM y m = befM y (m - 1) + md y m := by
        obtain ⟨j, rfl⟩ : ∃ j, m = j + 1 := ⟨m - 1, by omega⟩
        rw [befM]; simp
      have h12 : m ≠ 12 := fun e => by
        rw [yd_eq, ← e, hb] at hd; omega
      obtain ⟨m', d', a1, a2, a3, a4, a5⟩ := month_spec y n (days - md y m) (m + 1) (by omega) (by omega) (by omega) (by rw [Nat.add_sub_cancel, hb]; omega)
      refine ⟨m', d', by rw [month_go h h2]; exact a1, ?_, a3, by omega, a5⟩
      rw [a2, Nat.add_sub_cancel, hb]; omega
/-- A date and a time. -/
structure Civ where
  y : Nat
  m : Nat
  d : Nat
  h : Nat
  mi : Nat
  s : Nat
deriving DecidableEq
def civOf (tick : Nat) : Civ :=
  let a := yearO (tick / 86400) 1970
  let b := monthO a.1 a.2 1
  ⟨a.1, b.1, b.2 + 1, tick % 86400 / 3600, tick % 86400 / 60 % 60, tick % 86400 % 60⟩
/-- Days ahead of a date from 1970 on. -/
def aheadN (y m d : Nat) : Nat := befY (y - 1970) + befM y (m - 1) + (d - 1)
structure Fine (c : Civ) : Prop where
  y : 1970 ≤ c.y
  m1 : 1 ≤ c.m
  m2 : c.m ≤ 12
  d1 : 1 ≤ c.d
  d2 : c.d ≤ md c.y c.m
  h : c.h < 24
  mi : c.mi < 60
  s : c.s < 60
theorem civ_spec (tick : Nat) : Fine (civOf tick) ∧ 86400 * aheadN (civOf tick).y (civOf tick).m (civOf tick).d + 3600 * (civOf tick).h + 60 * (civOf tick).mi + (civOf tick).s = tick := by
  obtain ⟨k, d1, e1, e2, e3, _⟩ := year_spec _ (tick / 86400) 0 (Nat.le_refl _)
  obtain ⟨m, d2, f1, f2, f3, f4, f5⟩ := month_spec (1970 + k) _ d1 1 (Nat.le_refl _) (Nat.le_refl _) (by omega) (by simpa [befM] using e3)
  have e1' : yearO (tick / 86400) 1970 = (1970 + k, d1) := e1
  have hc : civOf tick = ⟨1970 + k, m, d2 + 1, tick % 86400 / 3600, tick % 86400 / 60 % 60, tick % 86400 % 60⟩ := by
    unfold civOf
    rw [e1']
    dsimp only
    rw [f1]
  rw [hc]
  refine ⟨⟨Nat.le_add_right _ _, f4, f5, by simp, ?_, ?_, ?_, ?_⟩, ?_⟩
  · show d2 + 1 ≤ md (1970 + k) m
    omega
  · show tick % 86400 / 3600 < 24
    omega
  · show tick % 86400 / 60 % 60 < 60
    omega
  · show tick % 86400 % 60 < 60
    omega
  · show 86400 * aheadN (1970 + k) m (d2 + 1) + 3600 * (tick % 86400 / 3600) + 60 * (tick % 86400 / 60 % 60) + tick % 86400 % 60 = tick
    unfold aheadN
    simp only [befM, befY, Nat.sub_self, Nat.zero_add] at e2 f2
    rw [Nat.add_sub_cancel_left, Nat.add_sub_cancel]
    have : befY k + befM (1970 + k) (m - 1) + d2 = tick / 86400 := by omega
    rw [this]
    omega
/-! ### The order of dates -/
def dateLt (a b : Civ) : Prop := a.y < b.y ∨ (a.y = b.y ∧ (a.m < b.m ∨ (a.m = b.m ∧ (a.d < b.d ∨ (a.d = b.d ∧ (a.h < b.h ∨ (a.h = b.h ∧ (a.mi < b.mi ∨ (a.mi = b.mi ∧ a.s < b.s)))))))))
theorem ahead_in {c : Civ} (h : Fine c) : aheadN c.y c.m c.d < befY (c.y - 1970) + yd c.y := by
  unfold aheadN
  have h1 := befM_lt c.y (show c.m - 1 < 12 by have := h.m1; have := h.m2; omega)
  rw [← yd_eq, show c.m - 1 + 1 = c.m by have := h.m1; omega] at h1
  have := h.d1; have := h.d2
  omega
theorem ahead_lt {a b : Civ} (ha : Fine a) (_hb : Fine b) (h : a.y < b.y ∨ (a.y = b.y ∧ (a.m < b.m ∨ (a.m = b.m ∧ a.d < b.d)))) : aheadN a.y a.m a.d < aheadN b.y b.m b.d := by
  rcases h with h | ⟨hy, h⟩
  · have h1 := ahead_in ha
    have h2 := befY_lt (show a.y - 1970 < b.y - 1970 by have := ha.y; omega)
    rw [show 1970 + (a.y - 1970) = a.y by have := ha.y; omega] at h2
    have h3 : befY (b.y - 1970) ≤ aheadN b.y b.m b.d := by unfold aheadN; omega
    omega
  · unfold aheadN
    rw [hy]
    rcases h with h | ⟨hm, h⟩
    · have h1 := befM_lt b.y (show a.m - 1 < b.m - 1 by have := ha.m1; omega)
      rw [show a.m - 1 + 1 = a.m by have := ha.m1; omega] at h1
      have h2 := ha.d2
      have h3 := ha.d1
      rw [hy] at h2
      omega
    · have := ha.d1
      rw [hm]
      omega
theorem civ_lt {a b : Nat} (h : dateLt (civOf a) (civOf b)) : a < b := by
  obtain ⟨fa, ea⟩ := civ_spec a
  obtain ⟨fb, eb⟩ := civ_spec b
  have a1 := fa.h; have a2 := fa.mi; have a3 := fa.s
  have b1 := fb.h; have b2 := fb.mi; have b3 := fb.s
  rcases h with h | ⟨hy, h⟩
  · have := ahead_lt fa fb (Or.inl h); omega
  · rcases h with h | ⟨hm, h⟩
    · have := ahead_lt fa fb (Or.inr ⟨hy, Or.inl h⟩); omega
    · rcases h with h | ⟨hd, h⟩
      · have := ahead_lt fa fb (Or.inr ⟨hy, Or.inr ⟨hm, h⟩⟩); omega
      · have he : aheadN (civOf a).y (civOf a).m (civOf a).d = aheadN (civOf b).y (civOf b).m (civOf b).d := by rw [hy, hm, hd]
        rw [he] at ea
        rcases h with h | ⟨hh, h⟩
        · omega
        · rcases h with h | ⟨hi, h⟩ <;> omega
theorem civ_inj {a b : Nat} (h : civOf a = civOf b) : a = b := by
  obtain ⟨_, ea⟩ := civ_spec a
  obtain ⟨_, eb⟩ := civ_spec b
  rw [h] at ea
  omega
theorem bef8030 : befY 8030 = 2932897 := by decide +kernel
/-- The greatest tick's year is 9999. -/
theorem civ_year {tick : Nat} (h : tick ≤ 253402300799) : (civOf tick).y ≤ 9999 := by
  obtain ⟨fa, ea⟩ := civ_spec tick
  rcases Nat.lt_or_ge 9999 (civOf tick).y with h1 | h1
  · obtain ⟨j, hj⟩ : ∃ j, (civOf tick).y - 1970 = 8030 + j := ⟨(civOf tick).y - 10000, by omega⟩
    have h2 := befY_mono 8030 j
    have hb := bef8030
    have h3 : befY ((civOf tick).y - 1970) ≤ aheadN (civOf tick).y (civOf tick).m (civOf tick).d := by unfold aheadN; omega
    rw [hj] at h3
    omega
  · exact h1
/-! ### A moment as text -/
def twoD (n : Nat) : List UInt8 := [UInt8.ofNat (48 + n / 10), UInt8.ofNat (48 + n % 10)]
abbrev dayB : List UInt8 := [83, 117, 110, 77, 111, 110, 84, 117, 101, 87, 101, 100, 84, 104, 117, 70, 114, 105, 83, 97, 116]
abbrev monB : List UInt8 := [74, 97, 110, 70, 101, 98, 77, 97, 114, 65, 112, 114, 77, 97, 121, 74, 117, 110, 74, 117, 108, 65, 117, 103, 83, 101, 112, 79, 99, 116, 78, 111, 118, 68, 101, 99]
def nmAt (names : List UInt8) (k : Nat) : List UInt8 := (names.drop (3 * k)).take 3
def dayOf (tick : Nat) : Nat := (tick / 86400 + 4) % 7
def dgD (d : Nat) : List UInt8 := if d < 10 then [UInt8.ofNat (48 + d % 10)] else twoD d
def clkD (c : Civ) : List UInt8 := twoD c.h ++ 58 :: (twoD c.mi ++ 58 :: twoD c.s)
/-- All but the zone. -/
def frontOf (tick : Nat) : List UInt8 :=
  (nmAt dayB (dayOf tick) ++ [44]) ++ 32 :: (dgD (civOf tick).d ++ 32 :: (nmAt monB ((civOf tick).m - 1) ++ 32 :: ((twoD ((civOf tick).y / 100) ++ twoD ((civOf tick).y % 100)) ++ 32 :: (clkD (civOf tick) ++ [32]))))
abbrev utcB : List UInt8 := [43, 48, 48, 48, 48]
def textOf (tick : Nat) : List UInt8 := frontOf tick ++ utcB
/-! ### What is read -/
def wordsG : List UInt8 → List UInt8 → List (List UInt8)
  | [], cur => if cur = [] then [] else [cur]
  | c :: r, cur => if c.toNat = 32 then (if cur = [] then wordsG r [] else cur :: wordsG r []) else wordsG r (cur ++ [c])
def wordsD (l : List UInt8) : List (List UInt8) := wordsG l []
def numG : Nat → List UInt8 → Int
  | n, [] => n
  | n, c :: r => if c.toNat < 48 ∨ 57 < c.toNat then -1 else numG (10 * n + c.toNat - 48) r
def numD (l : List UInt8) (least most : Nat) : Int := if l.length < least ∨ most < l.length then -1 else numG 0 l
def lowB (c : UInt8) : UInt8 := if 65 ≤ c.toNat ∧ c.toNat ≤ 90 then c + 32 else c
def lowL (l : List UInt8) : List UInt8 := l.map lowB
def placeF (names s : List UInt8) : Nat → Nat → Int
  | 0, _ => -1
  | f + 1, i => if lowL (nmAt names i) = lowL s then i else placeF names s f (i + 1)
def placeD (names s : List UInt8) : Int := if s.length ≠ 3 then -1 else placeF names s (names.length / 3) 0
def clockOk (l : List UInt8) : Bool := decide ((l.length = 5 ∨ l.length = 8) ∧ (l.getD 2 0).toNat = 58 ∧ (l.length = 8 → (l.getD 5 0).toNat = 58))
def timeOf (h m s : Int) : Int := if h < 0 ∨ 23 < h ∨ m < 0 ∨ 59 < m ∨ s < 0 ∨ 59 < s then -1 else 3600 * h + 60 * m + s
def clockD (l : List UInt8) : Int := if clockOk l = true then timeOf (numD (l.take 2) 2 2) (numD ((l.drop 3).take 2) 2 2) (if l.length = 8 then numD (l.drop 6) 2 2 else 0) else -1
def zoneOf (neg : Bool) (h m : Int) : Int × Bool := if h < 0 ∨ 23 < h ∨ m < 0 ∨ 59 < m then (0, false) else if neg = true then (-3600 * h - 60 * m, true) else (3600 * h + 60 * m, true)
def zoneD (l : List UInt8) : Int × Bool :=
  if lowL l = [103, 109, 116] ∨ lowL l = [117, 116] then (0, true)
  else if l.length ≠ 5 ∨ ((l.getD 0 0).toNat ≠ 43 ∧ (l.getD 0 0).toNat ≠ 45) then (0, false)
  else zoneOf (decide ((l.getD 0 0).toNat = 45)) (numD ((l.drop 1).take 2) 2 2) (numD (l.drop 3) 2 2)
/-- Days from a year to 1970. -/
def revF (y : Nat) : Nat → Nat
  | 0 => 0
  | k + 1 => revF y k + yd (y + k)
def aheadZ (y m d : Nat) : Int := (d : Int) - 1 + (befM y (m - 1) : Int) + (befY (y - 1970) : Int) - (revF y (1970 - y) : Int)
def nameD (ws : List (List UInt8)) : Option (Int × List (List UInt8)) :=
  match ws with
  | [] => some (-1, [])
  | w :: r => if w.length = 4 ∧ (w.getD 3 0).toNat = 44 then (if placeD dayB (w.take 3) < 0 then none else some (placeD dayB (w.take 3), r)) else some (-1, w :: r)
/-- The tick, the parts being read. -/
def tickD (name d m y t : Int) (z : Int × Bool) : Option Int :=
  if d < 1 ∨ m < 1 ∨ y < 0 ∨ t < 0 ∨ z.2 = false then none
  else if (md y.toNat m.toNat : Int) < d then none
  else if 0 ≤ name ∧ Int.tmod (Int.tmod (aheadZ y.toNat m.toNat d.toNat + 4) 7 + 7) 7 ≠ name then none
  else if 86400 * aheadZ y.toNat m.toNat d.toNat + t - z.1 < 0 ∨ 253402300799 < 86400 * aheadZ y.toNat m.toNat d.toNat + t - z.1 then none
  else some (86400 * aheadZ y.toNat m.toNat d.toNat + t - z.1)
def fiveD (name : Int) : List (List UInt8) → Option Int
  | [a, b, c, d, e] => tickD name (numD a 1 2) (placeD monB b + 1) (numD c 4 4) (clockD d) (zoneD e)
  | _ => none
def parseD (l : List UInt8) : Option Int :=
  match nameD (wordsD l) with
  | none => none
  | some (name, r) => fiveD name r
/-! ### What is written is read -/
def NoBl (x : List UInt8) : Prop := ∀ c ∈ x, c.toNat ≠ 32
theorem words_in : ∀ (x r cur : List UInt8), NoBl x → wordsG (x ++ r) cur = wordsG r (cur ++ x)
  | [], r, cur, _ => by simp
  | c :: x, r, cur, h => by
    rw [List.cons_append, wordsG, if_neg (h c (by simp)), words_in x r (cur ++ [c]) (fun d hd => h d (by simp [hd]))]
    simp
theorem words_step {x : List UInt8} (r : List UInt8) (h : NoBl x) (h0 : x ≠ []) : wordsG (x ++ 32 :: r) [] = x :: wordsG r [] := by
  rw [words_in x _ [] h, List.nil_append, wordsG, if_pos (by decide), if_neg h0]
theorem words_last {x : List UInt8} (h : NoBl x) (h0 : x ≠ []) : wordsG x [] = [x] := by
  have := words_in x [] [] h
  rw [List.append_nil, List.nil_append] at this
  rw [this, wordsG, if_neg h0]
theorem ofNat_toNat {n : Nat} (h : n < 256) : (UInt8.ofNat n).toNat = n := by simp; omega
theorem noBl_two {n : Nat} (h : n ≤ 99) : NoBl (twoD n) := fun c hc => by
  simp only [twoD, List.mem_cons, List.not_mem_nil, or_false] at hc
  rcases hc with rfl | rfl
  · rw [ofNat_toNat (by omega)]; omega
  · rw [ofNat_toNat (by omega)]; omega
theorem noBl_append {x y : List UInt8} (h1 : NoBl x) (h2 : NoBl y) : NoBl (x ++ y) := fun c hc => by
  rcases List.mem_append.1 hc with h | h
  · exact h1 c h
  · exact h2 c h
theorem noBl_cons {c : UInt8} {y : List UInt8} (h1 : c.toNat ≠ 32) (h2 : NoBl y) : NoBl (c :: y) := fun d hd => by
  rcases List.mem_cons.1 hd with rfl | h
  · exact h1
  · exact h2 d h
theorem noBl_dg {d : Nat} (h : d ≤ 31) : NoBl (dgD d) := by
  unfold dgD
  split
  · exact fun c hc => by
      rw [List.mem_singleton] at hc
      subst hc
      rw [ofNat_toNat (by omega)]; omega
  · exact noBl_two (by omega)
theorem num_two {n : Nat} (h : n ≤ 99) : numD (twoD n) 2 2 = n := by
  unfold numD twoD
  rw [if_neg (by simp)]
  simp only [numG]
  rw [ofNat_toNat (by omega), ofNat_toNat (by omega), if_neg (by omega), if_neg (by omega)]
  congr 1
  omega
theorem num_four {y : Nat} (h : y ≤ 9999) : numD (twoD (y / 100) ++ twoD (y % 100)) 4 4 = y := by
  unfold numD twoD
  rw [if_neg (by simp)]
  simp only [List.cons_append, List.nil_append, numG]
  rw [ofNat_toNat (by omega), ofNat_toNat (by omega), ofNat_toNat (by omega), ofNat_toNat (by omega), if_neg (by omega), if_neg (by omega), if_neg (by omega), if_neg (by omega)]
  congr 1
  omega
theorem num_dg {d : Nat} (h : d ≤ 31) : numD (dgD d) 1 2 = d := by
  have : ∀ d ≤ 31, numD (dgD d) 1 2 = (d : Int) := by decide
  exact this d h
theorem day_names : ∀ k < 7, placeD dayB (nmAt dayB k) = (k : Int) ∧ (nmAt dayB k).length = 3 ∧ ∀ c ∈ nmAt dayB k, c.toNat ≠ 32 := by decide
theorem mon_names : ∀ k < 12, placeD monB (nmAt monB k) = (k : Int) ∧ (nmAt monB k).length = 3 ∧ ∀ c ∈ nmAt monB k, c.toNat ≠ 32 := by decide
theorem clk_ok {c : Civ} (h : Fine c) : clockD (clkD c) = 3600 * c.h + 60 * c.mi + c.s ∧ NoBl (clkD c) ∧ clkD c ≠ [] := by
  have h1 := h.h; have h2 := h.mi; have h3 := h.s
  refine ⟨?_, noBl_append (noBl_two (by omega)) (noBl_cons (by decide) (noBl_append (noBl_two (by omega)) (noBl_cons (by decide) (noBl_two (by omega))))), by simp [clkD, twoD]⟩
  have e : clkD c = [UInt8.ofNat (48 + c.h / 10), UInt8.ofNat (48 + c.h % 10), 58, UInt8.ofNat (48 + c.mi / 10), UInt8.ofNat (48 + c.mi % 10), 58, UInt8.ofNat (48 + c.s / 10), UInt8.ofNat (48 + c.s % 10)] := rfl
  have ok : clockOk (clkD c) = true := by rw [e]; rfl
  have t1 : (clkD c).take 2 = twoD c.h := rfl
  have t2 : ((clkD c).drop 3).take 2 = twoD c.mi := rfl
  have t3 : (clkD c).drop 6 = twoD c.s := rfl
  have t4 : (clkD c).length = 8 := rfl
  unfold clockD
  rw [ok, if_pos rfl, t1, t2, t3, if_pos t4, num_two (by omega), num_two (by omega), num_two (by omega)]
  unfold timeOf
  rw [if_neg (by omega)]
theorem ahead_eq {y m d : Nat} (hy : 1970 ≤ y) (hd : 1 ≤ d) : aheadZ y m d = (aheadN y m d : Int) := by
  unfold aheadZ aheadN
  rw [show 1970 - y = 0 by omega]
  simp only [revF]
  omega
/-- A moment's text, with whatever zone. -/
theorem parse_front {tick : Nat} (ht : tick ≤ 253402300799) {zt : List UInt8} {z : Int} (hz : zoneD zt = (z, true)) (hb : NoBl zt) (h0 : zt ≠ []) :
    parseD (frontOf tick ++ zt) = if (tick : Int) - z < 0 ∨ 253402300799 < (tick : Int) - z then none else some ((tick : Int) - z) := by
  obtain ⟨f, e⟩ := civ_spec tick
  have hyr := civ_year ht
  obtain ⟨c, hc⟩ : ∃ c, c = civOf tick := ⟨_, rfl⟩
  have g1 := f.m1; have g2 := f.m2; have g3 := f.d1; have g4 := f.d2; have g5 := f.y
  have g6 := md_le (civOf tick).y (civOf tick).m
  obtain ⟨k1, k2, k3⟩ := clk_ok f
  have hday : dayOf tick < 7 := Nat.mod_lt _ (by decide)
  obtain ⟨n1, n2, n3⟩ := day_names (dayOf tick) hday
  obtain ⟨m1, m2, m3⟩ := mon_names ((civOf tick).m - 1) (by omega)
  have hw : wordsD (frontOf tick ++ zt) = [nmAt dayB (dayOf tick) ++ [44], dgD (civOf tick).d, nmAt monB ((civOf tick).m - 1), twoD ((civOf tick).y / 100) ++ twoD ((civOf tick).y % 100), clkD (civOf tick), zt] := by
    have e1 : frontOf tick ++ zt = (nmAt dayB (dayOf tick) ++ [44]) ++ 32 :: (dgD (civOf tick).d ++ 32 :: (nmAt monB ((civOf tick).m - 1) ++ 32 :: ((twoD ((civOf tick).y / 100) ++ twoD ((civOf tick).y % 100)) ++ 32 :: (clkD (civOf tick) ++ 32 :: zt)))) := by
      unfold frontOf
      simp [List.append_assoc]
    unfold wordsD
    rw [e1, words_step _ (noBl_append n3 (noBl_cons (by decide) (fun c hc => by cases hc))) (by simp), words_step _ (noBl_dg (by omega)) (by unfold dgD twoD; split <;> simp), words_step _ m3 (fun h => by rw [h] at m2; cases m2), words_step _ (noBl_append (noBl_two (by omega)) (noBl_two (by omega))) (by simp [twoD]), words_step _ k2 k3, words_last hb h0]
  have hl4 : (nmAt dayB (dayOf tick) ++ [44]).length = 4 ∧ ((nmAt dayB (dayOf tick) ++ [44]).getD 3 0).toNat = 44 := by
    refine ⟨by rw [List.length_append, n2]; rfl, ?_⟩
    rw [List.getD_eq_getElem?_getD, List.getElem?_append_right (by omega), n2]
    rfl
  have ht3 : (nmAt dayB (dayOf tick) ++ [44]).take 3 = nmAt dayB (dayOf tick) := by rw [← n2]; exact List.take_left
  have hnm : ∀ r, nameD ((nmAt dayB (dayOf tick) ++ [44]) :: r) = some ((dayOf tick : Int), r) := fun r => by
    show (if _ then (if _ then _ else _) else _) = _
    rw [if_pos hl4, ht3, n1, if_neg (by omega)]
  unfold parseD
  rw [hw, hnm]
  show tickD _ _ _ _ _ _ = _
  rw [num_dg (by omega), m1, num_four (by omega), k1, hz]
  unfold tickD
  dsimp only
  have t1 : (((civOf tick).y : Nat) : Int).toNat = (civOf tick).y := Int.toNat_natCast _
  have t2 : ((((civOf tick).m - 1 : Nat) : Int) + 1).toNat = (civOf tick).m := by omega
  have t3 : (((civOf tick).d : Nat) : Int).toNat = (civOf tick).d := Int.toNat_natCast _
  rw [t1, t2, t3, ahead_eq g5 g3, if_neg (by simp; omega), if_neg (by omega)]
  have hdays : aheadN (civOf tick).y (civOf tick).m (civOf tick).d = tick / 86400 := by
    have := f.h; have := f.mi; have := f.s
    omega
  have hmod : Int.tmod (Int.tmod (((aheadN (civOf tick).y (civOf tick).m (civOf tick).d : Nat) : Int) + 4) 7 + 7) 7 = ((dayOf tick : Nat) : Int) := by
    rw [hdays]
    unfold dayOf
    have hi : Int.tmod (((tick / 86400 : Nat) : Int) + 4) 7 = (((tick / 86400 : Nat) : Int) + 4) % 7 := Int.tmod_eq_emod_of_nonneg (by omega)
    rw [hi, Int.tmod_eq_emod_of_nonneg (by omega)]
    omega
  rw [if_neg (fun x => x.2 hmod)]
  have hsum : 86400 * ((aheadN (civOf tick).y (civOf tick).m (civOf tick).d : Nat) : Int) + (3600 * ((civOf tick).h : Int) + 60 * ((civOf tick).mi : Int) + ((civOf tick).s : Int)) - z = (tick : Int) - z := by
    have := congrArg (fun n : Nat => (n : Int)) e
    simp only [Int.natCast_add, Int.natCast_mul] at this
    omega
  rw [hsum]
theorem parse_back {tick : Nat} (ht : tick ≤ 253402300799) : parseD (textOf tick) = some (tick : Int) := by
  unfold textOf
  rw [parse_front (z := 0) ht (by decide) (by unfold NoBl; decide) (by decide), if_neg (by omega)]
  simp
theorem zone_plus {h m : Nat} (hh : h ≤ 23) (hm : m ≤ 59) : zoneD (43 :: (twoD h ++ twoD m)) = (3600 * (h : Int) + 60 * (m : Int), true) ∧ NoBl (43 :: (twoD h ++ twoD m)) := by
  refine ⟨?_, noBl_cons (by decide) (noBl_append (noBl_two (by omega)) (noBl_two (by omega)))⟩
  unfold zoneD
  have hl : (lowL (43 :: (twoD h ++ twoD m))).length = 5 := by simp [lowL, twoD]
  rw [if_neg (by rintro (e | e) <;> (rw [e] at hl; simp at hl)), if_neg (by simp [twoD])]
  have t1 : ((43 :: (twoD h ++ twoD m)).drop 1).take 2 = twoD h := rfl
  have t2 : (43 :: (twoD h ++ twoD m)).drop 3 = twoD m := rfl
  rw [t1, t2, num_two (by omega), num_two (by omega)]
  unfold zoneOf
  rw [if_neg (by omega), if_neg (by simp)]
theorem parse_zone {tick h m : Nat} (ht : tick ≤ 253402000000) (hh : h ≤ 23) (hm : m ≤ 59) : parseD (frontOf (tick + (3600 * h + 60 * m)) ++ 43 :: (twoD h ++ twoD m)) = some (tick : Int) := by
  obtain ⟨z1, z2⟩ := zone_plus hh hm
  rw [parse_front (by omega) z1 z2 (by simp), if_neg (by omega)]
  congr 1
  omega
end Go.Proofs.YtklhgaioolamfaaDoor.Date
