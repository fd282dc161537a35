/-
  DATE, the program: the calendar.
-/
import Derived.Test.YtklhgaioolamfaaDoorDpVars
namespace Go.Proofs.YtklhgaioolamfaaDoor.Date
open Go.RowKit Base
def isTick (t : Int) : Bool := decide (0 ≤ t) && decide (t ≤ 253402300799)
set_option maxHeartbeats 1600000 in
set_option maxRecDepth 100000 in
theorem pTick (t : Int) (w : World) : Calls Tryd.prog 17 #[.int .i64 t] w (AskEnd (isTick t) w) := by
  obtain ⟨L, hL⟩ : ∃ L, L = isTick t := ⟨_, rfl⟩
  have HL : Hid (L = (decide (0 ≤ t) && decide (t ≤ 253402300799))) := hL
  rw [← hL]
  clear hL
  by_cases h1 : 0 ≤ t
  · by_cases h2 : t ≤ 253402300799
    · go_enter Tryd.func17, Tryd.ntmps17
      go_wp2
      go_ret
      refine ⟨ret_bool ?_, rfl⟩
      rw [HL.out]; simp [h1, h2]
    · go_enter Tryd.func17, Tryd.ntmps17
      go_wp2
      go_ret
      refine ⟨ret_bool ?_, rfl⟩
      rw [HL.out]; simp [h1, h2]
  · go_enter Tryd.func17, Tryd.ntmps17
    go_wp2
    go_ret
    refine ⟨ret_bool ?_, rfl⟩
    rw [HL.out]; simp; omega
set_option maxHeartbeats 1600000 in
set_option maxRecDepth 100000 in
theorem pLong (y : Nat) (w : World) (_hy : y ≤ 9000000000000000000) : Calls Tryd.prog 60 #[.int .i64 (y : Int)] w (AskEnd (leapN y) w) := by
  have e4 : Int.tmod (y : Int) 4 = ((y % 4 : Nat) : Int) := rem_nat y 4
  have e100 : Int.tmod (y : Int) 100 = ((y % 100 : Nat) : Int) := rem_nat y 100
  have e400 : Int.tmod (y : Int) 400 = ((y % 400 : Nat) : Int) := rem_nat y 400
  obtain ⟨a, ha⟩ : ∃ a, a = y % 4 := ⟨_, rfl⟩
  obtain ⟨b, hb⟩ : ∃ b, b = y % 100 := ⟨_, rfl⟩
  obtain ⟨c, hc⟩ : ∃ c, c = y % 400 := ⟨_, rfl⟩
  obtain ⟨L, hL⟩ : ∃ L, L = leapN y := ⟨_, rfl⟩
  have HL : Hid (L = (decide (a = 0) && (decide (b ≠ 0) || decide (c = 0)))) := by show _ = _; rw [hL, ha, hb, hc]; rfl
  rw [← ha] at e4
  rw [← hb] at e100
  rw [← hc] at e400
  rw [← hL]
  clear ha hb hc hL
  go_enter Tryd.func60, Tryd.ntmps60
  go_wp2
  all_goals
    clear e4 e100 e400
    go_ret
    refine ⟨ret_bool ?_, rfl⟩
    rw [HL.out]
    clear HL
    simp_all
  try rw [Bool.eq_iff_iff]
  try simp
/-- The days of the years up to one. -/
def yearsZ (y : Nat) : Int := 365 * (y : Int) + ((y / 4 : Nat) : Int) - ((y / 100 : Nat) : Int) + ((y / 400 : Nat) : Int)
set_option maxHeartbeats 1600000 in
set_option maxRecDepth 100000 in
theorem pYears (y : Nat) (w : World) (hy : y ≤ 9000000000) : Calls Tryd.prog 59 #[.int .i64 (y : Int)] w fun e w' => e = .returned (.int .i64 (yearsZ y)) ∧ w = w' := by
  have e4 : Int.tdiv (y : Int) 4 = ((y / 4 : Nat) : Int) := quo_nat y 4
  have e100 : Int.tdiv (y : Int) 100 = ((y / 100 : Nat) : Int) := quo_nat y 100
  have e400 : Int.tdiv (y : Int) 400 = ((y / 400 : Nat) : Int) := quo_nat y 400
  have HY : Hid (yearsZ y = 365 * (y : Int) + ((y / 4 : Nat) : Int) - ((y / 100 : Nat) : Int) + ((y / 400 : Nat) : Int)) := rfl
  have b4 : y / 4 ≤ 9000000000 := by omega
  have b100 : y / 100 ≤ 9000000000 := by omega
  have b400 : y / 400 ≤ 9000000000 := by omega
  generalize y / 4 = a at e4 HY b4
  generalize y / 100 = b at e100 HY b100
  generalize y / 400 = c at e400 HY b400
  generalize yearsZ y = Z at HY
  go_enter Tryd.func59, Tryd.ntmps59
  go_wp2
  go_ret
  rw [HY.out]
  exact ⟨rfl, rfl⟩
set_option maxHeartbeats 1600000 in
set_option maxRecDepth 100000 in
theorem pYearsM (w : World) : Calls Tryd.prog 59 #[.int .i64 (-1)] w fun e w' => e = .returned (.int .i64 (-365)) ∧ w = w' := by
  have e4 : Int.tdiv (-1 : Int) 4 = 0 := by decide
  have e100 : Int.tdiv (-1 : Int) 100 = 0 := by decide
  have e400 : Int.tdiv (-1 : Int) 400 = 0 := by decide
  go_enter Tryd.func59, Tryd.ntmps59
  go_wp2
  go_ret
  exact ⟨rfl, rfl⟩
theorem years_1969 : yearsZ 1969 = 719162 := by decide
theorem new_years {y : Nat} (h : 1 ≤ y) : newZ y = yearsZ (y - 1) - 719162 := by
  unfold newZ yearsZ
  rw [show ((y - 1 : Nat) : Int) = (y : Int) - 1 by omega]
theorem years_rng {y : Nat} (h : y ≤ 9000000000) : 0 ≤ yearsZ y ∧ yearsZ y ≤ 9000000000000 := by unfold yearsZ; omega
set_option maxHeartbeats 1600000 in
set_option maxRecDepth 100000 in
theorem pNew (y : Nat) (w : World) (hy : y ≤ 9000000000) : Calls Tryd.prog 40 #[.int .i64 (y : Int)] w fun e w' => e = .returned (.int .i64 (newZ y)) ∧ w = w' := by
  have HB : Hid (∀ w1, Calls Tryd.prog 59 #[.int .i64 1969] w1 fun e w' => e = .returned (.int .i64 719162) ∧ w1 = w') := fun w1 => by
    have := pYears 1969 w1 (by omega)
    rwa [years_1969] at this
  by_cases h0 : y = 0
  · subst h0
    have HA : Hid (∀ w1, Calls Tryd.prog 59 #[.int .i64 (-1)] w1 fun e w' => e = .returned (.int .i64 (-365)) ∧ w1 = w') := pYearsM
    have HZ : Hid (newZ 0 = -365 - 719162) := by show _ = _; decide
    generalize newZ 0 = Z at HZ
    go_enter Tryd.func40, Tryd.ntmps40
    go_wp2_with (first | (go_at_call 59; refine (HA.out _).mono ?_; rintro ee w1 ⟨rfl, rfl⟩; refine Hid.out ?_) | fail)
    refine Lib.hid ?_
    go_wp2_with (first | (go_at_call 59; refine (HB.out _).mono ?_; rintro ee w1 ⟨rfl, rfl⟩; refine Hid.out ?_) | fail)
    refine Lib.hid ?_
    go_wp2
    go_ret
    rw [HZ.out]
    exact ⟨rfl, rfl⟩
  · have HZ := Lib.hid (new_years (y := y) (by omega))
    have hr := years_rng (y := y - 1) (by omega)
    have HA : Hid (∀ w1, Calls Tryd.prog 59 #[.int .i64 ((y : Int) - 1)] w1 fun e w' => e = .returned (.int .i64 (yearsZ (y - 1))) ∧ w1 = w') := fun w1 => by
      have := pYears (y - 1) w1 (by omega)
      rwa [show ((y - 1 : Nat) : Int) = (y : Int) - 1 by omega] at this
    generalize newZ y = Z at HZ
    generalize yearsZ (y - 1) = X at HZ hr HA
    obtain ⟨hr1, hr2⟩ := hr
    clear h0
    go_enter Tryd.func40, Tryd.ntmps40
    go_wp2_with (first | (go_at_call 59; refine (HA.out _).mono ?_; rintro ee w1 ⟨rfl, rfl⟩; refine Hid.out ?_) | fail)
    refine Lib.hid ?_
    go_wp2_with (first | (go_at_call 59; refine (HB.out _).mono ?_; rintro ee w1 ⟨rfl, rfl⟩; refine Hid.out ?_) | fail)
    refine Lib.hid ?_
    go_wp2
    go_ret
    rw [HZ.out]
    exact ⟨rfl, rfl⟩
set_option maxHeartbeats 1600000 in
set_option maxRecDepth 100000 in
theorem pDays (y m : Nat) (w : World) (hv : Vars w) (hy : y ≤ 9000000000000000000) (h1 : 1 ≤ m) (h2 : m ≤ 12) : Calls Tryd.prog 41 #[.int .i64 (y : Int), .int .i64 (m : Int)] w fun e w' => e = .returned (.int .i64 (md y m : Int)) ∧ w = w' := by
  obtain ⟨k, rfl⟩ : ∃ k, m = k + 1 := ⟨m - 1, by omega⟩
  have HL : Hid (∀ w1, Calls Tryd.prog 60 #[.int .i64 (y : Int)] w1 (AskEnd (leapN y) w1)) := fun w1 => pLong y w1 hy
  obtain ⟨L, hL⟩ : ∃ L, L = leapN y := ⟨_, rfl⟩
  obtain ⟨n, hn⟩ : ∃ n, n = md y (k + 1) := ⟨_, rfl⟩
  have HN : Hid (n = if k + 1 = 2 ∧ L = true then 29 else mtab.getD k 0) := by show _ = _; rw [hn, hL]; rfl
  rw [← hL] at HL
  rw [← hn]
  have hk : k < 12 := by omega
  have hcell := hv.mds k hk
  obtain ⟨q, hq⟩ : ∃ q, q = mtab.getD k 0 := ⟨_, rfl⟩
  rw [← hq] at HN hcell
  have hk2 : (k : Int) < 12 := by omega
  have e1 : (k : Int) + 1 - 1 = (k : Int) := by omega
  have k0 : (0 : Int) ≤ (k : Int) := by omega
  clear hL hn hy h1 h2 hq hv
  by_cases h2 : k = 1
  · subst h2
    cases L
    · have HN2 : Hid (n = q) := HN.out
      clear HN
      go_enter Tryd.func41, Tryd.ntmps41
      go_wp2_with (first | (go_at_call 60; refine (HL.out _).mono ?_; rintro ee w1 ⟨rfl, rfl⟩; refine Hid.out ?_) | fail)
      refine Lib.hid ?_
      go_wp2
      go_ret
      rw [HN2.out]
      exact ⟨rfl, rfl⟩
    · have HN2 : Hid (n = 29) := HN.out
      clear HN
      go_enter Tryd.func41, Tryd.ntmps41
      go_wp2_with (first | (go_at_call 60; refine (HL.out _).mono ?_; rintro ee w1 ⟨rfl, rfl⟩; refine Hid.out ?_) | fail)
      refine Lib.hid ?_
      go_wp2
      go_ret
      rw [HN2.out]
      exact ⟨rfl, rfl⟩
  · have HN2 : Hid (n = q) := by show _ = _; rw [HN.out, if_neg (by omega)]
    have h3 : ((k : Int) + 1 == 2) = false := by rw [beq_eq_false_iff_ne]; omega
    clear HN h2
    go_enter Tryd.func41, Tryd.ntmps41
    go_wp2
    go_ret
    rw [HN2.out]
    exact ⟨rfl, rfl⟩
set_option maxHeartbeats 1600000 in
set_option maxRecDepth 100000 in
theorem pWeek (d : Int) (w : World) (h1 : -9000000000000 ≤ d) (h2 : d ≤ 9000000000000) : Calls Tryd.prog 22 #[.int .i64 d] w fun e w' => e = .returned (.int .i64 (weekZ d)) ∧ w = w' := by
  have HZ : Hid (weekZ d = Int.tmod (Int.tmod (d + 4) 7 + 7) 7) := rfl
  have hr : -7 < Int.tmod (d + 4) 7 ∧ Int.tmod (d + 4) 7 < 7 := by
    have a := Int.lt_tmod_of_pos (d + 4) (show (0 : Int) < 7 by decide)
    have b := Int.tmod_lt_of_pos (d + 4) (show (0 : Int) < 7 by decide)
    omega
  generalize weekZ d = Z at HZ
  obtain ⟨X, hX⟩ : ∃ X, X = Int.tmod (d + 4) 7 := ⟨_, rfl⟩
  rw [← hX] at HZ hr
  obtain ⟨r1, r2⟩ := hr
  have e1 := hX.symm
  clear hX
  go_enter Tryd.func22, Tryd.ntmps22
  go_wp2
  go_ret
  rw [HZ.out, Int.tmod_eq_emod_of_nonneg (by omega)]
  exact ⟨rfl, rfl⟩
end Go.Proofs.YtklhgaioolamfaaDoor.Date
