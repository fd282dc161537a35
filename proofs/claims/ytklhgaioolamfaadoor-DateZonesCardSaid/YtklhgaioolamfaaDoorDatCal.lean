/-
  DATE, the given answers: leap, yearDays, monthDays, Day, two.
-/
import Derived.Test.YtklhgaioolamfaaDoorDatP
namespace Go.Proofs.YtklhgaioolamfaaDoor.Date
open Go.RowKit Base
theorem rem_nat (a b : Nat) : Int.tmod (a : Int) (b : Int) = ((a % b : Nat) : Int) := by
  rw [Int.tmod_eq_emod_of_nonneg (by omega)]; rfl
theorem quo_nat (a b : Nat) : Int.tdiv (a : Int) (b : Int) = ((a / b : Nat) : Int) := by
  rw [Int.tdiv_eq_ediv_of_nonneg (by omega)]; rfl
set_option maxHeartbeats 1600000 in
set_option maxRecDepth 100000 in
theorem rLeap (y : Nat) (w : World) (_hy : y ≤ 9000000000000000000) : Calls Tryd.prog 42 #[.int .i64 (y : Int)] w (AskEnd (leapN y) w) := by
  have e4 : Int.tmod (y : Int) 4 = ((y % 4 : Nat) : Int) := rem_nat y 4
  have e100 : Int.tmod (y : Int) 100 = ((y % 100 : Nat) : Int) := rem_nat y 100
  have e400 : Int.tmod (y : Int) 400 = ((y % 400 : Nat) : Int) := rem_nat y 400
  obtain ⟨a, ha⟩ : ∃ a, a = y % 4 := ⟨_, rfl⟩
  obtain ⟨b, hb⟩ : ∃ b, b = y % 100 := ⟨_, rfl⟩
  obtain ⟨c, hc⟩ : ∃ c, c = y % 400 := ⟨_, rfl⟩
  obtain ⟨L, hL⟩ : ∃ L, L = leapN y := ⟨_, rfl⟩
  have HL : Hid (L = (decide (a = 0) && (decide (b ≠ 0) || decide (c = 0)))) := by show _ = _; rw [hL, ha, hb, hc]; rfl
  rw [← ha] at e4
  rw [← hb] at e100
  rw [← hc] at e400
  rw [← hL]
  clear ha hb hc hL
  go_enter Tryd.func42, Tryd.ntmps42
  go_wp2
  all_goals
    clear e4 e100 e400
    go_ret
    refine ⟨ret_bool ?_, rfl⟩
    rw [HL.out]
    clear HL
    simp_all
  try rw [Bool.eq_iff_iff]
  try simp
set_option maxHeartbeats 1600000 in
set_option maxRecDepth 100000 in
theorem rYd (y : Nat) (w : World) (hy : y ≤ 9000000000000000000) : Calls Tryd.prog 20 #[.int .i64 (y : Int)] w fun e w' => e = .returned (.int .i64 (yd y : Int)) ∧ w = w' := by
  have HL := Lib.hid (rLeap y w hy)
  obtain ⟨L, hL⟩ : ∃ L, L = leapN y := ⟨_, rfl⟩
  obtain ⟨n, hn⟩ : ∃ n, n = yd y := ⟨_, rfl⟩
  have HN : Hid (n = if L = true then 366 else 365) := by show _ = _; rw [hn, hL]; rfl
  rw [← hL] at HL
  rw [← hn]
  clear hL hn hy
  cases L
  · have HN2 : Hid (n = 365) := HN.out
    go_enter Tryd.func20, Tryd.ntmps20
    go_wp2_with (first | (go_at_call 42; refine HL.out.mono ?_; rintro ee w1 ⟨rfl, rfl⟩; refine Hid.out ?_) | fail)
    refine Lib.hid ?_
    go_wp2
    go_ret
    rw [HN2.out]
    exact ⟨rfl, rfl⟩
  · have HN2 : Hid (n = 366) := HN.out
    go_enter Tryd.func20, Tryd.ntmps20
    go_wp2_with (first | (go_at_call 42; refine HL.out.mono ?_; rintro ee w1 ⟨rfl, rfl⟩; refine Hid.out ?_) | fail)
    refine Lib.hid ?_
    go_wp2
    go_ret
    rw [HN2.out]
    exact ⟨rfl, rfl⟩
abbrev mCells : Array Value := #[.int .i64 31, .int .i64 28, .int .i64 31, .int .i64 30, .int .i64 31, .int .i64 30, .int .i64 31, .int .i64 31, .int .i64 30, .int .i64 31, .int .i64 30, .int .i64 31]
theorem m_cell (w : World) (k : Nat) (hk : k < 12) : (w.alloc (.cells mCells 3)).cell? ⟨w.heap.size, k, none⟩ = some (.int .i64 (mtab.getD k 0 : Int)) := by
  have h0 : (w.alloc (.cells mCells 3)).heap[w.heap.size]? = some (.cells mCells 3 (0, 0)) := by
    show (w.heap.push _)[w.heap.size]? = _
    simp
  unfold World.cell?
  rw [h0]
  show mCells[k]? = _
  have : ∀ k < 12, mCells[k]? = some (.int .i64 (mtab.getD k 0 : Int)) := by
    intro k hk
    rcases (by omega : k = 0 ∨ k = 1 ∨ k = 2 ∨ k = 3 ∨ k = 4 ∨ k = 5 ∨ k = 6 ∨ k = 7 ∨ k = 8 ∨ k = 9 ∨ k = 10 ∨ k = 11) with rfl | rfl | rfl | rfl | rfl | rfl | rfl | rfl | rfl | rfl | rfl | rfl <;> rfl
  exact this k hk
set_option maxHeartbeats 1600000 in
set_option maxRecDepth 100000 in
theorem rMd (y m : Nat) (w : World) (hy : y ≤ 9000000000000000000) (h1 : 1 ≤ m) (h2 : m ≤ 12) : Calls Tryd.prog 21 #[.int .i64 (y : Int), .int .i64 (m : Int)] w fun e w' => e = .returned (.int .i64 (md y m : Int)) ∧ Below w.heap.size w w' := by
  obtain ⟨k, rfl⟩ : ∃ k, m = k + 1 := ⟨m - 1, by omega⟩
  have HB : Hid (Below w.heap.size w (w.alloc (.cells mCells 3))) := Below.alloc1 w _
  have HL : Hid (∀ w1, Calls Tryd.prog 42 #[.int .i64 (y : Int)] w1 (AskEnd (leapN y) w1)) := fun w1 => rLeap y w1 hy
  obtain ⟨L, hL⟩ : ∃ L, L = leapN y := ⟨_, rfl⟩
  obtain ⟨n, hn⟩ : ∃ n, n = md y (k + 1) := ⟨_, rfl⟩
  have HN : Hid (n = if k + 1 = 2 ∧ L = true then 29 else mtab.getD k 0) := by show _ = _; rw [hn, hL]; rfl
  rw [← hL] at HL
  rw [← hn]
  have hk : k < 12 := by omega
  have hcell := m_cell w k hk
  obtain ⟨q, hq⟩ : ∃ q, q = mtab.getD k 0 := ⟨_, rfl⟩
  rw [← hq] at HN hcell
  have hk2 : (k : Int) < 12 := by omega
  have e1 : (k : Int) + 1 - 1 = (k : Int) := by omega
  have k0 : (0 : Int) ≤ (k : Int) := by omega
  clear hL hn hy h1 h2 hq
  by_cases h2 : k = 1
  · subst h2
    cases L
    · have HN2 : Hid (n = q) := HN.out
      clear HN
      go_enter Tryd.func21, Tryd.ntmps21
      go_wp2_with (first | (go_at_call 42; refine (HL.out _).mono ?_; rintro ee w1 ⟨rfl, rfl⟩; refine Hid.out ?_) | fail)
      refine Lib.hid ?_
      go_wp2
      go_ret
      rw [HN2.out]
      exact ⟨rfl, HB.out⟩
    · have HN2 : Hid (n = 29) := HN.out
      clear HN
      go_enter Tryd.func21, Tryd.ntmps21
      go_wp2_with (first | (go_at_call 42; refine (HL.out _).mono ?_; rintro ee w1 ⟨rfl, rfl⟩; refine Hid.out ?_) | fail)
      refine Lib.hid ?_
      go_wp2
      go_ret
      rw [HN2.out]
      exact ⟨rfl, HB.out⟩
  · have HN2 : Hid (n = q) := by show _ = _; rw [HN.out, if_neg (by omega)]
    have h3 : ((k : Int) + 1 == 2) = false := by rw [beq_eq_false_iff_ne]; omega
    clear HN h2
    go_enter Tryd.func21, Tryd.ntmps21
    go_wp2
    go_ret
    rw [HN2.out]
    exact ⟨rfl, HB.out⟩
theorem no_tick {t : Int} (h : t < 0 ∨ 253402300799 < t) : (t < 0) ∨ (¬ t < 0 ∧ 253402300799 < t) := by omega
def DayEnd (t : Int) (w : World) (e : Ending) (w' : World) : Prop := (if t < 0 ∨ 253402300799 < t then e = .returned (.tuple #[.int .i64 0, .int .i64 130]) else e = .returned (.tuple #[.int .i64 (dayOf t.toNat : Int), .int .i64 0])) ∧ w = w'
set_option maxHeartbeats 1600000 in
set_option maxRecDepth 100000 in
theorem rDay (t : Int) (w : World) : Calls Tryd.prog 12 #[.int .i64 t] w (DayEnd t w) := by
  by_cases h : t < 0 ∨ 253402300799 < t
  · have HD : Hid (∀ e w', DayEnd t w e w' = ((e = .returned (.tuple #[.int .i64 0, .int .i64 130])) ∧ w = w')) := fun e w' => by unfold DayEnd; rw [if_pos h]
    rcases no_tick h with h1 | ⟨h1, h2⟩
    · clear h
      go_enter Tryd.func12, Tryd.ntmps12
      go_wp2
      go_ret2
      rw [HD.out]
      exact ⟨rfl, rfl⟩
    · clear h
      go_enter Tryd.func12, Tryd.ntmps12
      go_wp2
      go_ret2
      rw [HD.out]
      exact ⟨rfl, rfl⟩
  · obtain ⟨n, rfl⟩ := Int.eq_ofNat_of_zero_le (show 0 ≤ t by omega)
    have HD : Hid (∀ e w', DayEnd (n : Int) w e w' = ((e = .returned (.tuple #[.int .i64 ((dayOf n : Nat) : Int), .int .i64 0])) ∧ w = w')) := fun e w' => by unfold DayEnd; rw [if_neg h, Int.toNat_natCast]
    have h1 : ¬ (n : Int) < 0 := by omega
    have h2 : ¬ 253402300799 < (n : Int) := by omega
    have e1 : Int.tdiv (n : Int) 86400 = ((n / 86400 : Nat) : Int) := quo_nat n 86400
    obtain ⟨q, hq⟩ : ∃ q, q = n / 86400 := ⟨_, rfl⟩
    have HQ : Hid (dayOf n = (q + 4) % 7) := by show _ = _; rw [hq]; rfl
    rw [← hq] at e1
    have hqb : q ≤ 253402300799 := by omega
    have e2 : Int.tmod ((q : Int) + 4) 7 = (((q + 4) % 7 : Nat) : Int) := rem_nat (q + 4) 7
    clear h hq
    go_enter Tryd.func12, Tryd.ntmps12
    go_wp2
    go_ret2
    rw [HD.out, HQ.out]
    exact ⟨rfl, rfl⟩
set_option maxHeartbeats 1600000 in
set_option maxRecDepth 100000 in
theorem rTwo (n : Nat) (w : World) (hn : n ≤ 99) : Calls Tryd.prog 26 #[.int .i64 (n : Int)] w fun e w' => e = .returned (S (twoD n)) ∧ Below w.heap.size w w' := by
  have e1 : Int.tdiv (n : Int) 10 = ((n / 10 : Nat) : Int) := quo_nat n 10
  have e2 : Int.tmod (n : Int) 10 = ((n % 10 : Nat) : Int) := rem_nat n 10
  obtain ⟨a, ha⟩ : ∃ a, a = n / 10 := ⟨_, rfl⟩
  obtain ⟨b, hb⟩ : ∃ b, b = n % 10 := ⟨_, rfl⟩
  have HT : Hid (twoD n = [UInt8.ofNat (48 + a), UInt8.ofNat (48 + b)]) := by show _ = _; rw [ha, hb]; rfl
  rw [← ha] at e1
  rw [← hb] at e2
  have hab : a ≤ 9 := by omega
  have hbb : b ≤ 9 := by omega
  have hz : ∀ k : Nat, k ≤ 9 → (48 + (k : Int)) = (((UInt8.ofNat (48 + k)).toNat : Nat) : Int) := fun k hk => by rw [ofNat_toNat (by omega)]; omega
  have hcv : (convert 35 9 (.slice (some ⟨w.heap.size, 0, none⟩) 2 2)).run Tryd.prog (w.alloc (.cells #[.int .u8 (48 + (a : Int)), .int .u8 (48 + (b : Int))] 5)) = .ok (S (twoD n)) (w.alloc (.cells #[.int .u8 (48 + (a : Int)), .int .u8 (48 + (b : Int))] 5)) := by
    have hr : Reads (w.alloc (.cells #[.int .u8 (48 + (a : Int)), .int .u8 (48 + (b : Int))] 5)) (.slice (some ⟨w.heap.size, 0, none⟩) 2 2) (twoD n) := by
      rw [HT.out]
      refine reads_lit w 5 _ [UInt8.ofNat (48 + a), UInt8.ofNat (48 + b)] 2 rfl ?_ (0, 0)
      rw [hz a hab, hz b hbb]
      rfl
    exact conv_reads hr
  have HB : Hid (Below w.heap.size w (w.alloc (.cells #[.int .u8 (48 + (a : Int)), .int .u8 (48 + (b : Int))] 5))) := Below.alloc1 w _
  clear ha hb hn hz
  go_enter Tryd.func26, Tryd.ntmps26
  go_wp2
  go_ret
  exact ⟨rfl, HB.out⟩
end Go.Proofs.YtklhgaioolamfaaDoor.Date
