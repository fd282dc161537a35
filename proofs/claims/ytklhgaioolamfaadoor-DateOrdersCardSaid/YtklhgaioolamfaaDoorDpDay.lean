/-
  DATE, the program: Day, Civil.
-/
import Derived.Test.YtklhgaioolamfaaDoorDpCvl
import Derived.Deep.CutBlock
import Derived.Deep.DeepCutAuto
namespace Go.Proofs.YtklhgaioolamfaaDoor.Date
open Go.RowKit Base
theorem ptick_no {t : Int} (h : t < 0 ∨ 253402300799 < t) : isTick t = false := by unfold isTick; rcases h with h | h <;> simp <;> omega
theorem ptick_yes {t : Int} (h : ¬ (t < 0 ∨ 253402300799 < t)) : isTick t = true := by unfold isTick; simp; omega
theorem week_day (n : Nat) : weekZ ((n / 86400 : Nat) : Int) = (dayOf n : Int) := by
  unfold weekZ dayOf
  have e1 : Int.tmod (((n / 86400 : Nat) : Int) + 4) 7 = (((n / 86400 + 4) % 7 : Nat) : Int) := rem_nat (n / 86400 + 4) 7
  rw [e1]
  have e2 : Int.tmod ((((n / 86400 + 4) % 7 : Nat) : Int) + 7) 7 = ((((n / 86400 + 4) % 7 + 7) % 7 : Nat) : Int) := rem_nat ((n / 86400 + 4) % 7 + 7) 7
  rw [e2]
  congr 1
  omega
def DayBel (t : Int) (w : World) (e : Ending) (w' : World) : Prop := ∃ w2, DayEnd t w2 e w2 ∧ Below w.heap.size w w'
set_option maxHeartbeats 1600000 in
set_option maxRecDepth 100000 in
theorem pDay (t : Int) (w : World) : Calls Tryd.prog 11 #[.int .i64 t] w (DayBel t w) := by
  have HT := Lib.hid (pTick t w)
  by_cases h : t < 0 ∨ 253402300799 < t
  · have HD : Hid (∀ e w', DayEnd t w e w' = ((e = .returned (.tuple #[.int .i64 0, .int .i64 130])) ∧ w = w')) := fun e w' => by unfold DayEnd; rw [if_pos h]
    have hk := ptick_no h
    rw [hk] at HT
    clear h hk
    go_enter Tryd.func11, Tryd.ntmps11
    go_wp2_with (first | (go_at_call 17; refine HT.out.mono ?_; rintro ee w1 ⟨rfl, rfl⟩; refine Hid.out ?_) | fail)
    refine Lib.hid ?_
    go_wp2
    go_ret2
    refine ⟨w, ?_, Below.refl _ _⟩
    rw [HD.out]
    exact ⟨rfl, rfl⟩
  · obtain ⟨n, rfl⟩ := Int.eq_ofNat_of_zero_le (show 0 ≤ t by omega)
    have hn : n ≤ 253402300799 := by omega
    have HD : Hid (∀ e w', DayEnd (n : Int) w e w' = ((e = .returned (.tuple #[.int .i64 ((dayOf n : Nat) : Int), .int .i64 0])) ∧ w = w')) := fun e w' => by unfold DayEnd; rw [if_neg h, Int.toNat_natCast]
    have e1 : Int.tdiv (n : Int) 86400 = ((n / 86400 : Nat) : Int) := quo_nat n 86400
    have HW : Hid (∀ w1, Calls Tryd.prog 22 #[.int .i64 ((n / 86400 : Nat) : Int)] w1 fun e w' => e = .returned (.int .i64 ((dayOf n : Nat) : Int)) ∧ w1 = w') := fun w1 => by
      rw [← week_day]; exact pWeek _ w1 (by omega) (by omega)
    have hk := ptick_yes h
    rw [hk] at HT
    have hqb : n / 86400 ≤ 253402300799 := by omega
    generalize n / 86400 = q at e1 HW hqb
    clear h hk
    go_enter Tryd.func11, Tryd.ntmps11
    go_wp2_with (first | (go_at_call 17; refine HT.out.mono ?_; rintro ee w1 ⟨rfl, rfl⟩; refine Hid.out ?_) | fail)
    refine Lib.hid ?_
    go_wp2_with (first | (go_at_call 22; refine (HW.out _).mono ?_; rintro ee w1 ⟨rfl, rfl⟩; refine Hid.out ?_) | fail)
    refine Lib.hid ?_
    go_wp2
    go_ret2
    refine ⟨w, ?_, Below.refl _ _⟩
    rw [HD.out]
    exact ⟨rfl, rfl⟩
set_option maxHeartbeats 8000000 in
set_option maxRecDepth 100000 in
theorem pCivil (t : Int) (w : World) (hv : Vars w) : Calls Tryd.prog 9 #[.int .i64 t] w (CivEnd t w) := by
  have HT := Lib.hid (pTick t)
  by_cases h : t < 0 ∨ 253402300799 < t
  · have HD : Hid (∀ e w', CivEnd t w e w' = ((e = .returned (.tuple #[.agg (sixV 0 0 0 0 0 0), .int .i64 130])) ∧ Below w.heap.size w w')) := fun e w' => by unfold CivEnd; rw [if_pos h]
    have hk := ptick_no h
    rw [hk] at HT
    clear h hk
    go_enter Tryd.func9, Tryd.ntmps9
    go_wp2_with (first | (go_at_call 17; refine (HT.out _).mono ?_; rintro ee w1 ⟨rfl, rfl⟩; refine Hid.out ?_) | fail)
    refine Lib.hid ?_
    go_wp2
    refine bodyPost_ret (results_civ Tryd.results9 rfl rfl (MapKept.heap_alloc w _).1) rfl ?_
    rw [HD.out]
    exact ⟨rfl, Below.alloc1 w _⟩
  · obtain ⟨n, rfl⟩ := Int.eq_ofNat_of_zero_le (show 0 ≤ t by omega)
    have hn : n ≤ 253402300799 := by omega
    have HD : Hid (∀ e w', CivEnd (n : Int) w e w' = ((e = .returned (.tuple #[civV (civOf n), .int .i64 0])) ∧ Below w.heap.size w w')) := fun e w' => by unfold CivEnd; rw [if_neg (by omega), Int.toNat_natCast]
    have hk := ptick_yes h
    rw [hk] at HT
    have e1 : Int.tdiv (n : Int) 86400 = ((n / 86400 : Nat) : Int) := quo_nat n 86400
    have e2 : Int.tmod (n : Int) 86400 = ((n % 86400 : Nat) : Int) := rem_nat n 86400
    have HCV : Hid (∀ w1, Vars w1 → Calls Tryd.prog 18 #[.int .i64 ((n / 86400 : Nat) : Int)] w1 fun e w' => e = .returned (.agg (threeV (civOf n).y (civOf n).m (civOf n).d)) ∧ Below w1.heap.size w1 w') := fun w1 h1 => pCivD n w1 h1 hn
    have HCK : Hid (∀ w1, Calls Tryd.prog 19 #[.int .i64 ((n % 86400 : Nat) : Int)] w1 fun e w' => e = .returned (.agg (threeV (civOf n).h (civOf n).mi (civOf n).s)) ∧ Below w1.heap.size w1 w') := fun w1 => pClk (n % 86400) w1 (by omega)
    have HVC : Hid (civV (civOf n) = .agg (sixV (civOf n).y (civOf n).m (civOf n).d (civOf n).h (civOf n).mi (civOf n).s)) := rfl
    have hq1 : n / 86400 ≤ 253402300799 := by omega
    have hq2 : n % 86400 ≤ 253402300799 := by omega
    generalize n / 86400 = q at e1 HCV hq1
    generalize n % 86400 = r at e2 HCK hq2
    generalize civOf n = C at HCV HCK HVC HD
    obtain ⟨cy, cm, cd, ch, ci, cs⟩ := C
    obtain ⟨w0, hw0⟩ : ∃ w0, w0 = w.alloc zeroO := ⟨_, rfl⟩
    have HB0 : Hid (Below w.heap.size w w0) := by show Below _ _ _; rw [hw0]; exact Below.alloc1 w _
    have HV0 : Hid (Vars w0) := hv.on HB0.out
    have HZ0 : Hid (w0.heap[w.heap.size]? = some zeroO) := by show _ = _; rw [hw0]; exact (MapKept.heap_alloc w _).1
    have HT0 := Lib.hid (HT.out w0)
    have HC0 := Lib.hid (HCV.out w0 HV0.out)
    rw [hw0] at HC0 HT0
    clear h hk hn hv HCV HT
    go_enter Tryd.func9, Tryd.ntmps9
    go_wp2_with (first | (go_at_call 17; refine HT0.out.mono ?_; rintro ee w1 ⟨rfl, rfl⟩; refine Hid.out ?_) | fail)
    refine Lib.hid ?_
    go_wp2_with (first | (go_at_call 18; refine HC0.out.mono ?_; rintro ee w1 ⟨rfl, hb1⟩; refine Hid.out ?_) | fail)
    refine Lib.hid ?_
    have HB1 : Hid (Below w.heap.size w w1) := HB0.out.trans (by rw [hw0]; exact hb1.mono (Below.alloc1 w _).size)
    have HZ1 : Hid (w1.heap[w.heap.size]? = some zeroO) := by
      have hz : (w.alloc zeroO).heap[w.heap.size]? = some zeroO := (MapKept.heap_alloc w _).1
      exact (hb1.block _ (heap_lt hz)).trans hz
    clear hb1 hw0 HB0 HV0 HZ0 HC0 HT0
    go_wp2_with (first | (go_at_call 19; refine (HCK.out _).mono ?_; rintro ee w2 ⟨rfl, hb2⟩; refine Hid.out ?_) | fail)
    refine Lib.hid ?_
    obtain ⟨g, hg⟩ : ∃ g, g = w.heap.size := ⟨_, rfl⟩
    have HG := Lib.hid hg
    have HB2 : Hid (Below w.heap.size w w2) := HB1.out.trans (hb2.mono HB1.out.size)
    have HZ2 : Hid (w2.heap[g]? = some zeroO) := by rw [hg]; exact (hb2.block _ (heap_lt HZ1.out)).trans HZ1.out
    rw [← hg]
    clear hb2 hg HB1 HZ1
    obtain ⟨w3, hw3⟩ : ∃ w3, w3 = (w2.alloc (.cells (threeV cy cm cd) 37 (0, 0))).alloc (.cells (threeV ch ci cs) 37 (0, 0)) := ⟨_, rfl⟩
    obtain ⟨g4, hg4⟩ : ∃ g4, g4 = w2.heap.size := ⟨_, rfl⟩
    obtain ⟨g5, hg5⟩ : ∃ g5, g5 = g4 + 1 := ⟨_, rfl⟩
    have b34 := Below.alloc1 w2 (.cells (threeV cy cm cd) 37 (0, 0))
    have b45 := Below.alloc1 (w2.alloc (.cells (threeV cy cm cd) 37 (0, 0))) (.cells (threeV ch ci cs) 37 (0, 0))
    have HB3 : Hid (Below w.heap.size w w3) := by show Below _ _ _; rw [hw3]; exact (HB2.out.trans (b34.mono HB2.out.size)).trans (b45.mono (HB2.out.trans (b34.mono HB2.out.size)).size)
    have hr4 : (w2.alloc (.cells (threeV cy cm cd) 37 (0, 0))).heap[w2.heap.size]? = some (.cells (threeV cy cm cd) 37 (0, 0)) := (MapKept.heap_alloc w2 _).1
    have hr5 : w3.heap[g5]? = some (.cells (threeV ch ci cs) 37 (0, 0)) := by
      have := (MapKept.heap_alloc (w2.alloc (.cells (threeV cy cm cd) 37 (0, 0))) (.cells (threeV ch ci cs) 37 (0, 0))).1
      rw [hw3, hg5, hg4]
      rw [show (w2.alloc (.cells (threeV cy cm cd) 37 (0, 0))).heap.size = w2.heap.size + 1 from Array.size_push _] at this
      exact this
    have hr4' : w3.heap[g4]? = some (.cells (threeV cy cm cd) 37 (0, 0)) := by rw [hw3, hg4]; exact (b45.block _ (heap_lt hr4)).trans hr4
    have hz3 : w3.heap[g]? = some zeroO := by
      rw [hw3]
      exact (b45.block g (heap_lt ((b34.block g (heap_lt HZ2.out)).trans HZ2.out))).trans ((b34.block g (heap_lt HZ2.out)).trans HZ2.out)
    have HZ3 := Lib.hid hz3
    have c0 := cell_of_row w3 g 0 _ _ _ hz3
    have c1 := cell_of_row w3 g 1 _ _ _ hz3
    have c2 := cell_of_row w3 g 2 _ _ _ hz3
    have c3 := cell_of_row w3 g 3 _ _ _ hz3
    have c4 := cell_of_row w3 g 4 _ _ _ hz3
    have c5 := cell_of_row w3 g 5 _ _ _ hz3
    have fz : ∀ i, w3.frozen? ⟨g, i, none⟩ = false := fun i => by simp [World.frozen?, hz3]
    have f0 := fz 0
    have f1 := fz 1
    have f2 := fz 2
    have f3 := fz 3
    have f4 := fz 4
    have f5 := fz 5
    have d0 := cell_of_row w3 g4 0 _ _ _ hr4'
    have d1 := cell_of_row w3 g4 1 _ _ _ hr4'
    have d2 := cell_of_row w3 g4 2 _ _ _ hr4'
    have d3 := cell_of_row w3 g5 0 _ _ _ hr5
    have d4 := cell_of_row w3 g5 1 _ _ _ hr5
    have d5 := cell_of_row w3 g5 2 _ _ _ hr5
    clear hz3 fz hr4 hr4' hr5 b34 b45 HB2 HZ2 HCK
    go_upto_region 4 with fail
    rw [← hw3, ← hg4, ← hg5]
    clear hw3 hg4 hg5
    go_wp2
    have HF := set_six (set_six (set_six (set_six (set_six (set_six HZ3.out 0 (.int .i64 (cy : Int))) 1 (.int .i64 (cm : Int))) 2 (.int .i64 (cd : Int))) 3 (.int .i64 (ch : Int))) 4 (.int .i64 (ci : Int))) 5 (.int .i64 (cs : Int))
    have hn : w.heap.size ≤ g := by rw [HG.out]; exact Nat.le_refl _
    have HBF := (((((HB3.out.setCell (p := ⟨g, 0, none⟩) hn (.int .i64 (cy : Int))).setCell (p := ⟨g, 1, none⟩) hn (.int .i64 (cm : Int))).setCell (p := ⟨g, 2, none⟩) hn (.int .i64 (cd : Int))).setCell (p := ⟨g, 3, none⟩) hn (.int .i64 (ch : Int))).setCell (p := ⟨g, 4, none⟩) hn (.int .i64 (ci : Int))).setCell (p := ⟨g, 5, none⟩) hn (.int .i64 (cs : Int))
    refine bodyPost_ret (results_civ Tryd.results9 rfl rfl HF) rfl ?_
    rw [HD.out, HVC.out]
    exact ⟨rfl, HBF⟩
end Go.Proofs.YtklhgaioolamfaaDoor.Date
