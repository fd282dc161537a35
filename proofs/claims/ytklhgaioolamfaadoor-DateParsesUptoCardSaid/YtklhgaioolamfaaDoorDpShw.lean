/-
  DATE, the program: Show. (Written by gen_pshow.py.)
-/
import Derived.Test.YtklhgaioolamfaaDoorDpTwo
import Derived.Test.YtklhgaioolamfaaDoorDpDay
import Derived.Test.YtklhgaioolamfaaDoorDatShw
import Derived.Deep.RegionHeld3
import Derived.Deep.CutBlock
import Derived.Deep.DeepCutAuto
namespace Go.Proofs.YtklhgaioolamfaaDoor.Date
open Go.RowKit Base
set_option maxHeartbeats 4000000 in
set_option maxRecDepth 100000 in
theorem pShowNo0 (t : Int) (w : World) (h : t < 0 ∨ 253402300799 < t) : Calls Tryd.prog 13 #[.int .i64 t] w (ShowEnd t w) := by
  have HD : Hid (∀ e w', ShowEnd t w e w' = ((e = .returned (.tuple #[S [], .int .i64 130])) ∧ Below w.heap.size w w')) := fun e w' => by unfold ShowEnd; rw [if_pos h]
  have HT := Lib.hid (pTick t w)
  rw [ptick_no h] at HT
  clear h
  go_enter Tryd.func13, Tryd.ntmps13
  go_wp2_with (first | (go_at_call 17; refine HT.out.mono ?_; rintro ee w1 ⟨rfl, rfl⟩; refine Hid.out ?_) | fail)
  refine Lib.hid ?_
  go_wp2
  go_ret2
  rw [HD.out]
  exact ⟨rfl, Below.refl _ _⟩
/-- The date's and the time's blocks stand, and the variables. -/
structure SH (w : World) (g4 g5 : Nat) (c : Civ) (w' : World) : Prop where
  bel : Below w.heap.size w w'
  r4 : w'.heap[g4]? = some (.cells (threeV c.y c.m c.d) 37 (0, 0))
  r5 : w'.heap[g5]? = some (.cells (threeV c.h c.mi c.s) 37 (0, 0))
  vars : Vars w'
theorem SH.keep {w w1 w2 : World} {g4 g5 : Nat} {c : Civ} (h : SH w g4 g5 c w1) (hb : Below w1.heap.size w1 w2) : SH w g4 g5 c w2 := ⟨h.bel.trans (hb.mono h.bel.size), (hb.block g4 (heap_lt h.r4)).trans h.r4, (hb.block g5 (heap_lt h.r5)).trans h.r5, h.vars.on hb⟩
theorem SH.c0 {w w' : World} {g4 g5 : Nat} {c : Civ} (h : SH w g4 g5 c w') : w'.cell? ⟨g4, 0, none⟩ = some (.int .i64 (c.y : Int)) := cell_of_row w' g4 0 _ _ _ h.r4
theorem SH.c1 {w w' : World} {g4 g5 : Nat} {c : Civ} (h : SH w g4 g5 c w') : w'.cell? ⟨g4, 1, none⟩ = some (.int .i64 (c.m : Int)) := cell_of_row w' g4 1 _ _ _ h.r4
theorem SH.c2 {w w' : World} {g4 g5 : Nat} {c : Civ} (h : SH w g4 g5 c w') : w'.cell? ⟨g4, 2, none⟩ = some (.int .i64 (c.d : Int)) := cell_of_row w' g4 2 _ _ _ h.r4
theorem SH.c3 {w w' : World} {g4 g5 : Nat} {c : Civ} (h : SH w g4 g5 c w') : w'.cell? ⟨g5, 0, none⟩ = some (.int .i64 (c.h : Int)) := cell_of_row w' g5 0 _ _ _ h.r5
theorem SH.c4 {w w' : World} {g4 g5 : Nat} {c : Civ} (h : SH w g4 g5 c w') : w'.cell? ⟨g5, 1, none⟩ = some (.int .i64 (c.mi : Int)) := cell_of_row w' g5 1 _ _ _ h.r5
theorem SH.c5 {w w' : World} {g4 g5 : Nat} {c : Civ} (h : SH w g4 g5 c w') : w'.cell? ⟨g5, 2, none⟩ = some (.int .i64 (c.s : Int)) := cell_of_row w' g5 2 _ _ _ h.r5
theorem pJoin6 (w : World) (a b c d e f : List UInt8) (hl : (Lib.join [a, b, c, d, e, f] [32]).length ≤ 140737488355328) : Calls Tryd.prog 25 #[.slice (some ⟨w.heap.size, 0, none⟩) 6 6, .string ⟨#[32]⟩] (w.alloc (.cells #[S a, S b, S c, S d, S e, S f] 9)) fun ee w' => ee = .returned (S (Lib.join [a, b, c, d, e, f] [32])) ∧ Below w.heap.size w w' := by
  have hr : (w.alloc (.cells #[S a, S b, S c, S d, S e, S f] 9)).heap[w.heap.size]? = some (.cells #[S a, S b, S c, S d, S e, S f] 9 (0, 0)) := (MapKept.heap_alloc w _).1
  have hj := Tryd.strings_Join w.heap.size 0 6 [⟨a.toArray⟩, ⟨b.toArray⟩, ⟨c.toArray⟩, ⟨d.toArray⟩, ⟨e.toArray⟩, ⟨f.toArray⟩] ⟨#[32]⟩ (w.alloc (.cells #[S a, S b, S c, S d, S e, S f] 9)) (fun j x hx => by
    have hlt := (List.getElem?_eq_some_iff.1 hx).1
    have hlt : j < 6 := hlt
    rw [Nat.zero_add, cell_of_row _ _ j _ _ _ hr]
    rcases (by omega : j = 0 ∨ j = 1 ∨ j = 2 ∨ j = 3 ∨ j = 4 ∨ j = 5) with rfl | rfl | rfl | rfl | rfl | rfl <;> (simp at hx; subst hx; rfl)) (heap_lt hr) (by show (6 : Nat) ≤ _; decide) (by show (6 : Nat) ≤ 6; decide) hl
  refine hj.mono fun ee w' h => ⟨h.1, ?_⟩
  have hb := Below.alloc1 w (.cells #[S a, S b, S c, S d, S e, S f] 9)
  exact hb.trans (h.2.mono hb.size)
set_option linter.unusedSimpArgs false in
set_option maxHeartbeats 16000000 in
set_option maxRecDepth 100000 in
theorem pShowYes0 (n : Nat) (w : World) (hv : Vars w) (h : n ≤ 253402300799) : Calls Tryd.prog 13 #[.int .i64 (n : Int)] w (ShowEnd (n : Int) w) := by
  have hno : ¬ ((n : Int) < 0 ∨ 253402300799 < (n : Int)) := by omega
  have HD : Hid (∀ e w', ShowEnd (n : Int) w e w' = ((e = .returned (.tuple #[S (textOf n), .int .i64 0])) ∧ Below w.heap.size w w')) := fun e w' => by unfold ShowEnd; rw [if_neg hno, Int.toNat_natCast]
  obtain ⟨c, hc⟩ : ∃ c, c = civOf n := ⟨_, rfl⟩
  obtain ⟨dn, hdn⟩ : ∃ dn, dn = dayOf n := ⟨_, rfl⟩
  have HT := Lib.hid (pTick (n : Int) w)
  rw [ptick_yes hno] at HT
  have e1 : Int.tdiv (n : Int) 86400 = ((n / 86400 : Nat) : Int) := quo_nat n 86400
  have e2 : Int.tmod (n : Int) 86400 = ((n % 86400 : Nat) : Int) := rem_nat n 86400
  have HW : Hid (∀ w1, Calls Tryd.prog 22 #[.int .i64 ((n / 86400 : Nat) : Int)] w1 fun e w' => e = .returned (.int .i64 ((dn : Nat) : Int)) ∧ w1 = w') := fun w1 => by
    rw [hdn, ← week_day]; exact pWeek _ w1 (by omega) (by omega)
  have HCV : Hid (∀ w1, Vars w1 → Calls Tryd.prog 18 #[.int .i64 ((n / 86400 : Nat) : Int)] w1 fun e w' => e = .returned (.agg (threeV c.y c.m c.d)) ∧ Below w1.heap.size w1 w') := fun w1 h1 => by rw [hc]; exact pCivD n w1 h1 h
  have HCK : Hid (∀ w1, Calls Tryd.prog 19 #[.int .i64 ((n % 86400 : Nat) : Int)] w1 fun e w' => e = .returned (.agg (threeV c.h c.mi c.s)) ∧ Below w1.heap.size w1 w') := fun w1 => by rw [hc]; exact pClk (n % 86400) w1 (by omega)
  have hq1 : n / 86400 ≤ 253402300799 := by omega
  have hq2 : n % 86400 ≤ 253402300799 := by omega
  obtain ⟨fc, _⟩ := civ_spec n
  have hyr2 := civ_year h
  rw [← hc] at fc hyr2
  have hdn7 : dn < 7 := by rw [hdn]; exact Nat.mod_lt _ (by decide)
  have HFR : Hid (textOf n = ((nmAt dayB dn ++ [44]) ++ 32 :: (dgD c.d ++ 32 :: (nmAt monB (c.m - 1) ++ 32 :: ((twoD (c.y / 100) ++ twoD (c.y % 100)) ++ 32 :: (clkD c ++ [32]))))) ++ utcB) := by show _ = _; rw [hc, hdn]; rfl
  generalize n / 86400 = q at e1 HW HCV hq1
  generalize n % 86400 = r at e2 HCK hq2
  have f1 := fc.m1; have f2 := fc.m2; have f3 := fc.d1; have f4 := fc.d2; have f5 := fc.y; have f6 := fc.h; have f7 := fc.mi; have f8 := fc.s
  have f9 := md_le c.y c.m
  have f10 : c.d ≤ 31 := by omega
  have HV0 := Lib.hid hv
  clear hno hc hdn h fc f9 f4 hv
  go_enter Tryd.func13, Tryd.ntmps13
  go_wp2_with (first | (go_at_call 17; refine HT.out.mono ?_; rintro ee w1 ⟨rfl, rfl⟩; refine Hid.out ?_) | fail)
  refine Lib.hid ?_
  go_wp2_with (first | (go_at_call 22; refine (HW.out _).mono ?_; rintro ee w1 ⟨rfl, rfl⟩; refine Hid.out ?_) | fail)
  refine Lib.hid ?_
  go_wp2_with (first | (go_at_call 18; refine (HCV.out _ HV0.out).mono ?_; rintro ee w1 ⟨rfl, hb1⟩; refine Hid.out ?_) | fail)
  refine Lib.hid ?_
  have HB1 := Lib.hid hb1
  have HV1 := Lib.hid (HV0.out.on hb1)
  clear hb1 HV0
  go_wp2_with (first | (go_at_call 19; refine (HCK.out _).mono ?_; rintro ee w2 ⟨rfl, hb2⟩; refine Hid.out ?_) | fail)
  refine Lib.hid ?_
  have HB2 : Hid (Below w.heap.size w w2) := HB1.out.trans (hb2.mono HB1.out.size)
  have HV2 := Lib.hid (HV1.out.on hb2)
  clear hb2 HB1 HV1 HT HW HCV HCK
  obtain ⟨cy, cm, cd, ch, ci, cs⟩ := c
  dsimp only at HFR hyr2 f1 f2 f3 f5 f6 f7 f8 f10
  obtain ⟨w3, hw3⟩ : ∃ w3, w3 = (w2.alloc (.cells (threeV cy cm cd) 37 (0, 0))).alloc (.cells (threeV ch ci cs) 37 (0, 0)) := ⟨_, rfl⟩
  obtain ⟨g4, hg4⟩ : ∃ g4, g4 = w2.heap.size := ⟨_, rfl⟩
  obtain ⟨g5, hg5⟩ : ∃ g5, g5 = g4 + 1 := ⟨_, rfl⟩
  have b34 := Below.alloc1 w2 (.cells (threeV cy cm cd) 37 (0, 0))
  have b45 := Below.alloc1 (w2.alloc (.cells (threeV cy cm cd) 37 (0, 0))) (.cells (threeV ch ci cs) 37 (0, 0))
  have hb24 := b34.trans (b45.mono b34.size)
  have hr4 : (w2.alloc (.cells (threeV cy cm cd) 37 (0, 0))).heap[w2.heap.size]? = some (.cells (threeV cy cm cd) 37 (0, 0)) := (MapKept.heap_alloc w2 _).1
  have hr5 : w3.heap[g5]? = some (.cells (threeV ch ci cs) 37 (0, 0)) := by
    have := (MapKept.heap_alloc (w2.alloc (.cells (threeV cy cm cd) 37 (0, 0))) (.cells (threeV ch ci cs) 37 (0, 0))).1
    rw [hw3, hg5, hg4]
    rw [show (w2.alloc (.cells (threeV cy cm cd) 37 (0, 0))).heap.size = w2.heap.size + 1 from Array.size_push _] at this
    exact this
  have hr4' : w3.heap[g4]? = some (.cells (threeV cy cm cd) 37 (0, 0)) := by rw [hw3, hg4]; exact (b45.block _ (heap_lt hr4)).trans hr4
  have HS3 : Hid (SH w g4 g5 ⟨cy, cm, cd, ch, ci, cs⟩ w3) := by
    refine ⟨?_, hr4', hr5, ?_⟩
    · rw [hw3]; exact HB2.out.trans (hb24.mono HB2.out.size)
    · rw [hw3]; exact HV2.out.on hb24
  clear b34 b45 hb24 hr4 hr5 hr4' HB2 HV2
  go_upto_region 4 with fail
  rw [← hw3, ← hg4, ← hg5]
  clear hw3 hg4 hg5
  obtain ⟨D1, hD1⟩ : ∃ D1, D1 = nmAt dayB dn := ⟨_, rfl⟩
  obtain ⟨M1, hM1⟩ : ∃ M1, M1 = nmAt monB (cm - 1) := ⟨_, rfl⟩
  obtain ⟨G, hG⟩ : ∃ G, G = dgD cd := ⟨_, rfl⟩
  obtain ⟨Y1, hY1⟩ : ∃ Y1, Y1 = twoD (cy / 100) ++ twoD (cy % 100) := ⟨_, rfl⟩
  obtain ⟨A3, hA3⟩ : ∃ A3, A3 = twoD ch := ⟨_, rfl⟩
  obtain ⟨A4, hA4⟩ : ∃ A4, A4 = twoD ci := ⟨_, rfl⟩
  obtain ⟨A5, hA5⟩ : ∃ A5, A5 = twoD cs := ⟨_, rfl⟩
  obtain ⟨Z2, hZ2⟩ : ∃ Z2, Z2 = D1 ++ ([44] : List UInt8) := ⟨_, rfl⟩
  obtain ⟨Z3, hZ3⟩ : ∃ Z3, Z3 = A3 ++ ([58] : List UInt8) := ⟨_, rfl⟩
  obtain ⟨Z4, hZ4⟩ : ∃ Z4, Z4 = Z3 ++ (A4 : List UInt8) := ⟨_, rfl⟩
  obtain ⟨Z5, hZ5⟩ : ∃ Z5, Z5 = Z4 ++ ([58] : List UInt8) := ⟨_, rfl⟩
  obtain ⟨Z6, hZ6⟩ : ∃ Z6, Z6 = Z5 ++ (A5 : List UInt8) := ⟨_, rfl⟩
  have HZF : Hid (textOf n = Lib.join [Z2, G, M1, Y1, Z6, [43, 48, 48, 48, 48]] [32]) := by
    show _ = _
    rw [HFR.out, Lib.join_cons, hZ6, hZ5, hZ4, hZ3, hZ2, hA3, hA4, hA5, hG, hM1, hD1, hY1]
    unfold clkD Lib.joinTail
    simp [List.append_assoc]
  have lD : D1.length ≤ 3 := by rw [hD1]; exact List.length_take_le _ _
  have lM : M1.length ≤ 3 := by rw [hM1]; exact List.length_take_le _ _
  have lG : G.length ≤ 2 := by rw [hG]; unfold dgD; split <;> simp [twoD]
  have lY : Y1.length ≤ 4 := by rw [hY1]; simp [twoD]
  have lA3 : A3.length = 2 := by rw [hA3]; rfl
  have lA4 : A4.length = 2 := by rw [hA4]; rfl
  have lA5 : A5.length = 2 := by rw [hA5]; rfl
  have lZ2 : Z2.length ≤ 4 := by rw [hZ2, List.length_append]; simp only [List.length_cons, List.length_nil]; omega
  have lZ3 : Z3.length ≤ 3 := by rw [hZ3, List.length_append]; simp only [List.length_cons, List.length_nil]; omega
  have lZ4 : Z4.length ≤ 5 := by rw [hZ4, List.length_append]; omega
  have lZ5 : Z5.length ≤ 6 := by rw [hZ5, List.length_append]; simp only [List.length_cons, List.length_nil]; omega
  have lZ6 : Z6.length ≤ 8 := by rw [hZ6, List.length_append]; omega
  have HZ2 := Lib.hid hZ2
  have HLZ2 : Hid (Z2.length ≤ 1000) := by show _ ≤ _; omega
  have HZ3 := Lib.hid hZ3
  have HLZ3 : Hid (Z3.length ≤ 1000) := by show _ ≤ _; omega
  have HZ4 := Lib.hid hZ4
  have HLZ4 : Hid (Z4.length ≤ 1000) := by show _ ≤ _; omega
  have HZ5 := Lib.hid hZ5
  have HLZ5 : Hid (Z5.length ≤ 1000) := by show _ ≤ _; omega
  have HZ6 := Lib.hid hZ6
  have HLZ6 : Hid (Z6.length ≤ 1000) := by show _ ≤ _; omega
  have HJL : Hid ((Lib.join [Z2, G, M1, Y1, Z6, [43, 48, 48, 48, 48]] [32]).length ≤ 140737488355328) := by
    show _ ≤ _
    rw [Lib.join_cons]
    unfold Lib.joinTail
    simp
    omega
  have HI1 : Hid (∀ w1, Calls Tryd.prog 23 #[.int .i64 (cd : Int)] w1 fun e w' => e = .returned (S G) ∧ w1 = w') := fun w1 => by rw [hG]; exact pItoa cd w1 (by omega)
  have HI2 : Hid (∀ w1, Vars w1 → Calls Tryd.prog 23 #[.int .i64 (cy : Int)] w1 fun e w' => e = .returned (S Y1) ∧ Below w1.heap.size w1 w') := fun w1 h1 => by rw [hY1]; exact pItoaY cy w1 h1 (by omega) (by omega)
  have HT3 : Hid (∀ w1, Calls Tryd.prog 24 #[.int .i64 (ch : Int)] w1 fun e w' => e = .returned (S A3) ∧ w1 = w') := fun w1 => by rw [hA3]; exact pTwo ch w1 (by omega)
  have HT4 : Hid (∀ w1, Calls Tryd.prog 24 #[.int .i64 (ci : Int)] w1 fun e w' => e = .returned (S A4) ∧ w1 = w') := fun w1 => by rw [hA4]; exact pTwo ci w1 (by omega)
  have HT5 : Hid (∀ w1, Calls Tryd.prog 24 #[.int .i64 (cs : Int)] w1 fun e w' => e = .returned (S A5) ∧ w1 = w') := fun w1 => by rw [hA5]; exact pTwo cs w1 (by omega)
  obtain ⟨mb, hmb⟩ : ∃ mb, cm = mb + 1 := ⟨cm - 1, by omega⟩
  have x1 : IntKind.i64.wrap ((cm : Int) - 1) = (mb : Int) := by rw [hmb]; exact (IntWalk.i64_in _ (by omega)).trans (by omega)
  have HDC : Hid (∀ w1, Vars w1 → w1.cell? ⟨0, dn, none⟩ = some (S D1)) := fun w1 h1 => by rw [hD1]; exact h1.day dn hdn7
  have HMC : Hid (∀ w1, Vars w1 → w1.cell? ⟨1, mb, none⟩ = some (S M1)) := fun w1 h1 => by rw [hM1, hmb, Nat.add_sub_cancel]; exact h1.mon mb (by omega)
  have y1 : (0 : Int) ≤ (dn : Int) := by omega
  have y2 : (dn : Int) < 7 := by omega
  have y3 : (0 : Int) ≤ (mb : Int) := by omega
  have y4 : (mb : Int) < 12 := by omega
  clear hZ2 hZ3 hZ4 hZ5 hZ6 lZ2 lZ3 lZ4 lZ5 lZ6 hG hM1 hY1 hD1 hA3 hA4 hA5 lG lM lD lY lA3 lA4 lA5 hmb HFR f1 f2 f3 f5 f6 f7 f8 f10 hyr2 hdn7 e1 e2 hq1 hq2
  have HST : Hid (SH w g4 g5 ⟨cy, cm, cd, ch, ci, cs⟩ w3.drew) := HS3.out.keep ⟨rfl, rfl, rfl, Nat.le_refl _, fun _ _ => rfl⟩
  refine wp_region_noPanic ?_
  refine wp_region_held_drew (S := (SH w g4 g5 ⟨cy, cm, cd, ch, ci, cs⟩)) (by kernel_rfl) HST.out (fun hHeld => ?_)
  refine wpAnyH_take (i := 0) (v := ?vz1) rfl (by kernel_rfl) (by kernel_rfl) (by kernel_rfl) (fun _ _ _ h => h) (Or.inl ⟨by rfl, ?hyz1⟩) (by assumption) ?restz1
  case hyz1 => (intro w hSw; (try dsimp only at hSw); have hC0 := hSw.c0; have hC1 := hSw.c1; have hC2 := hSw.c2; have hC3 := hSw.c3; have hC4 := hSw.c4; have hC5 := hSw.c5; have hCD := HDC.out _ hSw.vars; have hCM := HMC.out _ hSw.vars; dsimp only at hC0 hC1 hC2 hC3 hC4 hC5; go_simp; try with_reducible rfl)
  (try simp only [Act.put, List.getElem_toArray, List.getElem_cons_succ, List.getElem_cons_zero, List.setIfInBounds_toArray, List.set_cons_zero, List.set_cons_succ])
  refine wpAnyH_take (i := 1) (v := ?vz2) rfl (by kernel_rfl) (by kernel_rfl) (by kernel_rfl) (fun _ _ _ h => h) (Or.inl ⟨by rfl, ?hyz2⟩) (by assumption) ?restz2
  case hyz2 => (intro w hSw; (try dsimp only at hSw); have hC0 := hSw.c0; have hC1 := hSw.c1; have hC2 := hSw.c2; have hC3 := hSw.c3; have hC4 := hSw.c4; have hC5 := hSw.c5; have hCD := HDC.out _ hSw.vars; have hCM := HMC.out _ hSw.vars; dsimp only at hC0 hC1 hC2 hC3 hC4 hC5; go_simp; try with_reducible rfl)
  (try simp only [Act.put, List.getElem_toArray, List.getElem_cons_succ, List.getElem_cons_zero, List.setIfInBounds_toArray, List.set_cons_zero, List.set_cons_succ])
  refine wpAnyH_take (i := 2) (v := ?vz3) rfl (by kernel_rfl) (by kernel_rfl) (by kernel_rfl) (fun _ _ _ h => h) (Or.inl ⟨by rfl, ?hyz3⟩) (by assumption) ?restz3
  case hyz3 => (intro w hSw; (try dsimp only at hSw); have hC0 := hSw.c0; have hC1 := hSw.c1; have hC2 := hSw.c2; have hC3 := hSw.c3; have hC4 := hSw.c4; have hC5 := hSw.c5; have hCD := HDC.out _ hSw.vars; have hCM := HMC.out _ hSw.vars; dsimp only at hC0 hC1 hC2 hC3 hC4 hC5; go_simp; try with_reducible rfl)
  (try simp only [Act.put, List.getElem_toArray, List.getElem_cons_succ, List.getElem_cons_zero, List.setIfInBounds_toArray, List.set_cons_zero, List.set_cons_succ])
  refine wpAnyH_take (i := 3) rfl (by kernel_rfl) (by kernel_rfl) (by kernel_rfl) (fun _ _ _ h => h) (Or.inl ⟨by rfl, fun w' _ => exec_addS (x := D1) (y := [44]) (z := Z2) rfl rfl rfl HZ2.out HLZ2.out w'⟩) (by assumption) ?_
  (try simp only [Act.put, List.getElem_toArray, List.getElem_cons_succ, List.getElem_cons_zero, List.setIfInBounds_toArray, List.set_cons_zero, List.set_cons_succ])
  refine wpAnyH_take (i := 4) (v := ?vz5) rfl (by kernel_rfl) (by kernel_rfl) (by kernel_rfl) (fun _ _ _ h => h) (Or.inl ⟨by rfl, ?hyz5⟩) (by assumption) ?restz5
  case hyz5 => (intro w hSw; (try dsimp only at hSw); have hC0 := hSw.c0; have hC1 := hSw.c1; have hC2 := hSw.c2; have hC3 := hSw.c3; have hC4 := hSw.c4; have hC5 := hSw.c5; have hCD := HDC.out _ hSw.vars; have hCM := HMC.out _ hSw.vars; dsimp only at hC0 hC1 hC2 hC3 hC4 hC5; go_simp; try with_reducible rfl)
  (try simp only [Act.put, List.getElem_toArray, List.getElem_cons_succ, List.getElem_cons_zero, List.setIfInBounds_toArray, List.set_cons_zero, List.set_cons_succ])
  refine wpAnyH_take (i := 5) (v := ?vz6) rfl (by kernel_rfl) (by kernel_rfl) (by kernel_rfl) (fun _ _ _ h => h) (Or.inl ⟨by rfl, ?hyz6⟩) (by assumption) ?restz6
  case hyz6 => (intro w hSw; (try dsimp only at hSw); have hC0 := hSw.c0; have hC1 := hSw.c1; have hC2 := hSw.c2; have hC3 := hSw.c3; have hC4 := hSw.c4; have hC5 := hSw.c5; have hCD := HDC.out _ hSw.vars; have hCM := HMC.out _ hSw.vars; dsimp only at hC0 hC1 hC2 hC3 hC4 hC5; go_simp; try with_reducible rfl)
  (try simp only [Act.put, List.getElem_toArray, List.getElem_cons_succ, List.getElem_cons_zero, List.setIfInBounds_toArray, List.set_cons_zero, List.set_cons_succ])
  refine wpAnyH_take (i := 7) (v := ?vz7) rfl (by kernel_rfl) (by kernel_rfl) (by kernel_rfl) (fun _ _ _ h => h) (Or.inl ⟨by rfl, ?hyz7⟩) (by assumption) ?restz7
  case hyz7 => (intro w hSw; (try dsimp only at hSw); have hC0 := hSw.c0; have hC1 := hSw.c1; have hC2 := hSw.c2; have hC3 := hSw.c3; have hC4 := hSw.c4; have hC5 := hSw.c5; have hCD := HDC.out _ hSw.vars; have hCM := HMC.out _ hSw.vars; dsimp only at hC0 hC1 hC2 hC3 hC4 hC5; go_simp; try with_reducible rfl)
  (try simp only [Act.put, List.getElem_toArray, List.getElem_cons_succ, List.getElem_cons_zero, List.setIfInBounds_toArray, List.set_cons_zero, List.set_cons_succ])
  refine wpAnyH_take (i := 8) (v := ?vz8) rfl (by kernel_rfl) (by kernel_rfl) (by kernel_rfl) (fun _ _ _ h => h) (Or.inl ⟨by rfl, ?hyz8⟩) (by assumption) ?restz8
  case hyz8 => (intro w hSw; (try dsimp only at hSw); have hC0 := hSw.c0; have hC1 := hSw.c1; have hC2 := hSw.c2; have hC3 := hSw.c3; have hC4 := hSw.c4; have hC5 := hSw.c5; have hCD := HDC.out _ hSw.vars; have hCM := HMC.out _ hSw.vars; dsimp only at hC0 hC1 hC2 hC3 hC4 hC5; go_simp; try with_reducible rfl)
  (try simp only [Act.put, List.getElem_toArray, List.getElem_cons_succ, List.getElem_cons_zero, List.setIfInBounds_toArray, List.set_cons_zero, List.set_cons_succ])
  refine wpAnyH_take (i := 9) (v := ?vz9) rfl (by kernel_rfl) (by kernel_rfl) (by kernel_rfl) (fun _ _ _ h => h) (Or.inl ⟨by rfl, ?hyz9⟩) (by assumption) ?restz9
  case hyz9 => (intro w hSw; (try dsimp only at hSw); have hC0 := hSw.c0; have hC1 := hSw.c1; have hC2 := hSw.c2; have hC3 := hSw.c3; have hC4 := hSw.c4; have hC5 := hSw.c5; have hCD := HDC.out _ hSw.vars; have hCM := HMC.out _ hSw.vars; dsimp only at hC0 hC1 hC2 hC3 hC4 hC5; go_simp; try with_reducible rfl)
  (try simp only [Act.put, List.getElem_toArray, List.getElem_cons_succ, List.getElem_cons_zero, List.setIfInBounds_toArray, List.set_cons_zero, List.set_cons_succ])
  refine wpAnyH_take (i := 10) (v := ?vz10) rfl (by kernel_rfl) (by kernel_rfl) (by kernel_rfl) (fun _ _ _ h => h) (Or.inl ⟨by rfl, ?hyz10⟩) (by assumption) ?restz10
  case hyz10 => (intro w hSw; (try dsimp only at hSw); have hC0 := hSw.c0; have hC1 := hSw.c1; have hC2 := hSw.c2; have hC3 := hSw.c3; have hC4 := hSw.c4; have hC5 := hSw.c5; have hCD := HDC.out _ hSw.vars; have hCM := HMC.out _ hSw.vars; dsimp only at hC0 hC1 hC2 hC3 hC4 hC5; go_simp; try with_reducible rfl)
  (try simp only [Act.put, List.getElem_toArray, List.getElem_cons_succ, List.getElem_cons_zero, List.setIfInBounds_toArray, List.set_cons_zero, List.set_cons_succ])
  refine wpAnyH_take (i := 11) (v := ?vz11) rfl (by kernel_rfl) (by kernel_rfl) (by kernel_rfl) (fun _ _ _ h => h) (Or.inl ⟨by rfl, ?hyz11⟩) (by assumption) ?restz11
  case hyz11 => (intro w hSw; (try dsimp only at hSw); have hC0 := hSw.c0; have hC1 := hSw.c1; have hC2 := hSw.c2; have hC3 := hSw.c3; have hC4 := hSw.c4; have hC5 := hSw.c5; have hCD := HDC.out _ hSw.vars; have hCM := HMC.out _ hSw.vars; dsimp only at hC0 hC1 hC2 hC3 hC4 hC5; go_simp; try with_reducible rfl)
  (try simp only [Act.put, List.getElem_toArray, List.getElem_cons_succ, List.getElem_cons_zero, List.setIfInBounds_toArray, List.set_cons_zero, List.set_cons_succ])
  refine wpAnyH_take (i := 12) (v := ?vz12) rfl (by kernel_rfl) (by kernel_rfl) (by kernel_rfl) (fun _ _ _ h => h) (Or.inl ⟨by rfl, ?hyz12⟩) (by assumption) ?restz12
  case hyz12 => (intro w hSw; (try dsimp only at hSw); have hC0 := hSw.c0; have hC1 := hSw.c1; have hC2 := hSw.c2; have hC3 := hSw.c3; have hC4 := hSw.c4; have hC5 := hSw.c5; have hCD := HDC.out _ hSw.vars; have hCM := HMC.out _ hSw.vars; dsimp only at hC0 hC1 hC2 hC3 hC4 hC5; go_simp; try with_reducible rfl)
  (try simp only [Act.put, List.getElem_toArray, List.getElem_cons_succ, List.getElem_cons_zero, List.setIfInBounds_toArray, List.set_cons_zero, List.set_cons_succ])
  refine wpAnyH_take (i := 13) (v := ?vz13) rfl (by kernel_rfl) (by kernel_rfl) (by kernel_rfl) (fun _ _ _ h => h) (Or.inl ⟨by rfl, ?hyz13⟩) (by assumption) ?restz13
  case hyz13 => (intro w hSw; (try dsimp only at hSw); have hC0 := hSw.c0; have hC1 := hSw.c1; have hC2 := hSw.c2; have hC3 := hSw.c3; have hC4 := hSw.c4; have hC5 := hSw.c5; have hCD := HDC.out _ hSw.vars; have hCM := HMC.out _ hSw.vars; dsimp only at hC0 hC1 hC2 hC3 hC4 hC5; go_simp; try with_reducible rfl)
  (try simp only [Act.put, List.getElem_toArray, List.getElem_cons_succ, List.getElem_cons_zero, List.setIfInBounds_toArray, List.set_cons_zero, List.set_cons_succ])
  refine wpAnyH_take (i := 15) (v := ?vz14) rfl (by kernel_rfl) (by kernel_rfl) (by kernel_rfl) (fun _ _ _ h => h) (Or.inl ⟨by rfl, ?hyz14⟩) (by assumption) ?restz14
  case hyz14 => (intro w hSw; (try dsimp only at hSw); have hC0 := hSw.c0; have hC1 := hSw.c1; have hC2 := hSw.c2; have hC3 := hSw.c3; have hC4 := hSw.c4; have hC5 := hSw.c5; have hCD := HDC.out _ hSw.vars; have hCM := HMC.out _ hSw.vars; dsimp only at hC0 hC1 hC2 hC3 hC4 hC5; go_simp; try with_reducible rfl)
  (try simp only [Act.put, List.getElem_toArray, List.getElem_cons_succ, List.getElem_cons_zero, List.setIfInBounds_toArray, List.set_cons_zero, List.set_cons_succ])
  refine wpAnyH_take (i := 16) (v := ?vz15) rfl (by kernel_rfl) (by kernel_rfl) (by kernel_rfl) (fun _ _ _ h => h) (Or.inl ⟨by rfl, ?hyz15⟩) (by assumption) ?restz15
  case hyz15 => (intro w hSw; (try dsimp only at hSw); have hC0 := hSw.c0; have hC1 := hSw.c1; have hC2 := hSw.c2; have hC3 := hSw.c3; have hC4 := hSw.c4; have hC5 := hSw.c5; have hCD := HDC.out _ hSw.vars; have hCM := HMC.out _ hSw.vars; dsimp only at hC0 hC1 hC2 hC3 hC4 hC5; go_simp; try with_reducible rfl)
  (try simp only [Act.put, List.getElem_toArray, List.getElem_cons_succ, List.getElem_cons_zero, List.setIfInBounds_toArray, List.set_cons_zero, List.set_cons_succ])
  refine wpAnyH_take (i := 19) (v := ?vz16) rfl (by kernel_rfl) (by kernel_rfl) (by kernel_rfl) (fun _ _ _ h => h) (Or.inl ⟨by rfl, ?hyz16⟩) (by assumption) ?restz16
  case hyz16 => (intro w hSw; (try dsimp only at hSw); have hC0 := hSw.c0; have hC1 := hSw.c1; have hC2 := hSw.c2; have hC3 := hSw.c3; have hC4 := hSw.c4; have hC5 := hSw.c5; have hCD := HDC.out _ hSw.vars; have hCM := HMC.out _ hSw.vars; dsimp only at hC0 hC1 hC2 hC3 hC4 hC5; go_simp; try with_reducible rfl)
  (try simp only [Act.put, List.getElem_toArray, List.getElem_cons_succ, List.getElem_cons_zero, List.setIfInBounds_toArray, List.set_cons_zero, List.set_cons_succ])
  refine wpAnyH_take (i := 20) (v := ?vz17) rfl (by kernel_rfl) (by kernel_rfl) (by kernel_rfl) (fun _ _ _ h => h) (Or.inl ⟨by rfl, ?hyz17⟩) (by assumption) ?restz17
  case hyz17 => (intro w hSw; (try dsimp only at hSw); have hC0 := hSw.c0; have hC1 := hSw.c1; have hC2 := hSw.c2; have hC3 := hSw.c3; have hC4 := hSw.c4; have hC5 := hSw.c5; have hCD := HDC.out _ hSw.vars; have hCM := HMC.out _ hSw.vars; dsimp only at hC0 hC1 hC2 hC3 hC4 hC5; go_simp; try with_reducible rfl)
  (try simp only [Act.put, List.getElem_toArray, List.getElem_cons_succ, List.getElem_cons_zero, List.setIfInBounds_toArray, List.set_cons_zero, List.set_cons_succ])
  refine wpAnyH_take (i := 24) (v := ?vz18) rfl (by kernel_rfl) (by kernel_rfl) (by kernel_rfl) (fun _ _ _ h => h) (Or.inl ⟨by rfl, ?hyz18⟩) (by assumption) ?restz18
  case hyz18 => (intro w hSw; (try dsimp only at hSw); have hC0 := hSw.c0; have hC1 := hSw.c1; have hC2 := hSw.c2; have hC3 := hSw.c3; have hC4 := hSw.c4; have hC5 := hSw.c5; have hCD := HDC.out _ hSw.vars; have hCM := HMC.out _ hSw.vars; dsimp only at hC0 hC1 hC2 hC3 hC4 hC5; go_simp; try with_reducible rfl)
  (try simp only [Act.put, List.getElem_toArray, List.getElem_cons_succ, List.getElem_cons_zero, List.setIfInBounds_toArray, List.set_cons_zero, List.set_cons_succ])
  refine wpAnyH_take (i := 25) (v := ?vz19) rfl (by kernel_rfl) (by kernel_rfl) (by kernel_rfl) (fun _ _ _ h => h) (Or.inl ⟨by rfl, ?hyz19⟩) (by assumption) ?restz19
  case hyz19 => (intro w hSw; (try dsimp only at hSw); have hC0 := hSw.c0; have hC1 := hSw.c1; have hC2 := hSw.c2; have hC3 := hSw.c3; have hC4 := hSw.c4; have hC5 := hSw.c5; have hCD := HDC.out _ hSw.vars; have hCM := HMC.out _ hSw.vars; dsimp only at hC0 hC1 hC2 hC3 hC4 hC5; go_simp; try with_reducible rfl)
  (try simp only [Act.put, List.getElem_toArray, List.getElem_cons_succ, List.getElem_cons_zero, List.setIfInBounds_toArray, List.set_cons_zero, List.set_cons_succ])
  refine wpAnyH_ready (rs := [6]) (by kernel_rfl) (by simp) ?_
  refine AllReadyH.cons rfl (fun K hK => ?_) AllReadyH.nil
  go_simp
  go_wp2_with (go_at_call 23; refine (HI1.out _).mono ?_; rintro e wn1 ⟨rfl, rfl⟩)
  refine hK.out _ _ (by assumption) (fun hHeld => ?_)
  clear hK K
  (try simp only [Act.put, List.getElem_toArray, List.getElem_cons_succ, List.getElem_cons_zero, List.setIfInBounds_toArray, List.set_cons_zero, List.set_cons_succ])
  refine wpAnyH_ready (rs := [14]) (by kernel_rfl) (by simp) ?_
  refine AllReadyH.cons rfl (fun K hK => ?_) AllReadyH.nil
  go_simp
  go_wp2_with (go_at_call 23; refine (HI2.out _ (SH.vars (by assumption))).mono ?_; rintro e wn2 ⟨rfl, hb2⟩)
  refine hK.out _ _ ((by assumption : SH w g4 g5 ⟨cy, cm, cd, ch, ci, cs⟩ _).keep hb2) (fun hHeld => ?_)
  clear hK K
  (try simp only [Act.put, List.getElem_toArray, List.getElem_cons_succ, List.getElem_cons_zero, List.setIfInBounds_toArray, List.set_cons_zero, List.set_cons_succ])
  refine wpAnyH_ready (rs := [17]) (by kernel_rfl) (by simp) ?_
  refine AllReadyH.cons rfl (fun K hK => ?_) AllReadyH.nil
  go_simp
  go_wp2_with (go_at_call 24; refine (HT3.out _).mono ?_; rintro e wn3 ⟨rfl, rfl⟩)
  refine hK.out _ _ (by assumption) (fun hHeld => ?_)
  clear hK K
  (try simp only [Act.put, List.getElem_toArray, List.getElem_cons_succ, List.getElem_cons_zero, List.setIfInBounds_toArray, List.set_cons_zero, List.set_cons_succ])
  refine wpAnyH_take (i := 18) rfl (by kernel_rfl) (by kernel_rfl) (by kernel_rfl) (fun _ _ _ h => h) (Or.inl ⟨by rfl, fun w' _ => exec_addS (x := A3) (y := [58]) (z := Z3) rfl rfl rfl HZ3.out HLZ3.out w'⟩) (by assumption) ?_
  (try simp only [Act.put, List.getElem_toArray, List.getElem_cons_succ, List.getElem_cons_zero, List.setIfInBounds_toArray, List.set_cons_zero, List.set_cons_succ])
  refine wpAnyH_ready (rs := [21]) (by kernel_rfl) (by simp) ?_
  refine AllReadyH.cons rfl (fun K hK => ?_) AllReadyH.nil
  go_simp
  go_wp2_with (go_at_call 24; refine (HT4.out _).mono ?_; rintro e wn4 ⟨rfl, rfl⟩)
  refine hK.out _ _ (by assumption) (fun hHeld => ?_)
  clear hK K
  (try simp only [Act.put, List.getElem_toArray, List.getElem_cons_succ, List.getElem_cons_zero, List.setIfInBounds_toArray, List.set_cons_zero, List.set_cons_succ])
  refine wpAnyH_take (i := 22) rfl (by kernel_rfl) (by kernel_rfl) (by kernel_rfl) (fun _ _ _ h => h) (Or.inl ⟨by rfl, fun w' _ => exec_addS (x := Z3) (y := A4) (z := Z4) rfl rfl rfl HZ4.out HLZ4.out w'⟩) (by assumption) ?_
  (try simp only [Act.put, List.getElem_toArray, List.getElem_cons_succ, List.getElem_cons_zero, List.setIfInBounds_toArray, List.set_cons_zero, List.set_cons_succ])
  refine wpAnyH_take (i := 23) rfl (by kernel_rfl) (by kernel_rfl) (by kernel_rfl) (fun _ _ _ h => h) (Or.inl ⟨by rfl, fun w' _ => exec_addS (x := Z4) (y := [58]) (z := Z5) rfl rfl rfl HZ5.out HLZ5.out w'⟩) (by assumption) ?_
  (try simp only [Act.put, List.getElem_toArray, List.getElem_cons_succ, List.getElem_cons_zero, List.setIfInBounds_toArray, List.set_cons_zero, List.set_cons_succ])
  refine wpAnyH_ready (rs := [26]) (by kernel_rfl) (by simp) ?_
  refine AllReadyH.cons rfl (fun K hK => ?_) AllReadyH.nil
  go_simp
  go_wp2_with (go_at_call 24; refine (HT5.out _).mono ?_; rintro e wn5 ⟨rfl, rfl⟩)
  refine hK.out _ _ (by assumption) (fun hHeld => ?_)
  clear hK K
  (try simp only [Act.put, List.getElem_toArray, List.getElem_cons_succ, List.getElem_cons_zero, List.setIfInBounds_toArray, List.set_cons_zero, List.set_cons_succ])
  refine wpAnyH_take (i := 27) rfl (by kernel_rfl) (by kernel_rfl) (by kernel_rfl) (fun _ _ _ h => h) (Or.inl ⟨by rfl, fun w' _ => exec_addS (x := Z5) (y := A5) (z := Z6) rfl rfl rfl HZ6.out HLZ6.out w'⟩) (by assumption) ?_
  (try simp only [Act.put, List.getElem_toArray, List.getElem_cons_succ, List.getElem_cons_zero, List.setIfInBounds_toArray, List.set_cons_zero, List.set_cons_succ])
  refine wpAnyH_ready (rs := [28]) (by kernel_rfl) (by simp) ?_
  refine AllReadyH.cons rfl (fun K hK => ?_) AllReadyH.nil
  go_simp
  refine hK.out _ _ ((by assumption : SH w g4 g5 ⟨cy, cm, cd, ch, ci, cs⟩ _).keep (Below.alloc1 _ _)) (fun hHeld => ?_)
  clear hK K
  (try simp only [Act.put, List.getElem_toArray, List.getElem_cons_succ, List.getElem_cons_zero, List.setIfInBounds_toArray, List.set_cons_zero, List.set_cons_succ])
  refine wpAnyH_take (i := 29) (v := ?vz30) rfl (by kernel_rfl) (by kernel_rfl) (by kernel_rfl) (fun _ _ _ h => h) (Or.inl ⟨by rfl, ?hyz30⟩) (by assumption) ?restz30
  case hyz30 => (intro w hSw; (try dsimp only at hSw); have hC0 := hSw.c0; have hC1 := hSw.c1; have hC2 := hSw.c2; have hC3 := hSw.c3; have hC4 := hSw.c4; have hC5 := hSw.c5; have hCD := HDC.out _ hSw.vars; have hCM := HMC.out _ hSw.vars; dsimp only at hC0 hC1 hC2 hC3 hC4 hC5; go_simp; try with_reducible rfl)
  (try simp only [Act.put, List.getElem_toArray, List.getElem_cons_succ, List.getElem_cons_zero, List.setIfInBounds_toArray, List.set_cons_zero, List.set_cons_succ])
  refine wpAnyH_done (by kernel_rfl) ?_ _
  refine NoPanic.normal ?_
  have hf := (by assumption : SH w g4 g5 ⟨cy, cm, cd, ch, ci, cs⟩ wn2)
  have HBN := Lib.hid hf.bel
  have HJ := Lib.hid (pJoin6 wn2 Z2 G M1 Y1 Z6 [43, 48, 48, 48, 48] HJL.out)
  clear hHeld hf
  go_wp2_with (first | (go_at_call 25; refine HJ.out.mono ?_; rintro ee w7 ⟨rfl, hb⟩; refine Hid.out ?_) | fail)
  refine Lib.hid ?_
  have HB7 : Hid (Below w.heap.size w w7) := HBN.out.trans (hb.mono HBN.out.size)
  clear hb
  go_wp2
  go_ret2
  rw [HD.out, HZF.out]
  exact ⟨rfl, HB7.out⟩
theorem pShow (t : Int) (w : World) (hv : Vars w) : Calls Tryd.prog 13 #[.int .i64 t] w (ShowEnd t w) := by
  by_cases h : t < 0 ∨ 253402300799 < t
  · exact pShowNo0 t w h
  · obtain ⟨n, rfl⟩ := Int.eq_ofNat_of_zero_le (show 0 ≤ t by omega)
    exact pShowYes0 n w hv (by omega)
end Go.Proofs.YtklhgaioolamfaaDoor.Date
