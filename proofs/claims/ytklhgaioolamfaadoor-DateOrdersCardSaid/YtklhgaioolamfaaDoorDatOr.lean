/-
  DATE, the laws: a later moment has a later date.
-/
import Derived.Test.YtklhgaioolamfaaDoorDatOrP
import Derived.BigQuiet
import Derived.Deep.CutBlock
import Derived.Deep.DeepCutAuto
namespace Go.Proofs.YtklhgaioolamfaaDoor.Date
open Go.RowKit Base
/-- Two dates' blocks stand. -/
structure TwoD (w : World) (g2 g3 : Nat) (x y : Civ) (w' : World) : Prop where
  bel : Below w.heap.size w w'
  rx : w'.heap[g2]? = some (.cells (sixV x.y x.m x.d x.h x.mi x.s) 23 (0, 0))
  ry : w'.heap[g3]? = some (.cells (sixV y.y y.m y.d y.h y.mi y.s) 23 (0, 0))
theorem TwoD.on {w w' : World} {g2 g3 : Nat} {x y : Civ} (h : TwoD w g2 g3 x y w') (n : Nat) : TwoD w g2 g3 x y (w'.drewN n) := ⟨h.bel.trans ⟨rfl, rfl, rfl, Nat.le_refl _, fun _ _ => rfl⟩, h.rx, h.ry⟩
set_option maxHeartbeats 8000000 in
set_option maxRecDepth 100000 in
theorem wDateOrdersYes (a b : Nat) (w : World) (hv : Vars w) (ha : a ≤ 253402300799) (hb : b ≤ 253402300799) : Calls Tryd.prog 6 #[.int .i64 (a : Int), .int .i64 (b : Int)] w fun e w' => e = .returned (.bool true) ∧ Below w.heap.size w w' := by
  have HH := Lib.hid (wShown w hv)
  have HV := Lib.hid hv
  obtain ⟨x, hx⟩ : ∃ x, x = civOf a := ⟨_, rfl⟩
  obtain ⟨y, hy⟩ : ∃ y, y = civOf b := ⟨_, rfl⟩
  have HC1 : Hid (∀ w1, Vars w1 → Calls Tryd.prog 9 #[.int .i64 (a : Int)] w1 fun e w' => e = .returned (.tuple #[.agg (sixV x.y x.m x.d x.h x.mi x.s), .int .i64 0]) ∧ Below w1.heap.size w1 w') := fun w1 hvx => (pCivil (a : Int) w1 hvx).mono (fun e w' h => by unfold CivEnd at h; rw [if_neg (by omega), Int.toNat_natCast] at h; rw [hx]; exact h)
  have HC2 : Hid (∀ w1, Vars w1 → Calls Tryd.prog 9 #[.int .i64 (b : Int)] w1 fun e w' => e = .returned (.tuple #[.agg (sixV y.y y.m y.d y.h y.mi y.s), .int .i64 0]) ∧ Below w1.heap.size w1 w') := fun w1 hvx => (pCivil (b : Int) w1 hvx).mono (fun e w' h => by unfold CivEnd at h; rw [if_neg (by omega), Int.toNat_natCast] at h; rw [hy]; exact h)
  have HLT : Hid (FirstLt x y → a < b) := fun h => by have := first_lt h; rw [hx, hy] at this; exact civ_lt this
  have HGT : Hid (FirstLt y x → b < a) := fun h => by have := first_lt h; rw [hx, hy] at this; exact civ_lt this
  have HEQ : Hid ((∀ k, k < 6 → civI x k = civI y k) → a = b) := fun h => by have := all_eq h; rw [hx, hy] at this; exact civ_inj this
  obtain ⟨q, hq⟩ : ∃ q, q = dayOf a := ⟨_, rfl⟩
  have HD1 : Hid (∀ w1, Calls Tryd.prog 11 #[.int .i64 (a : Int)] w1 fun e w' => e = .returned (.tuple #[.int .i64 (q : Int), .int .i64 0]) ∧ Below w1.heap.size w1 w') := fun w1 => (pDay (a : Int) w1).mono (fun e w' h => by
    obtain ⟨w2, h4, h5⟩ := h
    unfold DayEnd at h4
    rw [if_neg (by omega), Int.toNat_natCast] at h4
    rw [hq]; exact ⟨h4.1, h5⟩)
  have HD2 : Hid (∀ w1, Calls Tryd.prog 11 #[.int .i64 ((a : Int) + 604800)] w1 fun e w' => ∃ v n : Int, e = .returned (.tuple #[.int .i64 v, .int .i64 n]) ∧ (n ≠ 0 ∨ v = (q : Int)) ∧ Below w1.heap.size w1 w') := fun w1 => (pDay ((a : Int) + 604800) w1).mono (fun e w' h => by
    obtain ⟨w2, h4, h5⟩ := h
    unfold DayEnd at h4
    by_cases h6 : (a : Int) + 604800 < 0 ∨ 253402300799 < (a : Int) + 604800
    · rw [if_pos h6] at h4
      exact ⟨0, 130, h4.1, Or.inl (by decide), h5⟩
    · rw [if_neg h6, show ((a : Int) + 604800).toNat = a + 604800 by omega, day_week, ← hq] at h4
      exact ⟨q, 0, h4.1, Or.inr rfl, h5⟩)
  clear hx hy hq
  go_enter Tryd.func6, Tryd.ntmps6
  go_wp2_with (first | (go_at_call 8; refine HH.out.mono ?_; rintro ee w1 ⟨rfl, hb⟩; refine Hid.out ?_) | fail)
  refine Lib.hid ?_
  have HB1 : Hid (Below w.heap.size w w1) := hb
  clear hb
  go_wp2_with (first | (go_at_call 9; refine (HC1.out _ (by first | exact HV.out | exact HV.out.on HB1.out | exact HV.out.on HB2.out | exact HV.out.on HB3.out | exact HV.out.on HB4.out | exact HV.out.on HB5.out | exact HV.out.on HB6.out | exact HV.out.on HB7.out | exact HV.out.on HA2.out | exact HV.out.on HA3.out | exact HV.out.on (HB2.out.trans ((HBZ.out _).mono HB2.out.size)))).mono ?_; rintro ee w2 ⟨rfl, hb⟩; refine Hid.out ?_) | fail)
  refine Lib.hid ?_
  have HB2 : Hid (Below w.heap.size w w2) := HB1.out.trans (hb.mono HB1.out.size)
  have HA2 : Hid (Below w.heap.size w (w2.alloc (.cells (sixV x.y x.m x.d x.h x.mi x.s) 23))) := HB2.out.alloc HB2.out.size _
  have HR2 : Hid ((w2.alloc (.cells (sixV x.y x.m x.d x.h x.mi x.s) 23)).heap[w2.heap.size]? = some (.cells (sixV x.y x.m x.d x.h x.mi x.s) 23)) := (MapKept.heap_alloc w2 _).1
  clear hb
  go_wp2_with (first | (go_at_call 9; refine (HC2.out _ (by first | exact HV.out | exact HV.out.on HB1.out | exact HV.out.on HB2.out | exact HV.out.on HB3.out | exact HV.out.on HB4.out | exact HV.out.on HB5.out | exact HV.out.on HB6.out | exact HV.out.on HB7.out | exact HV.out.on HA2.out | exact HV.out.on HA3.out | exact HV.out.on (HB2.out.trans ((HBZ.out _).mono HB2.out.size)))).mono ?_; rintro ee w3 ⟨rfl, hb⟩; refine Hid.out ?_) | fail)
  refine Lib.hid ?_
  have HB3 : Hid (Below w.heap.size w w3) := HA2.out.trans (hb.mono HA2.out.size)
  have HR3 : Hid (w3.heap[w2.heap.size]? = some (.cells (sixV x.y x.m x.d x.h x.mi x.s) 23)) := (hb.block _ (heap_lt HR2.out)).trans HR2.out
  have HA3 : Hid (Below w.heap.size w (w3.alloc (.cells (sixV y.y y.m y.d y.h y.mi y.s) 23))) := HB3.out.alloc HB3.out.size _
  have HQ3 : Hid ((w3.alloc (.cells (sixV y.y y.m y.d y.h y.mi y.s) 23)).heap[w3.heap.size]? = some (.cells (sixV y.y y.m y.d y.h y.mi y.s) 23)) := (MapKept.heap_alloc w3 _).1
  have HR3' : Hid ((w3.alloc (.cells (sixV y.y y.m y.d y.h y.mi y.s) 23)).heap[w2.heap.size]? = some (.cells (sixV x.y x.m x.d x.h x.mi x.s) 23)) := ((Below.alloc1 w3 _).block _ (heap_lt HR3.out)).trans HR3.out
  clear hb
  obtain ⟨w4, hw4⟩ : ∃ w4, w4 = w3.alloc (.cells (sixV y.y y.m y.d y.h y.mi y.s) 23) := ⟨_, rfl⟩
  obtain ⟨g3, hg3⟩ : ∃ g3, g3 = w3.heap.size := ⟨_, rfl⟩
  obtain ⟨g2, hg2⟩ : ∃ g2, g2 = w2.heap.size := ⟨_, rfl⟩
  rw [← hw4, ← hg3] at HQ3
  rw [← hw4, ← hg2] at HR3'
  rw [← hw4] at HA3
  go_upto_region 3 with fail
  rw [← hg3, ← hw4, ← hg2]
  clear hw4 hg3 hg2 HR2 HR3 HA2 HB2 HB3
  go_wp2
  have HL0 : Hid (TwoD w g2 g3 x y w4) := ⟨HA3.out, HR3'.out, HQ3.out⟩
  clear HA3 HR3' HQ3
  go_loopw [10, 11] (fun cv iv wr => ∃ (c : Int) (i : Nat), cv = .int .i64 c ∧ iv = .int .i64 (i : Int) ∧ i ≤ 6 ∧ Hid (TwoD w g2 g3 x y wr) ∧ ((c = 0 ∧ Hid (∀ k, k < i → civI x k = civI y k)) ∨ (c = -1 ∧ Hid (FirstLt x y)) ∨ (c = 1 ∧ Hid (FirstLt y x)))) (fun _ iv _ => 6 - (intOf iv).toNat)
  case atStart => exact ⟨0, 0, rfl, rfl, by omega, HL0, Or.inl ⟨rfl, fun k hk => by omega⟩⟩
  case round =>
    clear HL0
    obtain ⟨c, i, rfl, rfl, hi, HL, hst⟩ := hrel
    rcases hst with ⟨hc, he⟩ | ⟨hc, he⟩ | ⟨hc, he⟩
    · subst hc
      by_cases hlt : i < 6
      · have k1 : (i : Int) < 6 := by omega
        have k0 : (0 : Int) ≤ (i : Int) := by omega
        have c1 : ∀ n, (wr.drewN n).cell? ⟨g2, i, none⟩ = some (.int .i64 (civI x i : Int)) := fun n => civ_cell HL.out.rx hlt
        have c2 : ∀ n, (wr.drewN n).cell? ⟨g3, i, none⟩ = some (.int .i64 (civI y i : Int)) := fun n => civ_cell HL.out.ry hlt
        have c3 : ∀ n m, ((wr.drewN n).drewN m).cell? ⟨g2, i, none⟩ = some (.int .i64 (civI x i : Int)) := fun n m => civ_cell HL.out.rx hlt
        have c4 : ∀ n m, ((wr.drewN n).drewN m).cell? ⟨g3, i, none⟩ = some (.int .i64 (civI y i : Int)) := fun n m => civ_cell HL.out.ry hlt
        have HW := Lib.hid (civ_ways3 hlt he.out)
        obtain ⟨u, hu⟩ : ∃ u, u = civI x i := ⟨_, rfl⟩
        obtain ⟨v, hv⟩ : ∃ v, v = civI y i := ⟨_, rfl⟩
        rw [← hu] at c1 c3 HW
        rw [← hv] at c2 c4 HW
        clear hu hv he
        rcases HW.out with ⟨h1, h2⟩ | ⟨h1, h2⟩ | ⟨h1, h2⟩
        · have j1 : (u : Int) < (v : Int) := by omega
          have j2 : ¬ (v : Int) < (u : Int) := by omega
          have HF := Lib.hid h2
          clear h1 h2 HW
          go_wp2
          go_quiet (fail)
          go_wp2_with fail
          go_quiet (fail)
          go_wp2_with fail
          go_roundw
          case rel => exact ⟨-1, i + 1, rfl, by go_num, by omega, HL.out.on _, Or.inr (Or.inl ⟨rfl, HF⟩)⟩
          case measure => simp [intOf]; omega
        · have j1 : ¬ (u : Int) < (v : Int) := by omega
          have j2 : (v : Int) < (u : Int) := by omega
          have HF := Lib.hid h2
          clear h1 h2 HW
          go_wp2
          go_quiet (fail)
          go_wp2_with fail
          go_quiet (fail)
          go_wp2_with fail
          go_roundw
          case rel => exact ⟨1, i + 1, rfl, by go_num, by omega, HL.out.on _, Or.inr (Or.inr ⟨rfl, HF⟩)⟩
          case measure => simp [intOf]; omega
        · have j1 : ¬ (u : Int) < (v : Int) := by omega
          have j2 : ¬ (v : Int) < (u : Int) := by omega
          have HF := Lib.hid h2
          clear h1 h2 HW
          go_wp2
          go_quiet (fail)
          go_wp2_with fail
          go_quiet (fail)
          go_wp2_with fail
          go_roundw
          case rel => exact ⟨0, i + 1, rfl, by go_num, by omega, HL.out.on _, Or.inl ⟨rfl, HF⟩⟩
          case measure => simp [intOf]; omega
      · have k1 : ¬ (i : Int) < 6 := by omega
        have hab := HEQ.out (fun k hk => he.out k (by omega))
        have j1 : ¬ (a : Int) < (b : Int) := by omega
        have j2 : ¬ (b : Int) < (a : Int) := by omega
        clear hab he
        go_wp2_with (first | (go_at_call 11; refine (HD1.out _).mono ?_; rintro ee w5 ⟨rfl, hb⟩; refine Hid.out ?_) | fail)
        refine Lib.hid ?_
        have HB5 : Hid (Below w.heap.size w w5) := HL.out.bel.trans (hb.mono HL.out.bel.size)
        clear hb
        go_wp2_with (first | (go_at_call 11; refine (HD2.out _).mono ?_; rintro ee w6 ⟨v, n, rfl, hvn, hb⟩; refine Hid.out ?_) | fail)
        refine Lib.hid ?_
        have HB6 : Hid (Below w.heap.size w w6) := HB5.out.trans (hb.mono HB5.out.size)
        clear hb
        by_cases hn0 : n = 0
        · have hv : v = (q : Int) := hvn.elim (fun h => absurd hn0 h) id
          subst hn0 hv
          clear hvn
          go_wp2
          go_ret
          exact ⟨rfl, HB6.out⟩
        · have e7 : (n != 0) = true := by rw [bne_iff_ne]; exact hn0
          clear hvn
          go_wp2
          go_ret
          exact ⟨rfl, HB6.out⟩
    · subst hc
      have hab := HLT.out he.out
      have j1 : (a : Int) < (b : Int) := by omega
      have j2 : ¬ (b : Int) < (a : Int) := by omega
      clear hab he
      by_cases k1 : (i : Int) < 6
      all_goals
        go_wp2_with (first | (go_at_call 11; refine (HD1.out _).mono ?_; rintro ee w5 ⟨rfl, hb⟩; refine Hid.out ?_) | fail)
        refine Lib.hid ?_
        have HB5 : Hid (Below w.heap.size w w5) := HL.out.bel.trans (hb.mono HL.out.bel.size)
        clear hb
        go_wp2_with (first | (go_at_call 11; refine (HD2.out _).mono ?_; rintro ee w6 ⟨v, n, rfl, hvn, hb⟩; refine Hid.out ?_) | fail)
        refine Lib.hid ?_
        have HB6 : Hid (Below w.heap.size w w6) := HB5.out.trans (hb.mono HB5.out.size)
        clear hb
        by_cases hn0 : n = 0
        · have hv : v = (q : Int) := hvn.elim (fun h => absurd hn0 h) id
          subst hn0 hv
          clear hvn
          go_wp2
          go_ret
          exact ⟨rfl, HB6.out⟩
        · have e7 : (n != 0) = true := by rw [bne_iff_ne]; exact hn0
          clear hvn
          go_wp2
          go_ret
          exact ⟨rfl, HB6.out⟩
    · subst hc
      have hab := HGT.out he.out
      have j1 : ¬ (a : Int) < (b : Int) := by omega
      have j2 : (b : Int) < (a : Int) := by omega
      clear hab he
      by_cases k1 : (i : Int) < 6
      all_goals
        go_wp2_with (first | (go_at_call 11; refine (HD1.out _).mono ?_; rintro ee w5 ⟨rfl, hb⟩; refine Hid.out ?_) | fail)
        refine Lib.hid ?_
        have HB5 : Hid (Below w.heap.size w w5) := HL.out.bel.trans (hb.mono HL.out.bel.size)
        clear hb
        go_wp2_with (first | (go_at_call 11; refine (HD2.out _).mono ?_; rintro ee w6 ⟨v, n, rfl, hvn, hb⟩; refine Hid.out ?_) | fail)
        refine Lib.hid ?_
        have HB6 : Hid (Below w.heap.size w w6) := HB5.out.trans (hb.mono HB5.out.size)
        clear hb
        by_cases hn0 : n = 0
        · have hv : v = (q : Int) := hvn.elim (fun h => absurd hn0 h) id
          subst hn0 hv
          clear hvn
          go_wp2
          go_ret
          exact ⟨rfl, HB6.out⟩
        · have e7 : (n != 0) = true := by rw [bne_iff_ne]; exact hn0
          clear hvn
          go_wp2
          go_ret
          exact ⟨rfl, HB6.out⟩
set_option maxHeartbeats 4000000 in
set_option maxRecDepth 100000 in
theorem wDateOrdersNo (a b : Int) (w : World) (hv : Vars w) (hn : (a < 0 ∨ 253402300799 < a) ∨ (b < 0 ∨ 253402300799 < b)) : Calls Tryd.prog 6 #[.int .i64 a, .int .i64 b] w fun e w' => e = .returned (.bool true) ∧ Below w.heap.size w w' := by
  have HH := Lib.hid (wShown w hv)
  have HV := Lib.hid hv
  obtain ⟨x0, x1, x2, x3, x4, x5, n, h1⟩ := civ_waysE a
  obtain ⟨y0, y1, y2, y3, y4, y5, m, h2⟩ := civ_waysE b
  have HC1 : Hid (∀ w1, Vars w1 → Calls Tryd.prog 9 #[.int .i64 a] w1 fun e w' => e = .returned (.tuple #[.agg (sixV x0 x1 x2 x3 x4 x5), .int .i64 n]) ∧ Below w1.heap.size w1 w') := fun w1 hvx => (pCivil a w1 hvx).mono (fun e w' h => (h1.1 e _ w').1 h)
  have HC2 : Hid (∀ w1, Vars w1 → Calls Tryd.prog 9 #[.int .i64 b] w1 fun e w' => e = .returned (.tuple #[.agg (sixV y0 y1 y2 y3 y4 y5), .int .i64 m]) ∧ Below w1.heap.size w1 w') := fun w1 hvx => (pCivil b w1 hvx).mono (fun e w' h => (h2.1 e _ w').1 h)
  have hw : (n != 0) = true ∨ ((n != 0) = false ∧ (m != 0) = true) := by
    rcases hn with h | h
    · exact Or.inl (by rw [h1.2 h]; decide)
    · have hm : (m != 0) = true := by rw [h2.2 h]; decide
      cases hq : n != 0
      · exact Or.inr ⟨rfl, hm⟩
      · exact Or.inl rfl
  clear h1 h2 hn
  rcases hw with z1 | ⟨z1, z2⟩
  all_goals
    go_enter Tryd.func6, Tryd.ntmps6
    go_wp2_with (first | (go_at_call 8; refine HH.out.mono ?_; rintro ee w1 ⟨rfl, hb⟩; refine Hid.out ?_) | fail)
    refine Lib.hid ?_
    have HB1 : Hid (Below w.heap.size w w1) := hb
    clear hb
    go_wp2_with (first | (go_at_call 9; refine (HC1.out _ (by first | exact HV.out | exact HV.out.on HB1.out | exact HV.out.on HB2.out | exact HV.out.on HB3.out | exact HV.out.on HB4.out | exact HV.out.on HB5.out | exact HV.out.on HB6.out | exact HV.out.on HB7.out | exact HV.out.on HA2.out | exact HV.out.on HA3.out | exact HV.out.on (HB2.out.trans ((HBZ.out _).mono HB2.out.size)))).mono ?_; rintro ee w2 ⟨rfl, hb⟩; refine Hid.out ?_) | fail)
    refine Lib.hid ?_
    have HB2 : Hid (Below w.heap.size w w2) := HB1.out.trans (hb.mono HB1.out.size)
    have HA2 : Hid (Below w.heap.size w (w2.alloc (.cells (sixV x0 x1 x2 x3 x4 x5) 23))) := HB2.out.alloc HB2.out.size _
    have HR2 : Hid ((w2.alloc (.cells (sixV x0 x1 x2 x3 x4 x5) 23)).heap[w2.heap.size]? = some (.cells (sixV x0 x1 x2 x3 x4 x5) 23)) := (MapKept.heap_alloc w2 _).1
    clear hb
    go_wp2_with (first | (go_at_call 9; refine (HC2.out _ (by first | exact HV.out | exact HV.out.on HB1.out | exact HV.out.on HB2.out | exact HV.out.on HB3.out | exact HV.out.on HB4.out | exact HV.out.on HB5.out | exact HV.out.on HB6.out | exact HV.out.on HB7.out | exact HV.out.on HA2.out | exact HV.out.on HA3.out | exact HV.out.on (HB2.out.trans ((HBZ.out _).mono HB2.out.size)))).mono ?_; rintro ee w3 ⟨rfl, hb⟩; refine Hid.out ?_) | fail)
    refine Lib.hid ?_
    have HB3 : Hid (Below w.heap.size w w3) := HA2.out.trans (hb.mono HA2.out.size)
    have HR3 : Hid (w3.heap[w2.heap.size]? = some (.cells (sixV x0 x1 x2 x3 x4 x5) 23)) := (hb.block _ (heap_lt HR2.out)).trans HR2.out
    have HA3 : Hid (Below w.heap.size w (w3.alloc (.cells (sixV y0 y1 y2 y3 y4 y5) 23))) := HB3.out.alloc HB3.out.size _
    have HQ3 : Hid ((w3.alloc (.cells (sixV y0 y1 y2 y3 y4 y5) 23)).heap[w3.heap.size]? = some (.cells (sixV y0 y1 y2 y3 y4 y5) 23)) := (MapKept.heap_alloc w3 _).1
    have HR3' : Hid ((w3.alloc (.cells (sixV y0 y1 y2 y3 y4 y5) 23)).heap[w2.heap.size]? = some (.cells (sixV x0 x1 x2 x3 x4 x5) 23)) := ((Below.alloc1 w3 _).block _ (heap_lt HR3.out)).trans HR3.out
    clear hb
    go_wp2
    go_ret
    exact ⟨rfl, HA3.out⟩
theorem wDateOrders (a b : Int) (w : World) (hv : Vars w) : Calls Tryd.prog 6 #[.int .i64 a, .int .i64 b] w fun e w' => e = .returned (.bool true) ∧ Below w.heap.size w w' := by
  by_cases hn : (a < 0 ∨ 253402300799 < a) ∨ (b < 0 ∨ 253402300799 < b)
  · exact wDateOrdersNo a b w hv hn
  · obtain ⟨a', rfl⟩ := Int.eq_ofNat_of_zero_le (show 0 ≤ a by omega)
    obtain ⟨b', rfl⟩ := Int.eq_ofNat_of_zero_le (show 0 ≤ b by omega)
    exact wDateOrdersYes a' b' w hv (by omega) (by omega)
end Go.Proofs.YtklhgaioolamfaaDoor.Date
