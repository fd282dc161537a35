/-
  DATE, the given answers: Civil.
-/
import Derived.Test.YtklhgaioolamfaaDoorDatCal
import Derived.Deep.MidRow
namespace Go.Proofs.YtklhgaioolamfaaDoor.Date
open Go.RowKit Base
/-- A date as the program has it. -/
def civV (c : Civ) : Value := .agg #[.int .i64 (c.y : Int), .int .i64 (c.m : Int), .int .i64 (c.d : Int), .int .i64 (c.h : Int), .int .i64 (c.mi : Int), .int .i64 (c.s : Int)]
abbrev sixV (a b c d e f : Int) : Array Value := #[.int .i64 a, .int .i64 b, .int .i64 c, .int .i64 d, .int .i64 e, .int .i64 f]
theorem size6 : (Tryd.prog.info? 23).map (·.size) = some 6 := by kernel_rfl
theorem six_range {w : World} {b : Nat} {p q r s t u : Value} {ty : TypeId} (h : w.heap[b]? = some (.cells #[p, q, r, s, t, u] ty (0, 0))) : w.rangeAt b 0 [p, q, r, s, t, u] := fun i v hv => by
  rw [Nat.zero_add]
  unfold World.cell?
  rw [h]
  show (#[p, q, r, s, t, u] : Array Value)[i]? = some v
  rw [← hv]
  simp
theorem results_civ {w : World} {fn : Func} {tmps : Array Value} {i j b : Nat} {a c d e f g v : Value} {ty : TypeId} (hr : fn.results = #[ResultVar.cell i 23, ResultVar.tmp j]) (h1 : tmps.getD i undef = .pointer (some ⟨b, 0, none⟩)) (h2 : tmps.getD j undef = v) (hat : w.heap[b]? = some (.cells #[a, c, d, e, f, g] ty (0, 0))) :
    (results fn tmps).run Tryd.prog w = .ok (.tuple #[.agg #[a, c, d, e, f, g], v]) w := by
  have hl := run_loadVar_mid w b 0 23 [a, c, d, e, f, g] _ (six_range hat) Tryd.underlying23 rfl size6
  unfold results
  rw [hr]
  rw [Array.getD_eq_getD_getElem?] at h1 h2
  simp [h1, h2, hl, asAddr]
def CivEnd (t : Int) (w : World) (e : Ending) (w' : World) : Prop := (if t < 0 ∨ 253402300799 < t then e = .returned (.tuple #[.agg (sixV 0 0 0 0 0 0), .int .i64 130]) else e = .returned (.tuple #[civV (civOf t.toNat), .int .i64 0])) ∧ Below w.heap.size w w'
set_option maxHeartbeats 1600000 in
set_option maxRecDepth 100000 in
theorem rCivNo (t : Int) (w : World) (h : t < 0 ∨ 253402300799 < t) : Calls Tryd.prog 10 #[.int .i64 t] w (CivEnd t w) := by
  have HD : Hid (∀ e w', CivEnd t w e w' = ((e = .returned (.tuple #[.agg (sixV 0 0 0 0 0 0), .int .i64 130])) ∧ Below w.heap.size w w')) := fun e w' => by unfold CivEnd; rw [if_pos h]
  rcases no_tick h with h1 | ⟨h1, h2⟩
  · clear h
    go_enter Tryd.func10, Tryd.ntmps10
    go_wp2
    refine bodyPost_ret (results_civ Tryd.results10 rfl rfl (MapKept.heap_alloc w _).1) rfl ?_
    rw [HD.out]
    exact ⟨rfl, Below.alloc1 w _⟩
  · clear h
    go_enter Tryd.func10, Tryd.ntmps10
    go_wp2
    refine bodyPost_ret (results_civ Tryd.results10 rfl rfl (MapKept.heap_alloc w _).1) rfl ?_
    rw [HD.out]
    exact ⟨rfl, Below.alloc1 w _⟩
theorem yearF_le : ∀ (f d y : Nat), (yearF f d y).1 + (yearF f d y).2 ≤ y + d
  | 0, d, y => Nat.le_refl _
  | f + 1, d, y => by
    rw [yearF]
    split
    · have := yearF_le f (d - yd y) (y + 1)
      have := yd_ge y
      omega
    · exact Nat.le_refl _
theorem yearO_le (d y : Nat) : (yearO d y).1 + (yearO d y).2 ≤ y + d := yearF_le d d y
abbrev zeroO : Obj := .cells (sixV 0 0 0 0 0 0) 23 (0, 0)
theorem set_six {w : World} {b : Nat} {t : TypeId} {cs : Array Value} (h : w.heap[b]? = some (.cells cs t (0, 0))) (i : Nat) (v : Value) : (w.setCell ⟨b, i, none⟩ v).heap[b]? = some (.cells (cs.setIfInBounds i v) t (0, 0)) := heap_setCell_any w b i _ _ _ v h
set_option maxHeartbeats 8000000 in
set_option maxRecDepth 100000 in
theorem rCivYes (n : Nat) (w : World) (h : n ≤ 253402300799) : Calls Tryd.prog 10 #[.int .i64 (n : Int)] w (CivEnd (n : Int) w) := by
  have HD : Hid (∀ e w', CivEnd (n : Int) w e w' = ((e = .returned (.tuple #[civV (civOf n), .int .i64 0])) ∧ Below w.heap.size w w')) := fun e w' => by unfold CivEnd; rw [if_neg (by omega), Int.toNat_natCast]
  have h1 : ¬ (n : Int) < 0 := by omega
  have h2 : ¬ 253402300799 < (n : Int) := by omega
  have e1 : Int.tdiv (n : Int) 86400 = ((n / 86400 : Nat) : Int) := quo_nat n 86400
  have e2 : Int.tmod (n : Int) 86400 = ((n % 86400 : Nat) : Int) := rem_nat n 86400
  obtain ⟨D, hD⟩ : ∃ D, D = n / 86400 := ⟨_, rfl⟩
  obtain ⟨r, hr⟩ : ∃ r, r = n % 86400 := ⟨_, rfl⟩
  rw [← hD] at e1
  rw [← hr] at e2
  have hDb : D ≤ 3000000 := by omega
  have hrb : r ≤ 86399 := by omega
  obtain ⟨k', d', y1, y2, y3, _⟩ := year_spec _ D 0 (Nat.le_refl _)
  obtain ⟨Y, hY⟩ : ∃ Y, Y = 1970 + k' := ⟨_, rfl⟩
  have HYF : Hid (yearO D 1970 = (Y, d')) := by show _ = _; rw [hY]; exact y1
  have HYD : Hid (d' < yd Y) := by show d' < yd Y; rw [hY]; exact y3
  have HCV : Hid (∀ m d2, monthO Y d' 1 = (m, d2) → civOf n = ⟨Y, m, d2 + 1, r / 3600, r / 60 % 60, r % 60⟩) := fun m d2 hm => by
    unfold civOf
    rw [← hD, ← hr, HYF.out]
    dsimp only
    rw [hm]
  have hYb : Y ≤ 5000000 := by
    have := yearO_le D 1970
    rw [HYF.out] at this
    dsimp only at this
    omega
  have hdb : d' ≤ 366 := by have := HYD.out; have := yd_le Y; omega
  have HY : Hid (∀ (y : Nat) w1, y ≤ 9000000000000000000 → Calls Tryd.prog 20 #[.int .i64 (y : Int)] w1 fun e w' => e = .returned (.int .i64 (yd y : Int)) ∧ w1 = w') := fun y w1 hy => rYd y w1 hy
  have HM : Hid (∀ (m : Nat) w1, 1 ≤ m → m ≤ 12 → Calls Tryd.prog 21 #[.int .i64 (Y : Int), .int .i64 (m : Int)] w1 fun e w' => e = .returned (.int .i64 (md Y m : Int)) ∧ Below w1.heap.size w1 w') := fun m w1 a b => rMd Y m w1 (by omega) a b
  clear hD hr y1 y2 y3 hY h
  go_enter Tryd.func10, Tryd.ntmps10
  go_wp2
  go_loop [4, 6] (fun dv yv => ∃ d y : Nat, dv = .int .i64 (d : Int) ∧ yv = .int .i64 (y : Int) ∧ Hid (yearO d y = (Y, d')) ∧ y + d ≤ 1970 + D) (fun dv _ => (intOf dv).toNat)
  case atStart => exact ⟨D, 1970, rfl, rfl, HYF.out, Nat.le_refl _⟩
  case round =>
    clear HYF
    obtain ⟨d, y, rfl, rfl, hyo, hyd⟩ := hrel
    have HYC := Lib.hid (HY.out y (w.alloc zeroO) (by omega))
    obtain ⟨q, hq⟩ : ∃ q, q = yd y := ⟨_, rfl⟩
    rw [← hq] at HYC
    have hq1 : 365 ≤ q := by rw [hq]; exact yd_ge y
    have hq2 : q ≤ 366 := by rw [hq]; exact yd_le y
    by_cases hle : q ≤ d
    · have i1 : (q : Int) ≤ (d : Int) := by omega
      have i2 : ((d : Int) - (q : Int)) = ((d - q : Nat) : Int) := by omega
      have HN : Hid (yearO (d - q) (y + 1) = (Y, d')) := by show _ = _; rw [hq, ← year_go (by omega)]; exact hyo.out
      clear hq hyo
      go_wp2_with (first | (go_at_call 20; refine HYC.out.mono ?_; rintro ee w1 ⟨rfl, rfl⟩; refine Hid.out ?_) | fail)
      refine Lib.hid ?_
      go_wp2_with (first | (go_at_call 20; refine HYC.out.mono ?_; rintro ee w1 ⟨rfl, rfl⟩; refine Hid.out ?_) | fail)
      refine Lib.hid ?_
      go_wp2
      go_round
      case rel => exact ⟨d - q, y + 1, by go_num, by go_num, HN, by omega⟩
      case measure => simp [intOf]; omega
    · have i1 : ¬ (q : Int) ≤ (d : Int) := by omega
      have HE : Hid (y = Y ∧ d = d') := by
        have := hyo.out
        rw [year_stop (by omega)] at this
        exact ⟨congrArg Prod.fst this, congrArg Prod.snd this⟩
      obtain ⟨rfl, rfl⟩ := HE.out
      clear hyo hq HE
      go_wp2_with (first | (go_at_call 20; refine HYC.out.mono ?_; rintro ee w1 ⟨rfl, rfl⟩; refine Hid.out ?_) | fail)
      refine Lib.hid ?_
      go_wp2
      clear HYC HY hq1 hq2 hle i1
      obtain ⟨M, d2, m1, m2, m3, m4, m5⟩ := month_spec y _ d 1 (Nat.le_refl _) (Nat.le_refl _) (by omega) (by simpa [befM] using HYD.out)
      have HCF : Hid (civOf n = ⟨y, M, d2 + 1, r / 3600, r / 60 % 60, r % 60⟩) := HCV.out M d2 m1
      obtain ⟨n0, hn0⟩ : ∃ n0, n0 = w.heap.size := ⟨_, rfl⟩
      have HN0 := Lib.hid hn0
      have HZ0 : Hid ((w.alloc zeroO).heap[n0]? = some zeroO) := by show _ = _; rw [hn0]; exact (MapKept.heap_alloc w _).1
      have HBW : Hid (Below w.heap.size w (w.alloc zeroO)) := Below.alloc1 w _
      have HMO : Hid (monthO y d 1 = (M, d2)) := m1
      have HBD : Hid (befM y (1 - 1) + d < yd y) := by show _ < _; simpa [befM] using HYD.out
      rw [← hn0]
      clear m1 m2 m3 m4 m5 HCV hn0
      go_loopw [4, 7] (fun dv mv wr => ∃ dd mm : Nat, dv = .int .i64 (dd : Int) ∧ mv = .int .i64 (mm : Int) ∧ 1 ≤ mm ∧ mm ≤ 12 ∧ dd ≤ 366 ∧ Hid (monthO y dd mm = (M, d2)) ∧ Hid (befM y (mm - 1) + dd < yd y) ∧ Hid (wr.heap[n0]? = some zeroO) ∧ Hid (Below w.heap.size w wr)) (fun _ mv _ => 13 - (intOf mv).toNat)
      case atStart => exact ⟨d, 1, rfl, rfl, by omega, by omega, by omega, HMO.out, HBD.out, HZ0.out, HBW.out⟩
      case round =>
        clear HMO HBD HZ0 HBW
        obtain ⟨dd, mm, rfl, rfl, hm1, hm2, hdd, hmo, hbd, hz, hbw⟩ := hrel
        obtain ⟨q, hq⟩ : ∃ q, q = md y mm := ⟨_, rfl⟩
        have HMC : Hid (∀ w1, Calls Tryd.prog 21 #[.int .i64 (y : Int), .int .i64 (mm : Int)] w1 fun e w' => e = .returned (.int .i64 (q : Int)) ∧ Below w1.heap.size w1 w') := fun w1 => by rw [hq]; exact HM.out mm w1 hm1 hm2
        have hq2 : q ≤ 31 := by rw [hq]; exact md_le y mm
        by_cases hle2 : q ≤ dd
        · have i1 : (q : Int) ≤ (dd : Int) := by omega
          have hb1 : befM y mm = befM y (mm - 1) + md y mm := by
            obtain ⟨j, rfl⟩ : ∃ j, mm = j + 1 := ⟨mm - 1, by omega⟩
            rw [befM]; simp
          have hm12 : mm ≠ 12 := fun e => by
            have := hbd.out
            rw [yd_eq, ← e, hb1] at this
            omega
          have HN : Hid (monthO y (dd - q) (mm + 1) = (M, d2)) := by show _ = _; rw [hq, ← month_go (by omega) hm2]; exact hmo.out
          have HB : Hid (befM y (mm + 1 - 1) + (dd - q) < yd y) := by
            show _ < _
            rw [Nat.add_sub_cancel, hb1]
            have := hbd.out
            omega
          clear hq hmo hbd hb1
          go_wp2_with (first | (go_at_call 21; refine (HMC.out _).mono ?_; rintro ee w2 ⟨rfl, hb2⟩; refine Hid.out ?_) | fail)
          refine Lib.hid ?_
          have hz2 : w2.heap[n0]? = some zeroO := (hb2.block n0 (heap_lt hz.out)).trans hz.out
          have hbw2 : Below w.heap.size w w2 := hbw.out.trans (hb2.mono hbw.out.size)
          have HZ2 := Lib.hid hz2
          have HBW2 := Lib.hid hbw2
          clear hb2 hz hbw hz2 hbw2
          go_wp2_with (first | (go_at_call 21; refine (HMC.out _).mono ?_; rintro ee w3 ⟨rfl, hb3⟩; refine Hid.out ?_) | fail)
          refine Lib.hid ?_
          have HZ3 : Hid (w3.heap[n0]? = some zeroO) := (hb3.block n0 (heap_lt HZ2.out)).trans HZ2.out
          have HBW3 : Hid (Below w.heap.size w w3) := HBW2.out.trans (hb3.mono HBW2.out.size)
          clear hb3 HZ2 HBW2
          go_wp2
          go_roundw
          case rel => exact ⟨dd - q, mm + 1, by go_num, by go_num, by omega, by omega, by omega, HN, HB, HZ3, HBW3⟩
          case measure => simp [intOf]; omega
        · have i1 : ¬ (q : Int) ≤ (dd : Int) := by omega
          have HE : Hid (mm = M ∧ dd = d2) := by
            have := hmo.out
            rw [month_stop (by omega)] at this
            exact ⟨congrArg Prod.fst this, congrArg Prod.snd this⟩
          obtain ⟨rfl, rfl⟩ := HE.out
          have e3 : Int.tdiv (r : Int) 3600 = ((r / 3600 : Nat) : Int) := quo_nat r 3600
          have e4 : Int.tdiv (r : Int) 60 = ((r / 60 : Nat) : Int) := quo_nat r 60
          have e5 : Int.tmod (r : Int) 60 = ((r % 60 : Nat) : Int) := rem_nat r 60
          have e6 : Int.tmod ((r / 60 : Nat) : Int) 60 = ((r / 60 % 60 : Nat) : Int) := rem_nat (r / 60) 60
          obtain ⟨a3, h3⟩ : ∃ a, a = r / 3600 := ⟨_, rfl⟩
          obtain ⟨a4, h4⟩ : ∃ a, a = r / 60 := ⟨_, rfl⟩
          obtain ⟨a5, h5⟩ : ∃ a, a = r % 60 := ⟨_, rfl⟩
          rw [← h3] at e3
          rw [← h4] at e4 e6
          rw [← h5] at e5
          obtain ⟨a6, h6⟩ : ∃ a, a = a4 % 60 := ⟨_, rfl⟩
          rw [← h6] at e6
          have hb3 : a3 ≤ 24 := by omega
          have hb4 : a4 ≤ 1500 := by omega
          have HCF2 : Hid (civOf n = ⟨y, mm, dd + 1, a3, a6, a5⟩) := by show _ = _; rw [HCF.out, h6, h3, h4, h5]
          clear hmo hq HE hbd h3 h4 h5 h6 HCF
          go_wp2_with (first | (go_at_call 21; refine (HMC.out _).mono ?_; rintro ee w2 ⟨rfl, hb2⟩; refine Hid.out ?_) | fail)
          refine Lib.hid ?_
          have hz2 : w2.heap[n0]? = some zeroO := (hb2.block n0 (heap_lt hz.out)).trans hz.out
          have HBW2 : Hid (Below w.heap.size w w2) := hbw.out.trans (hb2.mono hbw.out.size)
          have HZ2 := Lib.hid hz2
          have c0 := cell_of_row w2 n0 0 _ _ _ hz2
          have c1 := cell_of_row w2 n0 1 _ _ _ hz2
          have c2 := cell_of_row w2 n0 2 _ _ _ hz2
          have c3 := cell_of_row w2 n0 3 _ _ _ hz2
          have c4 := cell_of_row w2 n0 4 _ _ _ hz2
          have c5 := cell_of_row w2 n0 5 _ _ _ hz2
          have fz : ∀ i, w2.frozen? ⟨n0, i, none⟩ = false := fun i => by simp [World.frozen?, hz2]
          have f0 := fz 0
          have f1 := fz 1
          have f2 := fz 2
          have f3 := fz 3
          have f4 := fz 4
          have f5 := fz 5
          clear hb2 hz hbw hz2 fz
          go_wp2
          have HF := set_six (set_six (set_six (set_six (set_six (set_six HZ2.out 0 (.int .i64 (y : Int))) 1 (.int .i64 (mm : Int))) 2 (.int .i64 ((dd : Int) + 1))) 3 (.int .i64 (a3 : Int))) 4 (.int .i64 (a6 : Int))) 5 (.int .i64 (a5 : Int))
          have hn : w.heap.size ≤ n0 := by rw [HN0.out]; exact Nat.le_refl _
          have HBF := (((((HBW2.out.setCell (p := ⟨n0, 0, none⟩) hn (.int .i64 (y : Int))).setCell (p := ⟨n0, 1, none⟩) hn (.int .i64 (mm : Int))).setCell (p := ⟨n0, 2, none⟩) hn (.int .i64 ((dd : Int) + 1))).setCell (p := ⟨n0, 3, none⟩) hn (.int .i64 (a3 : Int))).setCell (p := ⟨n0, 4, none⟩) hn (.int .i64 (a6 : Int))).setCell (p := ⟨n0, 5, none⟩) hn (.int .i64 (a5 : Int))
          refine bodyPost_ret (results_civ Tryd.results10 rfl rfl HF) rfl ?_
          rw [HD.out, HCF2.out]
          exact ⟨rfl, HBF⟩
theorem rCivil (t : Int) (w : World) : Calls Tryd.prog 10 #[.int .i64 t] w (CivEnd t w) := by
  by_cases h : t < 0 ∨ 253402300799 < t
  · exact rCivNo t w h
  · obtain ⟨n, rfl⟩ := Int.eq_ofNat_of_zero_le (show 0 ≤ t by omega)
    exact rCivYes n w (by omega)
end Go.Proofs.YtklhgaioolamfaaDoor.Date
