/-
  DATE, the program: a day's date.
-/
import Derived.Test.YtklhgaioolamfaaDoorDpCiv
namespace Go.Proofs.YtklhgaioolamfaaDoor.Date
open Go.RowKit Base
theorem befY_ge : ∀ k, 365 * k ≤ befY k
  | 0 => Nat.le_refl _
  | k + 1 => by have := befY_ge k; have := yd_ge (1970 + k); rw [befY]; omega
set_option maxHeartbeats 8000000 in
set_option maxRecDepth 100000 in
theorem pCivD (n : Nat) (w : World) (hv : Vars w) (h : n ≤ 253402300799) : Calls Tryd.prog 18 #[.int .i64 ((n / 86400 : Nat) : Int)] w fun e w' => e = .returned (.agg (threeV (civOf n).y (civOf n).m (civOf n).d)) ∧ Below w.heap.size w w' := by
  obtain ⟨D, hD⟩ : ∃ D, D = n / 86400 := ⟨_, rfl⟩
  rw [← hD]
  have hDb : D ≤ 3000000 := by omega
  have HCV : Hid (∀ Y d' m d2, yearO D 1970 = (Y, d') → monthO Y d' 1 = (m, d2) → (civOf n).y = Y ∧ (civOf n).m = m ∧ (civOf n).d = d2 + 1) := fun Y d' m d2 hy hm => by
    unfold civOf
    rw [← hD, hy]
    dsimp only
    rw [hm]
    exact ⟨rfl, rfl, rfl⟩
  generalize civOf n = C at HCV
  have hv0 : Vars (w.alloc zero3) := hv.on (Below.alloc1 w _)
  have HY : Hid (∀ (y : Nat) w1, y ≤ 9000000000 → Calls Tryd.prog 40 #[.int .i64 (y : Int)] w1 fun e w' => e = .returned (.int .i64 (newZ y)) ∧ w1 = w') := fun y w1 hy => pNew y w1 hy
  have HM : Hid (∀ (y k : Nat), y ≤ 9000000000 → 1 ≤ k → k ≤ 12 → Calls Tryd.prog 41 #[.int .i64 (y : Int), .int .i64 (k : Int)] (w.alloc zero3) fun e w' => e = .returned (.int .i64 (md y k : Int)) ∧ (w.alloc zero3) = w') := fun y k hy a b => pDays y k _ hv0 (by omega) a b
  have e1 : Int.tdiv (D : Int) 366 = ((D / 366 : Nat) : Int) := quo_nat D 366
  have HYF := Lib.hid (year_from D)
  obtain ⟨K, hK⟩ : ∃ K, K = D / 366 := ⟨_, rfl⟩
  rw [← hK] at HYF e1
  have hKb : K ≤ D := by omega
  clear hD hK hv hv0 h
  go_enter Tryd.func18, Tryd.ntmps18
  go_wp2
  go_loop [3] (fun yv => ∃ k : Nat, yv = .int .i64 (1970 + (k : Int)) ∧ Hid (befY k ≤ D) ∧ k ≤ D) (fun yv => 1970 + D - (intOf yv).toNat)
  case atStart => exact ⟨K, by go_num, HYF.out, hKb⟩
  case round =>
    clear HYF
    obtain ⟨k, rfl, hbk, hkd⟩ := hrel
    have HYC := Lib.hid (HY.out (1970 + k + 1) (w.alloc zero3) (by omega))
    have en : newZ (1970 + k + 1) = (befY (k + 1) : Int) := new_bef (k + 1)
    rw [en, show ((1970 + k + 1 : Nat) : Int) = 1970 + (k : Int) + 1 by omega] at HYC
    obtain ⟨q, hq⟩ : ∃ q, q = befY (k + 1) := ⟨_, rfl⟩
    rw [← hq] at HYC
    have HQ := Lib.hid hq
    have hqb : q ≤ 2000000000 := by rw [hq]; have := befY_le (k + 1); omega
    clear en hq
    by_cases hle : q ≤ D
    · have i1 : (q : Int) ≤ (D : Int) := by omega
      have HB2 : Hid (befY (k + 1) ≤ D) := by show _ ≤ _; rw [← HQ.out]; exact hle
      have hk2 : k + 1 ≤ D := by have := befY_ge (k + 1); have := HB2.out; omega
      clear hbk HQ hle
      go_wp2_with (first | (go_at_call 40; refine HYC.out.mono ?_; rintro ee w2 ⟨rfl, rfl⟩; refine Hid.out ?_) | fail)
      refine Lib.hid ?_
      go_wp2
      go_round
      case rel => exact ⟨k + 1, by go_num, HB2, hk2⟩
      case measure => simp [intOf]; omega
    · have i1 : ¬ (q : Int) ≤ (D : Int) := by omega
      have hbk2 := hbk.out
      have HYO : Hid (yearO D 1970 = (1970 + k, D - befY k)) := year_at hbk2 (by rw [← HQ.out]; omega)
      have HYL : Hid (D - befY k < yd (1970 + k)) := by
        show _ < _
        have := HQ.out
        rw [befY] at this
        omega
      have HYC2 := Lib.hid (HY.out (1970 + k) (w.alloc zero3) (by omega))
      rw [new_bef k, show ((1970 + k : Nat) : Int) = 1970 + (k : Int) by omega] at HYC2
      obtain ⟨b, hb⟩ : ∃ b, b = befY k := ⟨_, rfl⟩
      obtain ⟨d, hd⟩ : ∃ d, d = D - befY k := ⟨_, rfl⟩
      rw [← hb] at HYC2 hbk2
      rw [← hd] at HYO HYL
      have e2 : (D : Int) - (b : Int) = (d : Int) := by omega
      have hdb : d ≤ 366 := by have := HYL.out; have := yd_le (1970 + k); omega
      obtain ⟨M, d2, m1, m2, m3, m4, m5⟩ := month_spec (1970 + k) _ d 1 (Nat.le_refl _) (Nat.le_refl _) (by omega) (by have := HYL.out; simpa [befM] using this)
      have HMO : Hid (monthO (1970 + k) d 1 = (M, d2)) := m1
      have HCF : Hid (C.y = 1970 + k ∧ C.m = M ∧ C.d = d2 + 1) := HCV.out _ _ _ _ HYO.out m1
      have HBD : Hid (befM (1970 + k) (1 - 1) + d < yd (1970 + k)) := by show _ < _; have := HYL.out; simpa [befM] using this
      have hbq : b ≤ 2000000000 := by omega
      clear hle hbk HYO HYL m1 m2 m3 m4 m5 hb hd HCV HQ
      go_wp2_with (first | (go_at_call 40; refine HYC.out.mono ?_; rintro ee w2 ⟨rfl, rfl⟩; refine Hid.out ?_) | fail)
      refine Lib.hid ?_
      go_wp2_with (first | (go_at_call 40; refine HYC2.out.mono ?_; rintro ee w2 ⟨rfl, rfl⟩; refine Hid.out ?_) | fail)
      refine Lib.hid ?_
      clear HYC HYC2
      go_wp2
      go_loop [4, 5] (fun dv mv => ∃ dd mm : Nat, dv = .int .i64 (dd : Int) ∧ mv = .int .i64 (mm : Int) ∧ 1 ≤ mm ∧ mm ≤ 12 ∧ dd ≤ 366 ∧ Hid (monthO (1970 + k) dd mm = (M, d2)) ∧ Hid (befM (1970 + k) (mm - 1) + dd < yd (1970 + k))) (fun _ mv => 13 - (intOf mv).toNat)
      case atStart => exact ⟨d, 1, by first | rfl | go_num, rfl, by omega, by omega, by omega, HMO.out, HBD.out⟩
      case round =>
        clear HMO HBD
        obtain ⟨dd, mm, rfl, rfl, hm1, hm2, hdd, hmo, hbd⟩ := hrel
        obtain ⟨q, hq⟩ : ∃ q, q = md (1970 + k) mm := ⟨_, rfl⟩
        have HMC : Hid (Calls Tryd.prog 41 #[.int .i64 (1970 + (k : Int)), .int .i64 (mm : Int)] (w.alloc zero3) fun e w' => e = .returned (.int .i64 (q : Int)) ∧ (w.alloc zero3) = w') := by
          have := HM.out (1970 + k) mm (by omega) hm1 hm2
          rw [← hq, show ((1970 + k : Nat) : Int) = 1970 + (k : Int) by omega] at this
          exact this
        have hq2 : q ≤ 31 := by rw [hq]; exact md_le _ mm
        by_cases hle2 : q ≤ dd
        · have i2 : (q : Int) ≤ (dd : Int) := by omega
          have hb1 : befM (1970 + k) mm = befM (1970 + k) (mm - 1) + md (1970 + k) mm := by
            obtain ⟨j, rfl⟩ : ∃ j, mm = j + 1 := ⟨mm - 1, by omega⟩
            rw [befM]; simp
          have hm12 : mm ≠ 12 := fun e => by
            have := hbd.out
            rw [yd_eq, ← e, hb1] at this
            omega
          have HN : Hid (monthO (1970 + k) (dd - q) (mm + 1) = (M, d2)) := by show _ = _; rw [hq, ← month_go (by omega) hm2]; exact hmo.out
          have HB : Hid (befM (1970 + k) (mm + 1 - 1) + (dd - q) < yd (1970 + k)) := by
            show _ < _
            rw [Nat.add_sub_cancel, hb1]
            have := hbd.out
            omega
          clear hq hmo hbd hb1
          go_wp2_with (first | (go_at_call 41; refine HMC.out.mono ?_; rintro ee w2 ⟨rfl, rfl⟩; refine Hid.out ?_) | fail)
          refine Lib.hid ?_
          go_wp2_with (first | (go_at_call 41; refine HMC.out.mono ?_; rintro ee w2 ⟨rfl, rfl⟩; refine Hid.out ?_) | fail)
          refine Lib.hid ?_
          go_wp2
          go_round
          case rel => exact ⟨dd - q, mm + 1, by go_num, by go_num, by omega, by omega, by omega, HN, HB⟩
          case measure => simp [intOf]; omega
        · have i2 : ¬ (q : Int) ≤ (dd : Int) := by omega
          have HE : Hid (mm = M ∧ dd = d2) := by
            have := hmo.out
            rw [month_stop (by omega)] at this
            exact ⟨congrArg Prod.fst this, congrArg Prod.snd this⟩
          clear hmo hq hbd
          go_wp2_with (first | (go_at_call 41; refine HMC.out.mono ?_; rintro ee w2 ⟨rfl, rfl⟩; refine Hid.out ?_) | fail)
          refine Lib.hid ?_
          go_wp2
          refine bodyPost_ret (results_three Tryd.results18 rfl (MapKept.heap_alloc w _).1) rfl ?_
          obtain ⟨x1, x2, x3⟩ := HCF.out
          obtain ⟨x4, x5⟩ := HE.out
          rw [x1, x2, x3, ← x4, ← x5, show ((1970 + k : Nat) : Int) = 1970 + (k : Int) by omega, show ((dd + 1 : Nat) : Int) = (dd : Int) + 1 by omega]
          exact ⟨rfl, Below.alloc1 w _⟩
end Go.Proofs.YtklhgaioolamfaaDoor.Date
