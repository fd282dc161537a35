/-
  DATE, the given answers: ahead.
-/
import Derived.Test.YtklhgaioolamfaaDoorDatZon
namespace Go.Proofs.YtklhgaioolamfaaDoor.Date
open Go.RowKit Base
theorem befM_le (y : Nat) : ∀ k, befM y k ≤ 31 * k
  | 0 => Nat.le_refl _
  | k + 1 => by have := befM_le y k; have := md_le y (k + 1); rw [befM]; omega
theorem befY_le : ∀ k, befY k ≤ 366 * k
  | 0 => Nat.le_refl _
  | k + 1 => by have := befY_le k; have := yd_le (1970 + k); rw [befY]; omega
theorem revF_le (y : Nat) : ∀ k, revF y k ≤ 366 * k
  | 0 => Nat.le_refl _
  | k + 1 => by have := revF_le y k; have := yd_le (y + k); rw [revF]; omega
set_option maxHeartbeats 8000000 in
set_option maxRecDepth 100000 in
theorem rAhead (y m d : Nat) (w : World) (hy : y ≤ 9999) (hm1 : 1 ≤ m) (hm2 : m ≤ 12) (hd1 : 1 ≤ d) (hd2 : d ≤ 99) : Calls Tryd.prog 32 #[.int .i64 (y : Int), .int .i64 (m : Int), .int .i64 (d : Int)] w fun e w' => e = .returned (.int .i64 (aheadZ y m d)) ∧ Below w.heap.size w w' := by
  have HY : Hid (∀ (y : Nat) w1, y ≤ 9000000000000000000 → Calls Tryd.prog 20 #[.int .i64 (y : Int)] w1 fun e w' => e = .returned (.int .i64 (yd y : Int)) ∧ w1 = w') := fun y w1 hy => rYd y w1 hy
  have HM : Hid (∀ (m : Nat) w1, 1 ≤ m → m ≤ 12 → Calls Tryd.prog 21 #[.int .i64 (y : Int), .int .i64 (m : Int)] w1 fun e w' => e = .returned (.int .i64 (md y m : Int)) ∧ Below w1.heap.size w1 w') := fun m w1 a b => rMd y m w1 (by omega) a b
  obtain ⟨fin, hfin⟩ : ∃ fin, fin = aheadZ y m d := ⟨_, rfl⟩
  rw [← hfin]
  have HF := Lib.hid hfin
  have e1 : (d : Int) - 1 = ((d - 1 : Nat) : Int) := by omega
  have HD := Lib.hid hd1
  clear hfin hd1
  go_enter Tryd.func32, Tryd.ntmps32
  go_wp2
  go_loopw [7, 8] (fun nv iv wr => ∃ n i : Nat, nv = .int .i64 (n : Int) ∧ iv = .int .i64 (i : Int) ∧ 1 ≤ i ∧ i ≤ m ∧ n ≤ 99 + 31 * i ∧ Hid (n = d - 1 + befM y (i - 1)) ∧ Hid (Below w.heap.size w wr)) (fun _ iv _ => m - (intOf iv).toNat)
  case atStart => exact ⟨d - 1, 1, rfl, rfl, by omega, by omega, by omega, by show _ = _; simp [befM], Below.refl _ _⟩
  case round =>
    obtain ⟨n, i, rfl, rfl, hi1, hi2, hn, hq, hb⟩ := hrel
    by_cases hlt : i < m
    · have i1 : (i : Int) < (m : Int) := by omega
      obtain ⟨q, hqd⟩ : ∃ q, q = md y i := ⟨_, rfl⟩
      have HMC : Hid (∀ w1, Calls Tryd.prog 21 #[.int .i64 (y : Int), .int .i64 (i : Int)] w1 fun e w' => e = .returned (.int .i64 (q : Int)) ∧ Below w1.heap.size w1 w') := fun w1 => by rw [hqd]; exact HM.out i w1 (by omega) (by omega)
      have hq2 : q ≤ 31 := by rw [hqd]; exact md_le y i
      have HN : Hid (n + q = d - 1 + befM y (i + 1 - 1)) := by
        show _ = _
        rw [Nat.add_sub_cancel, hq.out, hqd]
        obtain ⟨j, rfl⟩ : ∃ j, i = j + 1 := ⟨i - 1, by omega⟩
        rw [befM, Nat.add_sub_cancel, Nat.add_assoc]
      clear hqd hq
      go_wp2_with (first | (go_at_call 21; refine (HMC.out _).mono ?_; rintro ee w2 ⟨rfl, hb2⟩; refine Hid.out ?_) | fail)
      refine Lib.hid ?_
      have HB2 : Hid (Below w.heap.size w w2) := hb.out.trans (hb2.mono hb.out.size)
      clear hb2
      go_wp2
      go_roundw
      case rel => exact ⟨n + q, i + 1, by go_num, by go_num, by omega, by omega, by omega, HN, HB2⟩
      case measure => simp [intOf]; omega
    · have i1 : ¬ (i : Int) < (m : Int) := by omega
      have HN1 : Hid (n = d - 1 + befM y (m - 1)) := by
        show _ = _
        rw [hq.out, show i = m by omega]
      have hn2 : n ≤ 500 := by omega
      clear hq hn
      go_wp2
      go_loop [7, 9] (fun nv jv => ∃ n2 j : Nat, nv = .int .i64 (n2 : Int) ∧ jv = .int .i64 (j : Int) ∧ 1970 ≤ j ∧ j ≤ 1970 + (y - 1970) ∧ n2 ≤ 500 + 366 * (j - 1970) ∧ Hid (n2 = n + befY (j - 1970))) (fun _ jv => y - (intOf jv).toNat)
      case atStart => exact ⟨n, 1970, rfl, rfl, by omega, by omega, by omega, by show _ = _; simp [befY]⟩
      case round =>
        obtain ⟨n2, j, rfl, rfl, hj1, hj2, hn3, hq⟩ := hrel
        by_cases hlt2 : j < y
        · have k1 : (j : Int) < (y : Int) := by omega
          obtain ⟨q, hqd⟩ : ∃ q, q = yd j := ⟨_, rfl⟩
          have HYC : Hid (∀ w1, Calls Tryd.prog 20 #[.int .i64 (j : Int)] w1 fun e w' => e = .returned (.int .i64 (q : Int)) ∧ w1 = w') := fun w1 => by rw [hqd]; exact HY.out j w1 (by omega)
          have hq2 : q ≤ 366 := by rw [hqd]; exact yd_le j
          have HN : Hid (n2 + q = n + befY (j + 1 - 1970)) := by
            show _ = _
            rw [hq.out, hqd, show j + 1 - 1970 = j - 1970 + 1 by omega, befY, show 1970 + (j - 1970) = j by omega, Nat.add_assoc]
          clear hqd hq
          go_wp2_with (first | (go_at_call 20; refine (HYC.out _).mono ?_; rintro ee w2 ⟨rfl, rfl⟩; refine Hid.out ?_) | fail)
          refine Lib.hid ?_
          go_wp2
          go_round
          case rel => exact ⟨n2 + q, j + 1, by go_num, by go_num, by omega, by omega, by omega, HN⟩
          case measure => simp [intOf]; omega
        · have k1 : ¬ (j : Int) < (y : Int) := by omega
          have HN2 : Hid (n2 = n + befY (y - 1970)) := by
            show _ = _
            rw [hq.out, show j - 1970 = y - 1970 by omega]
          have hn4 : n2 ≤ 5000000 := by omega
          clear hq hn3
          go_wp2
          go_loop [7, 10] (fun nv jv => ∃ (z : Int) (j3 : Nat), nv = .int .i64 z ∧ jv = .int .i64 (j3 : Int) ∧ y ≤ j3 ∧ j3 ≤ y + (1970 - y) ∧ z ≤ 5000000 ∧ -366 * ((j3 : Int) - (y : Int)) ≤ z ∧ Hid (z = (n2 : Int) - (revF y (j3 - y) : Int))) (fun _ jv => 1970 - (intOf jv).toNat)
          case atStart => exact ⟨n2, y, rfl, rfl, by omega, by omega, by omega, by omega, by show _ = _; simp [revF]⟩
          case round =>
            obtain ⟨z, j3, rfl, rfl, hz1, hz2, hz3, hz4, hq⟩ := hrel
            by_cases hlt3 : j3 < 1970
            · have k2 : (j3 : Int) < 1970 := by omega
              obtain ⟨q, hqd⟩ : ∃ q, q = yd j3 := ⟨_, rfl⟩
              have HYC : Hid (∀ w1, Calls Tryd.prog 20 #[.int .i64 (j3 : Int)] w1 fun e w' => e = .returned (.int .i64 (q : Int)) ∧ w1 = w') := fun w1 => by rw [hqd]; exact HY.out j3 w1 (by omega)
              have hq2 : q ≤ 366 := by rw [hqd]; exact yd_le j3
              have HN : Hid (z - (q : Int) = (n2 : Int) - (revF y (j3 + 1 - y) : Int)) := by
                show _ = _
                rw [hq.out, hqd, show j3 + 1 - y = j3 - y + 1 by omega, revF, show y + (j3 - y) = j3 by omega]
                omega
              clear hqd hq
              go_wp2_with (first | (go_at_call 20; refine (HYC.out _).mono ?_; rintro ee w2 ⟨rfl, rfl⟩; refine Hid.out ?_) | fail)
              refine Lib.hid ?_
              go_wp2
              go_round
              case rel => exact ⟨z - q, j3 + 1, by first | rfl | go_num, by go_num, by omega, by omega, by omega, by omega, HN⟩
              case measure => simp [intOf]; omega
            · have k2 : ¬ (j3 : Int) < 1970 := by omega
              have HE : Hid (fin = z) := by
                show _ = _
                rw [HF.out, hq.out, HN2.out, HN1.out, show j3 - y = 1970 - y by omega]
                unfold aheadZ
                have := HD.out
                omega
              clear hq
              go_wp2
              go_ret
              rw [HE.out]
              exact ⟨rfl, hb.out⟩
end Go.Proofs.YtklhgaioolamfaaDoor.Date
