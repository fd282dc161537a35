/-
  DATE, the given answers: clock.
-/
import Derived.Test.YtklhgaioolamfaaDoorDatPl
import Derived.Deep.CutBlock
namespace Go.Proofs.YtklhgaioolamfaaDoor.Date
open Go.RowKit Base
theorem numG_le : ∀ (l : List UInt8) (n : Nat), numG n l ≤ ((n + 1) * 10 ^ l.length - 1 : Int)
  | [], n => by simp [numG]
  | c :: r, n => by
    rw [numG]
    split
    · have h1 : (1 : Int) ≤ (n + 1 : Int) * 10 ^ (c :: r).length := by
        have : (1 : Nat) ≤ (n + 1) * 10 ^ (c :: r).length := Nat.mul_pos (by omega) (Nat.pow_pos (by decide))
        exact_mod_cast this
      omega
    · have := numG_le r (10 * n + c.toNat - 48)
      refine Int.le_trans this ?_
      have h2 : (10 * n + c.toNat - 48 + 1) * 10 ^ r.length ≤ (n + 1) * 10 ^ (c :: r).length := by
        rw [List.length_cons, Nat.pow_succ, Nat.mul_comm (10 ^ r.length), ← Nat.mul_assoc]
        exact Nat.mul_le_mul_right _ (by omega)
      have h3 : (((10 * n + c.toNat - 48 : Nat) : Int) + 1) * 10 ^ r.length ≤ ((n : Int) + 1) * 10 ^ (c :: r).length := by exact_mod_cast h2
      omega
theorem num2_le (l : List UInt8) : numD l 2 2 ≤ 99 := by
  unfold numD
  split
  · omega
  · have := numG_le l 0
    rw [show l.length = 2 by omega] at this
    simpa using this
theorem time_no {h m s : Int} (x : h < 0 ∨ 23 < h ∨ m < 0 ∨ 59 < m ∨ s < 0 ∨ 59 < s) : timeOf h m s = -1 := if_pos x
theorem time_yes {h m s : Int} (x : ¬ (h < 0 ∨ 23 < h ∨ m < 0 ∨ 59 < m ∨ s < 0 ∨ 59 < s)) : timeOf h m s = 3600 * h + 60 * m + s := if_neg x
/-- The ways of a time. -/
theorem time_ways (h m s : Int) : h < 0 ∨ (¬ h < 0 ∧ 23 < h) ∨ (¬ h < 0 ∧ ¬ 23 < h ∧ m < 0) ∨ (¬ h < 0 ∧ ¬ 23 < h ∧ ¬ m < 0 ∧ 59 < m) ∨ (¬ h < 0 ∧ ¬ 23 < h ∧ ¬ m < 0 ∧ ¬ 59 < m ∧ s < 0) ∨ (¬ h < 0 ∧ ¬ 23 < h ∧ ¬ m < 0 ∧ ¬ 59 < m ∧ ¬ s < 0 ∧ 59 < s) ∨ (¬ h < 0 ∧ ¬ 23 < h ∧ ¬ m < 0 ∧ ¬ 59 < m ∧ ¬ s < 0 ∧ ¬ 59 < s) := by
  by_cases a : h < 0 <;> by_cases b : 23 < h <;> by_cases c : m < 0 <;> by_cases d : 59 < m <;> by_cases e : s < 0 <;> by_cases f : 59 < s <;> simp [a, b, c, d, e, f]
set_option maxHeartbeats 8000000 in
set_option maxRecDepth 100000 in
theorem rClock (s : ByteArray) (w : World) : Calls Tryd.prog 30 #[.string s] w fun e w' => e = .returned (.int .i64 (clockD s.data.toList)) ∧ w = w' := by
  obtain ⟨l, hll⟩ : ∃ l, l = s.data.toList := ⟨_, rfl⟩
  have hlen : l.length = s.size := by rw [hll, str_len]
  have HLS : Hid (∀ k (h : k < s.size), l.getD k 0 = s[k]) := fun k h => by rw [hll]; exact str_get s k h
  obtain ⟨fin, hfin⟩ : ∃ fin, fin = clockD l := ⟨_, rfl⟩
  rw [← hll, ← hfin]
  have HF : Hid (fin = if clockOk l = true then timeOf (numD (l.take 2) 2 2) (numD ((l.drop 3).take 2) 2 2) (if l.length = 8 then numD (l.drop 6) 2 2 else 0) else -1) := hfin
  have HNO : Hid (clockOk l = false → fin = -1) := fun h => by rw [HF.out, if_neg (by rw [h]; decide)]
  have HN1 : Hid (∀ a b w1, Calls Tryd.prog 29 #[.string (s.extract a b), .int .i64 2, .int .i64 2] w1 fun e w' => e = .returned (.int .i64 (numD ((l.take b).drop a) 2 2)) ∧ w1 = w') := fun a b w1 => by
    have := rNumber (s.extract a b) 2 2 w1 (by omega) (by omega)
    have eb : (s.extract a b).data.toList = (l.take b).drop a := by rw [extract_bytes, ← hll]
    rw [eb, show ((2 : Nat) : Int) = 2 from rfl] at this
    exact this
  obtain ⟨h, hh⟩ : ∃ h, h = numD (l.take 2) 2 2 := ⟨_, rfl⟩
  obtain ⟨m, hm⟩ : ∃ m, m = numD ((l.drop 3).take 2) 2 2 := ⟨_, rfl⟩
  obtain ⟨c, hc⟩ : ∃ c, c = numD (l.drop 6) 2 2 := ⟨_, rfl⟩
  rw [← hh, ← hm, ← hc] at HF
  have HRR : Hid (h ≤ 99 ∧ m ≤ 99 ∧ c ≤ 99) := ⟨by rw [hh]; exact num2_le _, by rw [hm]; exact num2_le _, by rw [hc]; exact num2_le _⟩
  have HH : Hid (∀ w1, Calls Tryd.prog 29 #[.string (s.extract 0 2), .int .i64 2, .int .i64 2] w1 fun e w' => e = .returned (.int .i64 h) ∧ w1 = w') := fun w1 => by
    have := HN1.out 0 2 w1
    rwa [List.drop_zero, ← hh] at this
  have HM : Hid (∀ w1, Calls Tryd.prog 29 #[.string (s.extract 3 5), .int .i64 2, .int .i64 2] w1 fun e w' => e = .returned (.int .i64 m) ∧ w1 = w') := fun w1 => by
    have := HN1.out 3 5 w1
    rwa [List.drop_take, ← hm] at this
  have HC : Hid (∀ w1, Calls Tryd.prog 29 #[.string (s.extract 6 s.size), .int .i64 2, .int .i64 2] w1 fun e w' => e = .returned (.int .i64 c) ∧ w1 = w') := fun w1 => by
    have := HN1.out 6 s.size w1
    rwa [List.take_of_length_le (by omega), ← hc] at this
  clear HN1 hfin hll hh hm hc
  have HOK : Hid (clockOk l = decide ((s.size = 5 ∨ s.size = 8) ∧ (l.getD 2 0).toNat = 58 ∧ (s.size = 8 → (l.getD 5 0).toNat = 58))) := by show _ = _; rw [← hlen]; rfl
  by_cases h5 : s.size = 5
  · have e5 : ((s.size : Int) != 5) = false := by rw [h5]; rfl
    have e8 : ((s.size : Int) == 8) = false := by rw [h5]; rfl
    have k2 : (2 : Int) < (s.size : Int) := by omega
    have k5 : (5 : Int) ≤ (s.size : Int) := by omega
    have p2 : 2 < s.size := by omega
    have g2 := HLS.out 2 p2
    by_cases hc2 : (s[2]'p2).toNat = 58
    · have e2 : (((s[2]'p2).toNat : Int) != 58) = false := by rw [hc2]; rfl
      have HY : Hid (fin = timeOf h m 0) := by
        show _ = _
        rw [HF.out, if_pos (by rw [HOK.out, g2, hc2, h5]; rfl), if_neg (by omega)]
      clear HF h5 hc2 g2 HOK
      rcases time_ways h m (0 : Int) with x | ⟨x1, x⟩ | ⟨x1, x2, x⟩ | ⟨x1, x2, x3, x⟩ | ⟨x1, x2, x3, x4, x⟩ | ⟨x1, x2, x3, x4, x5, x⟩ | ⟨x1, x2, x3, x4, x5, x⟩
      · have HE : Hid (fin = -1) := by show _ = _; rw [HY.out, time_no (Or.inl x)]
        clear HY
        go_enter Tryd.func30, Tryd.ntmps30
        go_wp2_with (first | (go_at_call 29; refine (HH.out _).mono ?_; rintro ee w1 ⟨rfl, rfl⟩; refine Hid.out ?_) | fail)
        refine Lib.hid ?_
        go_wp2_with (first | (go_at_call 29; refine (HM.out _).mono ?_; rintro ee w1 ⟨rfl, rfl⟩; refine Hid.out ?_) | fail)
        refine Lib.hid ?_
        go_wp2
        go_ret
        rw [HE.out]
        exact ⟨rfl, rfl⟩
      · have HE : Hid (fin = -1) := by show _ = _; rw [HY.out, time_no (Or.inr (Or.inl x))]
        clear HY
        go_enter Tryd.func30, Tryd.ntmps30
        go_wp2_with (first | (go_at_call 29; refine (HH.out _).mono ?_; rintro ee w1 ⟨rfl, rfl⟩; refine Hid.out ?_) | fail)
        refine Lib.hid ?_
        go_wp2_with (first | (go_at_call 29; refine (HM.out _).mono ?_; rintro ee w1 ⟨rfl, rfl⟩; refine Hid.out ?_) | fail)
        refine Lib.hid ?_
        go_wp2
        go_ret
        rw [HE.out]
        exact ⟨rfl, rfl⟩
      · have HE : Hid (fin = -1) := by show _ = _; rw [HY.out, time_no (Or.inr (Or.inr (Or.inl x)))]
        clear HY
        go_enter Tryd.func30, Tryd.ntmps30
        go_wp2_with (first | (go_at_call 29; refine (HH.out _).mono ?_; rintro ee w1 ⟨rfl, rfl⟩; refine Hid.out ?_) | fail)
        refine Lib.hid ?_
        go_wp2_with (first | (go_at_call 29; refine (HM.out _).mono ?_; rintro ee w1 ⟨rfl, rfl⟩; refine Hid.out ?_) | fail)
        refine Lib.hid ?_
        go_wp2
        go_ret
        rw [HE.out]
        exact ⟨rfl, rfl⟩
      · have HE : Hid (fin = -1) := by show _ = _; rw [HY.out, time_no (Or.inr (Or.inr (Or.inr (Or.inl x))))]
        clear HY
        go_enter Tryd.func30, Tryd.ntmps30
        go_wp2_with (first | (go_at_call 29; refine (HH.out _).mono ?_; rintro ee w1 ⟨rfl, rfl⟩; refine Hid.out ?_) | fail)
        refine Lib.hid ?_
        go_wp2_with (first | (go_at_call 29; refine (HM.out _).mono ?_; rintro ee w1 ⟨rfl, rfl⟩; refine Hid.out ?_) | fail)
        refine Lib.hid ?_
        go_wp2
        go_ret
        rw [HE.out]
        exact ⟨rfl, rfl⟩
      · exact absurd x (by omega)
      · exact absurd x (by omega)
      · have HE : Hid (fin = 3600 * h + 60 * m) := by show _ = _; rw [HY.out, time_yes (by omega), Int.add_zero]
        clear HY
        go_enter Tryd.func30, Tryd.ntmps30
        go_wp2_with (first | (go_at_call 29; refine (HH.out _).mono ?_; rintro ee w1 ⟨rfl, rfl⟩; refine Hid.out ?_) | fail)
        refine Lib.hid ?_
        go_wp2_with (first | (go_at_call 29; refine (HM.out _).mono ?_; rintro ee w1 ⟨rfl, rfl⟩; refine Hid.out ?_) | fail)
        refine Lib.hid ?_
        go_wp2
        go_ret
        rw [HE.out]
        exact ⟨rfl, rfl⟩
    · have e2 : (((s[2]'p2).toNat : Int) != 58) = true := by rw [bne_iff_ne]; omega
      have HE : Hid (fin = -1) := HNO.out (by rw [HOK.out, g2]; exact decide_eq_false (fun x => hc2 x.2.1))
      clear HF h5 hc2 g2 HOK
      go_enter Tryd.func30, Tryd.ntmps30
      go_wp2
      go_ret
      rw [HE.out]
      exact ⟨rfl, rfl⟩
  · have e5 : ((s.size : Int) != 5) = true := by rw [bne_iff_ne]; omega
    by_cases h8 : s.size = 8
    · have e8 : ((s.size : Int) == 8) = true := by rw [h8]; rfl
      have e8' : ((s.size : Int) != 8) = false := by rw [h8]; rfl
      have k2 : (2 : Int) < (s.size : Int) := by omega
      have k5 : (5 : Int) ≤ (s.size : Int) := by omega
      have k55 : (5 : Int) < (s.size : Int) := by omega
      have k6 : (6 : Int) ≤ (s.size : Int) := by omega
      have p2 : 2 < s.size := by omega
      have p5 : 5 < s.size := by omega
      have g2 := HLS.out 2 p2
      have g5 := HLS.out 5 p5
      by_cases hc2 : (s[2]'p2).toNat = 58
      · have e2 : (((s[2]'p2).toNat : Int) != 58) = false := by rw [hc2]; rfl
        by_cases hc5 : (s[5]'p5).toNat = 58
        · have e25 : (((s[5]'p5).toNat : Int) != 58) = false := by rw [hc5]; rfl
          have HY : Hid (fin = timeOf h m c) := by
            show _ = _
            rw [HF.out, if_pos (by rw [HOK.out, g2, g5, hc2, hc5, h8]; rfl), if_pos (by omega)]
          clear HF h5 h8 hc2 hc5 g2 g5 HOK
          rcases time_ways h m c with x | ⟨x1, x⟩ | ⟨x1, x2, x⟩ | ⟨x1, x2, x3, x⟩ | ⟨x1, x2, x3, x4, x⟩ | ⟨x1, x2, x3, x4, x5, x⟩ | ⟨x1, x2, x3, x4, x5, x⟩
          · have HE : Hid (fin = -1) := by show _ = _; rw [HY.out, time_no (Or.inl x)]
            clear HY
            go_enter Tryd.func30, Tryd.ntmps30
            go_wp2_with (first | (go_at_call 29; refine (HH.out _).mono ?_; rintro ee w1 ⟨rfl, rfl⟩; refine Hid.out ?_) | fail)
            refine Lib.hid ?_
            go_wp2_with (first | (go_at_call 29; refine (HM.out _).mono ?_; rintro ee w1 ⟨rfl, rfl⟩; refine Hid.out ?_) | fail)
            refine Lib.hid ?_
            go_wp2_with (first | (go_at_call 29; refine (HC.out _).mono ?_; rintro ee w1 ⟨rfl, rfl⟩; refine Hid.out ?_) | fail)
            refine Lib.hid ?_
            go_wp2
            go_ret
            rw [HE.out]
            exact ⟨rfl, rfl⟩
          · have HE : Hid (fin = -1) := by show _ = _; rw [HY.out, time_no (Or.inr (Or.inl x))]
            clear HY
            go_enter Tryd.func30, Tryd.ntmps30
            go_wp2_with (first | (go_at_call 29; refine (HH.out _).mono ?_; rintro ee w1 ⟨rfl, rfl⟩; refine Hid.out ?_) | fail)
            refine Lib.hid ?_
            go_wp2_with (first | (go_at_call 29; refine (HM.out _).mono ?_; rintro ee w1 ⟨rfl, rfl⟩; refine Hid.out ?_) | fail)
            refine Lib.hid ?_
            go_wp2_with (first | (go_at_call 29; refine (HC.out _).mono ?_; rintro ee w1 ⟨rfl, rfl⟩; refine Hid.out ?_) | fail)
            refine Lib.hid ?_
            go_wp2
            go_ret
            rw [HE.out]
            exact ⟨rfl, rfl⟩
          · have HE : Hid (fin = -1) := by show _ = _; rw [HY.out, time_no (Or.inr (Or.inr (Or.inl x)))]
            clear HY
            go_enter Tryd.func30, Tryd.ntmps30
            go_wp2_with (first | (go_at_call 29; refine (HH.out _).mono ?_; rintro ee w1 ⟨rfl, rfl⟩; refine Hid.out ?_) | fail)
            refine Lib.hid ?_
            go_wp2_with (first | (go_at_call 29; refine (HM.out _).mono ?_; rintro ee w1 ⟨rfl, rfl⟩; refine Hid.out ?_) | fail)
            refine Lib.hid ?_
            go_wp2_with (first | (go_at_call 29; refine (HC.out _).mono ?_; rintro ee w1 ⟨rfl, rfl⟩; refine Hid.out ?_) | fail)
            refine Lib.hid ?_
            go_wp2
            go_ret
            rw [HE.out]
            exact ⟨rfl, rfl⟩
          · have HE : Hid (fin = -1) := by show _ = _; rw [HY.out, time_no (Or.inr (Or.inr (Or.inr (Or.inl x))))]
            clear HY
            go_enter Tryd.func30, Tryd.ntmps30
            go_wp2_with (first | (go_at_call 29; refine (HH.out _).mono ?_; rintro ee w1 ⟨rfl, rfl⟩; refine Hid.out ?_) | fail)
            refine Lib.hid ?_
            go_wp2_with (first | (go_at_call 29; refine (HM.out _).mono ?_; rintro ee w1 ⟨rfl, rfl⟩; refine Hid.out ?_) | fail)
            refine Lib.hid ?_
            go_wp2_with (first | (go_at_call 29; refine (HC.out _).mono ?_; rintro ee w1 ⟨rfl, rfl⟩; refine Hid.out ?_) | fail)
            refine Lib.hid ?_
            go_wp2
            go_ret
            rw [HE.out]
            exact ⟨rfl, rfl⟩
          · have HE : Hid (fin = -1) := by show _ = _; rw [HY.out, time_no (Or.inr (Or.inr (Or.inr (Or.inr (Or.inl x)))))]
            clear HY
            go_enter Tryd.func30, Tryd.ntmps30
            go_wp2_with (first | (go_at_call 29; refine (HH.out _).mono ?_; rintro ee w1 ⟨rfl, rfl⟩; refine Hid.out ?_) | fail)
            refine Lib.hid ?_
            go_wp2_with (first | (go_at_call 29; refine (HM.out _).mono ?_; rintro ee w1 ⟨rfl, rfl⟩; refine Hid.out ?_) | fail)
            refine Lib.hid ?_
            go_wp2_with (first | (go_at_call 29; refine (HC.out _).mono ?_; rintro ee w1 ⟨rfl, rfl⟩; refine Hid.out ?_) | fail)
            refine Lib.hid ?_
            go_wp2
            go_ret
            rw [HE.out]
            exact ⟨rfl, rfl⟩
          · have HE : Hid (fin = -1) := by show _ = _; rw [HY.out, time_no (Or.inr (Or.inr (Or.inr (Or.inr (Or.inr x)))))]
            clear HY
            go_enter Tryd.func30, Tryd.ntmps30
            go_wp2_with (first | (go_at_call 29; refine (HH.out _).mono ?_; rintro ee w1 ⟨rfl, rfl⟩; refine Hid.out ?_) | fail)
            refine Lib.hid ?_
            go_wp2_with (first | (go_at_call 29; refine (HM.out _).mono ?_; rintro ee w1 ⟨rfl, rfl⟩; refine Hid.out ?_) | fail)
            refine Lib.hid ?_
            go_wp2_with (first | (go_at_call 29; refine (HC.out _).mono ?_; rintro ee w1 ⟨rfl, rfl⟩; refine Hid.out ?_) | fail)
            refine Lib.hid ?_
            go_wp2
            go_ret
            rw [HE.out]
            exact ⟨rfl, rfl⟩
          · have HE : Hid (fin = 3600 * h + 60 * m + c) := by show _ = _; rw [HY.out, time_yes (by omega)]
            clear HY
            go_enter Tryd.func30, Tryd.ntmps30
            go_wp2_with (first | (go_at_call 29; refine (HH.out _).mono ?_; rintro ee w1 ⟨rfl, rfl⟩; refine Hid.out ?_) | fail)
            refine Lib.hid ?_
            go_wp2_with (first | (go_at_call 29; refine (HM.out _).mono ?_; rintro ee w1 ⟨rfl, rfl⟩; refine Hid.out ?_) | fail)
            refine Lib.hid ?_
            go_wp2_with (first | (go_at_call 29; refine (HC.out _).mono ?_; rintro ee w1 ⟨rfl, rfl⟩; refine Hid.out ?_) | fail)
            refine Lib.hid ?_
            go_wp2
            go_ret
            rw [HE.out]
            exact ⟨rfl, rfl⟩
        · have e25 : (((s[5]'p5).toNat : Int) != 58) = true := by rw [bne_iff_ne]; omega
          have HE : Hid (fin = -1) := HNO.out (by rw [HOK.out, g5]; exact decide_eq_false (fun x => hc5 (x.2.2 h8)))
          clear HF h5 h8 hc2 hc5 g2 g5 HOK
          go_enter Tryd.func30, Tryd.ntmps30
          go_wp2
          go_ret
          rw [HE.out]
          exact ⟨rfl, rfl⟩
      · have e2 : (((s[2]'p2).toNat : Int) != 58) = true := by rw [bne_iff_ne]; omega
        have HE : Hid (fin = -1) := HNO.out (by rw [HOK.out, g2]; exact decide_eq_false (fun x => hc2 x.2.1))
        clear HF h5 h8 hc2 g2 g5 HOK
        go_enter Tryd.func30, Tryd.ntmps30
        go_wp2
        go_ret
        rw [HE.out]
        exact ⟨rfl, rfl⟩
    · have e8 : ((s.size : Int) != 8) = true := by rw [bne_iff_ne]; omega
      have HE : Hid (fin = -1) := HNO.out (by rw [HOK.out]; exact decide_eq_false (fun x => by omega))
      clear HF h5 h8 HOK
      go_enter Tryd.func30, Tryd.ntmps30
      go_wp2
      go_ret
      rw [HE.out]
      exact ⟨rfl, rfl⟩
end Go.Proofs.YtklhgaioolamfaaDoor.Date
