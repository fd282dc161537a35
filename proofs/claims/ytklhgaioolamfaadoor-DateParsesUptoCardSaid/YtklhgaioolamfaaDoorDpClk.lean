/-
  DATE, the program: a time. (Written by gen_pclk.py.)
-/
import Derived.Test.YtklhgaioolamfaaDoorDpDig
import Derived.BigQuiet
import Derived.Deep.CutBlock
import Derived.Deep.DeepCutAuto
namespace Go.Proofs.YtklhgaioolamfaaDoor.Date
open Go.RowKit Base
theorem clock_x (l lx : List UInt8) (hx : lx = if l.length = 5 then l ++ [58, 48, 48] else l) : okD (clockD l) = if lx.length = 8 ∧ (lx.getD 2 0).toNat = 58 ∧ (lx.getD 5 0).toNat = 58 then okD (timeOf (numD (lx.take 2) 2 2) (numD ((lx.drop 3).take 2) 2 2) (numD (lx.drop 6) 2 2)) else (0, false) := by
  by_cases h5 : l.length = 5
  · rw [if_pos h5] at hx
    match l, h5 with
    | [a, b, c, d, e], _ =>
      subst hx
      have hn : numD [48, 48] 2 2 = 0 := by decide
      show okD (if clockOk [a, b, c, d, e] = true then timeOf (numD [a, b] 2 2) (numD [d, e] 2 2) 0 else -1) = if (8 : Nat) = 8 ∧ c.toNat = 58 ∧ (58 : UInt8).toNat = 58 then okD (timeOf (numD [a, b] 2 2) (numD [d, e] 2 2) (numD [48, 48] 2 2)) else (0, false)
      rw [hn]
      have hk : clockOk [a, b, c, d, e] = true ↔ c.toNat = 58 := by
        unfold clockOk
        simp
      by_cases hc : c.toNat = 58
      · rw [if_pos (hk.2 hc), if_pos ⟨rfl, hc, rfl⟩]
      · rw [if_neg (fun h => hc (hk.1 h)), if_neg (fun h => hc h.2.1)]; rfl
  · rw [if_neg h5] at hx
    subst hx
    unfold clockD
    by_cases h8 : lx.length = 8
    · rw [if_pos h8]
      have hk : clockOk lx = true ↔ ((lx.getD 2 0).toNat = 58 ∧ (lx.getD 5 0).toNat = 58) := by
        unfold clockOk
        rw [decide_eq_true_eq, h8]
        constructor
        · rintro ⟨_, h2, h3⟩; exact ⟨h2, h3 rfl⟩
        · rintro ⟨h2, h3⟩; exact ⟨Or.inr rfl, h2, fun _ => h3⟩
      by_cases hc : (lx.getD 2 0).toNat = 58 ∧ (lx.getD 5 0).toNat = 58
      · rw [if_pos (hk.2 hc), if_pos ⟨h8, hc⟩]
      · rw [if_neg (fun h => hc (hk.1 h)), if_neg (fun h => hc h.2)]; rfl
    · have hk : clockOk lx = false := by unfold clockOk; exact decide_eq_false (fun h => by omega)
      rw [hk, if_neg (by decide), if_neg (fun h => h8 h.1)]; rfl
theorem time_hm (h m c : Int) : okD (timeOf h m c) = if c < 0 ∨ (hmQ h m).2 = false ∨ 59 < c then (0, false) else ((hmQ h m).1 + c, true) := by
  unfold timeOf hmQ
  by_cases a : h < 0 ∨ m < 0 ∨ 23 < h ∨ 59 < m
  · rw [if_pos a, if_pos (by omega), if_pos (Or.inr (Or.inl rfl))]; rfl
  · rw [if_neg a]
    by_cases b : c < 0 ∨ 59 < c
    · rw [if_pos (by omega), if_pos (by omega)]; rfl
    · rw [if_neg (by omega), if_neg (by simp; omega), okD_yes (by omega)]
theorem hm_rng (h m : Int) : 0 ≤ (hmQ h m).1 ∧ (hmQ h m).1 ≤ 86340 := by
  unfold hmQ
  split
  · decide
  · dsimp only; omega
set_option maxHeartbeats 16000000 in
set_option maxRecDepth 100000 in
theorem pClock (s : ByteArray) (w : World) (hs : s.size ≤ 1000000000000) : Calls Tryd.prog 36 #[.string s] w fun e w' => e = .returned (zonV (okD (clockD s.data.toList))) ∧ Below w.heap.size w w' := by
  obtain ⟨x, hx⟩ : ∃ x : ByteArray, x = if s.size = 5 then s ++ ⟨#[58, 48, 48]⟩ else s := ⟨_, rfl⟩
  obtain ⟨l, hl⟩ : ∃ l, l = x.data.toList := ⟨_, rfl⟩
  have hlen : l.length = x.size := by rw [hl, str_len]
  have HLS : Hid (∀ k (h : k < x.size), l.getD k 0 = x[k]) := fun k h => by rw [hl]; exact str_get x k h
  have hck := clock_x s.data.toList l (by
    rw [hl, hx, str_len]
    split
    · rw [ByteArray.data_append]; simp
    · rfl)
  generalize okD (clockD s.data.toList) = Z0 at hck
  obtain ⟨Z, hZ⟩ : ∃ Z, Z = zonV Z0 := ⟨_, rfl⟩
  rw [← hZ]
  have HN1 : Hid (∀ a b w1, Calls Tryd.prog 50 #[.string (x.extract a b), .int .i64 2] w1 fun e w' => e = .returned (zonV (okD (numD ((l.take b).drop a) 2 2))) ∧ w1 = w') := fun a b w1 => by
    have := pDigits (x.extract a b) 2 w1 (by omega)
    have eb : (x.extract a b).data.toList = (l.take b).drop a := by rw [extract_bytes, ← hl]
    rw [eb, show ((2 : Nat) : Int) = 2 from rfl] at this
    exact this
  have HT0 : Hid (∀ w1, Calls Tryd.prog 53 #[.string (x.extract 0 2), .string (x.extract 3 5)] w1 fun e w' => e = .returned (zonV (hmQ (numD (l.take 2) 2 2) (numD ((l.drop 3).take 2) 2 2))) ∧ w1 = w') := fun w1 => by
    have := pTime (x.extract 0 2) (x.extract 3 5) w1
    have e1 : (x.extract 0 2).data.toList = l.take 2 := by rw [extract_bytes, ← hl, List.drop_zero]
    have e2 : (x.extract 3 5).data.toList = (l.drop 3).take 2 := by rw [extract_bytes, ← hl, List.drop_take]
    rw [e1, e2] at this
    exact this
  have HC0 : Hid (∀ w1, Calls Tryd.prog 50 #[.string (x.extract 6 x.size), .int .i64 2] w1 fun e w' => e = .returned (zonV (okD (numD (l.drop 6) 2 2))) ∧ w1 = w') := fun w1 => by
    have := HN1.out 6 x.size w1
    rwa [List.take_of_length_le (by omega)] at this
  rw [time_hm] at hck
  have hrg := hm_rng (numD (l.take 2) 2 2) (numD ((l.drop 3).take 2) 2 2)
  have hcg := num2_le (l.drop 6)
  generalize hmQ (numD (l.take 2) 2 2) (numD ((l.drop 3).take 2) 2 2) = T at hck HT0 hrg
  generalize numD (l.drop 6) 2 2 = c at hck HC0 hcg
  obtain ⟨ta, tb⟩ := T
  obtain ⟨r1, r2⟩ := hrg
  have r1 : 0 ≤ ta := r1
  have r2 : ta ≤ 86340 := r2
  have HT : Hid (∀ w1, Calls Tryd.prog 53 #[.string (x.extract 0 2), .string (x.extract 3 5)] w1 fun e w' => e = .returned (.tuple #[.int .i64 ta, .bool tb]) ∧ w1 = w') := HT0.out
  have HC : Hid (∀ w1, Calls Tryd.prog 50 #[.string (x.extract 6 x.size), .int .i64 2] w1 fun e w' => e = .returned (.tuple #[.int .i64 (okD c).1, .bool (okD c).2]) ∧ w1 = w') := HC0.out
  have HCK := Lib.hid hck
  have HZ := Lib.hid hZ
  have HLN := Lib.hid hlen
  clear HN1 HT0 HC0 hck hZ hl hlen
  have HNO : Hid (¬ (x.size = 8 ∧ (l.getD 2 0).toNat = 58 ∧ (l.getD 5 0).toNat = 58) → Z = .tuple #[.int .i64 0, .bool false]) := fun h => by rw [HZ.out, HCK.out, HLN.out, if_neg h]; rfl
  have HYE : Hid ((x.size = 8 ∧ (l.getD 2 0).toNat = 58 ∧ (l.getD 5 0).toNat = 58) → Z = zonV (if c < 0 ∨ tb = false ∨ 59 < c then (0, false) else (ta + c, true))) := fun h => by rw [HZ.out, HCK.out, HLN.out, if_pos h]
  clear HZ HCK HLN
  by_cases h5 : s.size = 5
  · have e5 : ((s.size : Int) == 5) = true := by rw [h5]; rfl
    have HX : Hid (x = s ++ ⟨#[58, 48, 48]⟩) := by show _ = _; rw [hx, if_pos h5]
    have hx8 : x.size = 8 := by rw [HX.out, ByteArray.size_append, h5]; rfl
    have e8 : ((x.size : Int) != 8) = false := by rw [hx8]; rfl
    have p2 : 2 < x.size := by omega
    have p5 : 5 < x.size := by omega
    have k2 : (2 : Int) < (x.size : Int) := by omega
    have k5 : (5 : Int) < (x.size : Int) := by omega
    have k6 : (6 : Int) ≤ (x.size : Int) := by omega
    have k7 : (5 : Int) ≤ (x.size : Int) := by omega
    have k8 : (2 : Int) ≤ (x.size : Int) := by omega
    have g2 := HLS.out 2 p2
    have g5 := HLS.out 5 p5
    by_cases hc2 : (x[2]'p2).toNat = 58
    case neg =>
      have e2 : (((x[2]'p2).toNat : Int) != 58) = true := by rw [bne_iff_ne]; omega
      have HE := Lib.hid (HNO.out (fun h => hc2 (by rw [← g2]; exact h.2.1)))
      clear HNO HYE hx8 hc2 g2 g5
      clear hx h5
      go_enter Tryd.func36, Tryd.ntmps36
      go_upto_region 3 with fail
      rw [← HX.out]
      go_wp2
      go_ret2
      rw [HE.out]
      exact ⟨rfl, Below.refl _ _⟩
    have e2 : (((x[2]'p2).toNat : Int) != 58) = false := by rw [hc2]; rfl
    by_cases hc5 : (x[5]'p5).toNat = 58
    case neg =>
      have e25 : (((x[5]'p5).toNat : Int) != 58) = true := by rw [bne_iff_ne]; omega
      have HE := Lib.hid (HNO.out (fun h => hc5 (by rw [← g5]; exact h.2.2)))
      clear HNO HYE hx8 hc2 hc5 g2 g5
      clear hx h5
      go_enter Tryd.func36, Tryd.ntmps36
      go_upto_region 3 with fail
      rw [← HX.out]
      go_wp2
      go_ret2
      rw [HE.out]
      exact ⟨rfl, Below.refl _ _⟩
    have e25 : (((x[5]'p5).toNat : Int) != 58) = false := by rw [hc5]; rfl
    have HY := Lib.hid (HYE.out ⟨hx8, by rw [g2]; exact hc2, by rw [g5]; exact hc5⟩)
    clear HNO HYE hx8 hc2 hc5 g2 g5
    by_cases c0 : c < 0
    case pos =>
      have HE : Hid (Z = .tuple #[.int .i64 0, .bool false]) := by show _ = _; rw [HY.out, if_pos (Or.inl c0)]; rfl
      rw [okD_no c0] at HC
      clear HY
      clear hx h5
      go_enter Tryd.func36, Tryd.ntmps36
      go_upto_region 3 with fail
      rw [← HX.out]
      go_wp2_with (first | (go_at_call 50; refine (HC.out _).mono ?_; rintro ee w1 ⟨rfl, rfl⟩; refine Hid.out ?_) | fail)
      refine Lib.hid ?_
      go_upto_region 6 with fail
      go_quiet ((go_at_call 53; exact Calls.quiet_of_same ((HT.out _).mono fun _ _ h => ⟨h.1, h.2.symm⟩)))
      go_wp2_with fail
      go_ret2
      rw [HE.out]
      exact ⟨rfl, ⟨rfl, rfl, rfl, Nat.le_refl _, fun _ _ => rfl⟩⟩
    rw [okD_yes c0] at HC
    cases tb with
    | false =>
      have HE : Hid (Z = .tuple #[.int .i64 0, .bool false]) := by show _ = _; rw [HY.out, if_pos (Or.inr (Or.inl rfl))]; rfl
      clear HY
      clear hx h5
      go_enter Tryd.func36, Tryd.ntmps36
      go_upto_region 3 with fail
      rw [← HX.out]
      go_wp2_with (first | (go_at_call 50; refine (HC.out _).mono ?_; rintro ee w1 ⟨rfl, rfl⟩; refine Hid.out ?_) | fail)
      refine Lib.hid ?_
      go_upto_region 6 with fail
      go_quiet ((go_at_call 53; exact Calls.quiet_of_same ((HT.out _).mono fun _ _ h => ⟨h.1, h.2.symm⟩)))
      go_wp2_with fail
      go_ret2
      rw [HE.out]
      exact ⟨rfl, ⟨rfl, rfl, rfl, Nat.le_refl _, fun _ _ => rfl⟩⟩
    | true =>
      by_cases c1 : 59 < c
      case pos =>
        have HE : Hid (Z = .tuple #[.int .i64 0, .bool false]) := by show _ = _; rw [HY.out, if_pos (Or.inr (Or.inr c1))]; rfl
        clear HY
        clear hx h5
        go_enter Tryd.func36, Tryd.ntmps36
        go_upto_region 3 with fail
        rw [← HX.out]
        go_wp2_with (first | (go_at_call 50; refine (HC.out _).mono ?_; rintro ee w1 ⟨rfl, rfl⟩; refine Hid.out ?_) | fail)
        refine Lib.hid ?_
        go_upto_region 6 with fail
        go_quiet ((go_at_call 53; exact Calls.quiet_of_same ((HT.out _).mono fun _ _ h => ⟨h.1, h.2.symm⟩)))
        go_wp2_with fail
        go_ret2
        rw [HE.out]
        exact ⟨rfl, ⟨rfl, rfl, rfl, Nat.le_refl _, fun _ _ => rfl⟩⟩
      have HE : Hid (Z = .tuple #[.int .i64 (ta + c), .bool true]) := by show _ = _; rw [HY.out, if_neg (by simp; omega)]; rfl
      clear HY
      clear hx h5
      go_enter Tryd.func36, Tryd.ntmps36
      go_upto_region 3 with fail
      rw [← HX.out]
      go_wp2_with (first | (go_at_call 50; refine (HC.out _).mono ?_; rintro ee w1 ⟨rfl, rfl⟩; refine Hid.out ?_) | fail)
      refine Lib.hid ?_
      go_upto_region 6 with fail
      go_quiet ((go_at_call 53; exact Calls.quiet_of_same ((HT.out _).mono fun _ _ h => ⟨h.1, h.2.symm⟩)))
      go_wp2_with fail
      go_ret2
      rw [HE.out]
      exact ⟨rfl, ⟨rfl, rfl, rfl, Nat.le_refl _, fun _ _ => rfl⟩⟩
  · have e5 : ((s.size : Int) == 5) = false := by rw [beq_eq_false_iff_ne]; omega
    have HX : Hid (x = s) := by show _ = _; rw [hx, if_neg h5]
    by_cases hx8 : x.size = 8
    case neg =>
      have e8 : ((x.size : Int) != 8) = true := by rw [bne_iff_ne]; omega
      have HE := Lib.hid (HNO.out (fun h => hx8 h.1))
      clear HNO HYE hx8
      clear hx h5
      go_enter Tryd.func36, Tryd.ntmps36
      go_upto_region 3 with fail
      rw [← HX.out]
      go_wp2
      go_ret2
      rw [HE.out]
      exact ⟨rfl, Below.refl _ _⟩
    have e8 : ((x.size : Int) != 8) = false := by rw [hx8]; rfl
    have p2 : 2 < x.size := by omega
    have p5 : 5 < x.size := by omega
    have k2 : (2 : Int) < (x.size : Int) := by omega
    have k5 : (5 : Int) < (x.size : Int) := by omega
    have k6 : (6 : Int) ≤ (x.size : Int) := by omega
    have k7 : (5 : Int) ≤ (x.size : Int) := by omega
    have k8 : (2 : Int) ≤ (x.size : Int) := by omega
    have g2 := HLS.out 2 p2
    have g5 := HLS.out 5 p5
    by_cases hc2 : (x[2]'p2).toNat = 58
    case neg =>
      have e2 : (((x[2]'p2).toNat : Int) != 58) = true := by rw [bne_iff_ne]; omega
      have HE := Lib.hid (HNO.out (fun h => hc2 (by rw [← g2]; exact h.2.1)))
      clear HNO HYE hx8 hc2 g2 g5
      clear hx h5
      go_enter Tryd.func36, Tryd.ntmps36
      go_upto_region 3 with fail
      rw [← HX.out]
      go_wp2
      go_ret2
      rw [HE.out]
      exact ⟨rfl, Below.refl _ _⟩
    have e2 : (((x[2]'p2).toNat : Int) != 58) = false := by rw [hc2]; rfl
    by_cases hc5 : (x[5]'p5).toNat = 58
    case neg =>
      have e25 : (((x[5]'p5).toNat : Int) != 58) = true := by rw [bne_iff_ne]; omega
      have HE := Lib.hid (HNO.out (fun h => hc5 (by rw [← g5]; exact h.2.2)))
      clear HNO HYE hx8 hc2 hc5 g2 g5
      clear hx h5
      go_enter Tryd.func36, Tryd.ntmps36
      go_upto_region 3 with fail
      rw [← HX.out]
      go_wp2
      go_ret2
      rw [HE.out]
      exact ⟨rfl, Below.refl _ _⟩
    have e25 : (((x[5]'p5).toNat : Int) != 58) = false := by rw [hc5]; rfl
    have HY := Lib.hid (HYE.out ⟨hx8, by rw [g2]; exact hc2, by rw [g5]; exact hc5⟩)
    clear HNO HYE hx8 hc2 hc5 g2 g5
    by_cases c0 : c < 0
    case pos =>
      have HE : Hid (Z = .tuple #[.int .i64 0, .bool false]) := by show _ = _; rw [HY.out, if_pos (Or.inl c0)]; rfl
      rw [okD_no c0] at HC
      clear HY
      clear hx h5
      go_enter Tryd.func36, Tryd.ntmps36
      go_upto_region 3 with fail
      rw [← HX.out]
      go_wp2_with (first | (go_at_call 50; refine (HC.out _).mono ?_; rintro ee w1 ⟨rfl, rfl⟩; refine Hid.out ?_) | fail)
      refine Lib.hid ?_
      go_upto_region 6 with fail
      go_quiet ((go_at_call 53; exact Calls.quiet_of_same ((HT.out _).mono fun _ _ h => ⟨h.1, h.2.symm⟩)))
      go_wp2_with fail
      go_ret2
      rw [HE.out]
      exact ⟨rfl, ⟨rfl, rfl, rfl, Nat.le_refl _, fun _ _ => rfl⟩⟩
    rw [okD_yes c0] at HC
    cases tb with
    | false =>
      have HE : Hid (Z = .tuple #[.int .i64 0, .bool false]) := by show _ = _; rw [HY.out, if_pos (Or.inr (Or.inl rfl))]; rfl
      clear HY
      clear hx h5
      go_enter Tryd.func36, Tryd.ntmps36
      go_upto_region 3 with fail
      rw [← HX.out]
      go_wp2_with (first | (go_at_call 50; refine (HC.out _).mono ?_; rintro ee w1 ⟨rfl, rfl⟩; refine Hid.out ?_) | fail)
      refine Lib.hid ?_
      go_upto_region 6 with fail
      go_quiet ((go_at_call 53; exact Calls.quiet_of_same ((HT.out _).mono fun _ _ h => ⟨h.1, h.2.symm⟩)))
      go_wp2_with fail
      go_ret2
      rw [HE.out]
      exact ⟨rfl, ⟨rfl, rfl, rfl, Nat.le_refl _, fun _ _ => rfl⟩⟩
    | true =>
      by_cases c1 : 59 < c
      case pos =>
        have HE : Hid (Z = .tuple #[.int .i64 0, .bool false]) := by show _ = _; rw [HY.out, if_pos (Or.inr (Or.inr c1))]; rfl
        clear HY
        clear hx h5
        go_enter Tryd.func36, Tryd.ntmps36
        go_upto_region 3 with fail
        rw [← HX.out]
        go_wp2_with (first | (go_at_call 50; refine (HC.out _).mono ?_; rintro ee w1 ⟨rfl, rfl⟩; refine Hid.out ?_) | fail)
        refine Lib.hid ?_
        go_upto_region 6 with fail
        go_quiet ((go_at_call 53; exact Calls.quiet_of_same ((HT.out _).mono fun _ _ h => ⟨h.1, h.2.symm⟩)))
        go_wp2_with fail
        go_ret2
        rw [HE.out]
        exact ⟨rfl, ⟨rfl, rfl, rfl, Nat.le_refl _, fun _ _ => rfl⟩⟩
      have HE : Hid (Z = .tuple #[.int .i64 (ta + c), .bool true]) := by show _ = _; rw [HY.out, if_neg (by simp; omega)]; rfl
      clear HY
      clear hx h5
      go_enter Tryd.func36, Tryd.ntmps36
      go_upto_region 3 with fail
      rw [← HX.out]
      go_wp2_with (first | (go_at_call 50; refine (HC.out _).mono ?_; rintro ee w1 ⟨rfl, rfl⟩; refine Hid.out ?_) | fail)
      refine Lib.hid ?_
      go_upto_region 6 with fail
      go_quiet ((go_at_call 53; exact Calls.quiet_of_same ((HT.out _).mono fun _ _ h => ⟨h.1, h.2.symm⟩)))
      go_wp2_with fail
      go_ret2
      rw [HE.out]
      exact ⟨rfl, ⟨rfl, rfl, rfl, Nat.le_refl _, fun _ _ => rfl⟩⟩
end Go.Proofs.YtklhgaioolamfaaDoor.Date
