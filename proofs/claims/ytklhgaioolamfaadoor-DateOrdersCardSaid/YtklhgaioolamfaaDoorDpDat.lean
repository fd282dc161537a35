/-
  DATE, the program: a date. (Written by gen_pdat.py.)
-/
import Derived.Test.YtklhgaioolamfaaDoorDpMon
import Derived.Test.YtklhgaioolamfaaDoorDpDig
import Derived.Test.YtklhgaioolamfaaDoorDpCiv
import Derived.Deep.CutBlock
import Derived.Deep.DeepCutAuto
namespace Go.Proofs.YtklhgaioolamfaaDoor.Date
open Go.RowKit Base
set_option maxHeartbeats 16000000 in
set_option maxRecDepth 100000 in
theorem pDate (a b c : ByteArray) (w : World) (hv : Vars w) (ha : a.size ≤ 1000000000000) (hb : b.size ≤ 1000000000000) : Calls Tryd.prog 35 #[.string a, .string b, .string c] w fun e w' => e = .returned (zonV (dateQ (numD a.data.toList 1 2) (placeD monB b.data.toList) (numD c.data.toList 4 4))) ∧ Below w.heap.size w w' := by
  obtain ⟨x, hx⟩ : ∃ x : ByteArray, x = if a.size = 1 then ⟨#[48]⟩ ++ a else a := ⟨_, rfl⟩
  have hnx : numD x.data.toList 2 2 = numD a.data.toList 1 2 := by
    rw [← num_day, hx, str_len]
    split
    · rw [ByteArray.data_append]; simp
    · rfl
  have HA0 : Hid (∀ w1, Calls Tryd.prog 50 #[.string x, .int .i64 2] w1 fun e w' => e = .returned (zonV (okD (numD a.data.toList 1 2))) ∧ w1 = w') := fun w1 => by
    have := pDigits x 2 w1 (by omega)
    rw [hnx] at this
    exact this
  have HM0 : Hid (∀ w1, Vars w1 → Calls Tryd.prog 51 #[.string b] w1 fun e w' => e = .returned (zonV (monthQ b.data.toList)) ∧ Below w1.heap.size w1 w') := fun w1 h1 => pMonth b w1 h1 (by omega)
  have HC0 : Hid (∀ w1, Calls Tryd.prog 50 #[.string c, .int .i64 4] w1 fun e w' => e = .returned (zonV (okD (numD c.data.toList 4 4))) ∧ w1 = w') := fun w1 => pDigits c 4 w1 (by omega)
  have a1 := num12_le a.data.toList
  have c1 := num4_le c.data.toList
  have m1 := place_mon b.data.toList
  have hmq : monthQ b.data.toList = if placeD monB b.data.toList < 0 then (0, false) else (placeD monB b.data.toList + 1, true) := rfl
  generalize monthQ b.data.toList = MQ at HM0 hmq
  generalize numD a.data.toList 1 2 = A at HA0 a1
  generalize numD c.data.toList 4 4 = Y at HC0 c1
  generalize placeD monB b.data.toList = M at hmq m1
  obtain ⟨Z, hZ⟩ : ∃ Z, Z = zonV (dateQ A M Y) := ⟨_, rfl⟩
  have HZ := Lib.hid hZ
  rw [← hZ]
  have HA : Hid (∀ w1, Calls Tryd.prog 50 #[.string x, .int .i64 2] w1 fun e w' => e = .returned (.tuple #[.int .i64 (okD A).1, .bool (okD A).2]) ∧ w1 = w') := HA0.out
  have HC : Hid (∀ w1, Calls Tryd.prog 50 #[.string c, .int .i64 4] w1 fun e w' => e = .returned (.tuple #[.int .i64 (okD Y).1, .bool (okD Y).2]) ∧ w1 = w') := HC0.out
  have HM : Hid (∀ w1, Vars w1 → Calls Tryd.prog 51 #[.string b] w1 fun e w' => e = .returned (.tuple #[.int .i64 MQ.1, .bool MQ.2]) ∧ Below w1.heap.size w1 w') := HM0.out
  have HV := Lib.hid hv
  have HNO : Hid ((A < 0 ∨ M < 0 ∨ Y < 0 ∨ A < 1 ∨ (md Y.toNat (M + 1).toNat : Int) < A) → Z = .tuple #[.int .i64 0, .bool false]) := fun h => by rw [HZ.out]; unfold dateQ; rw [if_pos h]; rfl
  have HXA : Hid ((a.size = 1 → x = ⟨#[48]⟩ ++ a) ∧ (a.size ≠ 1 → x = a)) := ⟨fun h => by rw [hx, if_pos h], fun h => by rw [hx, if_neg h]⟩
  clear hnx HA0 HC0 HM0 hZ hv hx hb
  by_cases h1 : a.size = 1
  case pos =>
    have e1 : ((a.size : Int) == 1) = true := by rw [h1]; rfl
    have HX := Lib.hid (HXA.out.1 h1)
    clear h1 HXA
    by_cases n1 : A < 0
    case pos =>
      have HE := Lib.hid (HNO.out (Or.inl n1))
      rw [okD_no n1] at HA
      clear HNO HZ m1 hmq
      go_enter Tryd.func35, Tryd.ntmps35
      go_upto_region 3 with fail
      rw [← HX.out]
      go_wp2_with (first | (go_at_call 50; refine (HA.out _).mono ?_; rintro ee w1 ⟨rfl, rfl⟩; refine Hid.out ?_) | fail)
      refine Lib.hid ?_
      go_wp2_with (first | (go_at_call 51; refine (HM.out _ HV.out).mono ?_; rintro ee w1 ⟨rfl, hb1⟩; refine Hid.out ?_) | fail)
      refine Lib.hid ?_
      have HB1 := Lib.hid hb1
      have HV1 := Lib.hid (HV.out.on hb1)
      clear hb1
      go_wp2_with (first | (go_at_call 50; refine (HC.out _).mono ?_; rintro ee w2 ⟨rfl, rfl⟩; refine Hid.out ?_) | fail)
      refine Lib.hid ?_
      go_wp2
      go_ret2
      rw [HE.out]
      exact ⟨rfl, HB1.out⟩
    rw [okD_yes n1] at HA
    by_cases n2 : M < 0
    case pos =>
      have HE := Lib.hid (HNO.out (Or.inr (Or.inl n2)))
      rw [if_pos n2] at hmq
      rw [hmq] at HM
      clear HNO HZ hmq m1
      go_enter Tryd.func35, Tryd.ntmps35
      go_upto_region 3 with fail
      rw [← HX.out]
      go_wp2_with (first | (go_at_call 50; refine (HA.out _).mono ?_; rintro ee w1 ⟨rfl, rfl⟩; refine Hid.out ?_) | fail)
      refine Lib.hid ?_
      go_wp2_with (first | (go_at_call 51; refine (HM.out _ HV.out).mono ?_; rintro ee w1 ⟨rfl, hb1⟩; refine Hid.out ?_) | fail)
      refine Lib.hid ?_
      have HB1 := Lib.hid hb1
      have HV1 := Lib.hid (HV.out.on hb1)
      clear hb1
      go_wp2_with (first | (go_at_call 50; refine (HC.out _).mono ?_; rintro ee w2 ⟨rfl, rfl⟩; refine Hid.out ?_) | fail)
      refine Lib.hid ?_
      go_wp2
      go_ret2
      rw [HE.out]
      exact ⟨rfl, HB1.out⟩
    rw [if_neg n2] at hmq
    rw [hmq] at HM
    clear hmq
    by_cases n3 : Y < 0
    case pos =>
      have HE := Lib.hid (HNO.out (Or.inr (Or.inr (Or.inl n3))))
      rw [okD_no n3] at HC
      clear HNO HZ m1
      go_enter Tryd.func35, Tryd.ntmps35
      go_upto_region 3 with fail
      rw [← HX.out]
      go_wp2_with (first | (go_at_call 50; refine (HA.out _).mono ?_; rintro ee w1 ⟨rfl, rfl⟩; refine Hid.out ?_) | fail)
      refine Lib.hid ?_
      go_wp2_with (first | (go_at_call 51; refine (HM.out _ HV.out).mono ?_; rintro ee w1 ⟨rfl, hb1⟩; refine Hid.out ?_) | fail)
      refine Lib.hid ?_
      have HB1 := Lib.hid hb1
      have HV1 := Lib.hid (HV.out.on hb1)
      clear hb1
      go_wp2_with (first | (go_at_call 50; refine (HC.out _).mono ?_; rintro ee w2 ⟨rfl, rfl⟩; refine Hid.out ?_) | fail)
      refine Lib.hid ?_
      go_wp2
      go_ret2
      rw [HE.out]
      exact ⟨rfl, HB1.out⟩
    rw [okD_yes n3] at HC
    by_cases n4 : A < 1
    case pos =>
      have HE := Lib.hid (HNO.out (Or.inr (Or.inr (Or.inr (Or.inl n4)))))
      clear HNO HZ m1
      go_enter Tryd.func35, Tryd.ntmps35
      go_upto_region 3 with fail
      rw [← HX.out]
      go_wp2_with (first | (go_at_call 50; refine (HA.out _).mono ?_; rintro ee w1 ⟨rfl, rfl⟩; refine Hid.out ?_) | fail)
      refine Lib.hid ?_
      go_wp2_with (first | (go_at_call 51; refine (HM.out _ HV.out).mono ?_; rintro ee w1 ⟨rfl, hb1⟩; refine Hid.out ?_) | fail)
      refine Lib.hid ?_
      have HB1 := Lib.hid hb1
      have HV1 := Lib.hid (HV.out.on hb1)
      clear hb1
      go_wp2_with (first | (go_at_call 50; refine (HC.out _).mono ?_; rintro ee w2 ⟨rfl, rfl⟩; refine Hid.out ?_) | fail)
      refine Lib.hid ?_
      go_wp2
      go_ret2
      rw [HE.out]
      exact ⟨rfl, HB1.out⟩
    obtain ⟨k, rfl⟩ : ∃ k : Nat, M = (k : Int) := ⟨M.toNat, by omega⟩
    obtain ⟨y, rfl⟩ : ∃ y : Nat, Y = (y : Int) := ⟨Y.toNat, by omega⟩
    obtain ⟨d, rfl⟩ : ∃ d : Nat, A = (d : Int) := ⟨A.toNat, by omega⟩
    have hk : k < 12 := by rcases m1 with h | ⟨j, h, h2⟩ <;> omega
    have hy : y ≤ 9999 := by omega
    have hd : d ≤ 99 := by omega
    have HDO : Hid (∀ w1, Vars w1 → Calls Tryd.prog 41 #[.int .i64 (y : Int), .int .i64 ((k : Int) + 1)] w1 fun e w' => e = .returned (.int .i64 (md y (k + 1) : Int)) ∧ w1 = w') := fun w1 h1 => by
      have := pDays y (k + 1) w1 h1 (by omega) (by omega) (by omega)
      rwa [show ((k + 1 : Nat) : Int) = (k : Int) + 1 by omega] at this
    have HDY : Hid (∀ w1, Vars w1 → Calls Tryd.prog 52 #[.int .i64 (y : Int), .int .i64 ((k : Int) + 1), .int .i64 (d : Int)] w1 fun e w' => e = .returned (.int .i64 (dayZ y (k + 1) d)) ∧ w1 = w') := fun w1 h1 => by
      have := pDayOf y (k + 1) d w1 h1 (by omega) (by omega) (by omega) (by omega)
      rwa [show ((k + 1 : Nat) : Int) = (k : Int) + 1 by omega] at this
    have hq : ((k : Int) + 1).toNat = k + 1 := by omega
    rw [Int.toNat_natCast, hq] at HNO
    have HYE : Hid (¬ ((md y (k + 1) : Int) < (d : Int)) → Z = .tuple #[.int .i64 (dayZ y (k + 1) d), .bool true]) := fun h => by
      rw [HZ.out]; unfold dateQ; rw [Int.toNat_natCast, Int.toNat_natCast, hq, if_neg (by omega)]; rfl
    clear HZ m1 hq
    generalize md y (k + 1) = q at HNO HYE HDO
    generalize dayZ y (k + 1) d = DZ at HYE HDY
    by_cases n5 : (q : Int) < (d : Int)
    case pos =>
      have HE := Lib.hid (HNO.out (Or.inr (Or.inr (Or.inr (Or.inr n5)))))
      clear HNO HYE HDY
      go_enter Tryd.func35, Tryd.ntmps35
      go_upto_region 3 with fail
      rw [← HX.out]
      go_wp2_with (first | (go_at_call 50; refine (HA.out _).mono ?_; rintro ee w1 ⟨rfl, rfl⟩; refine Hid.out ?_) | fail)
      refine Lib.hid ?_
      go_wp2_with (first | (go_at_call 51; refine (HM.out _ HV.out).mono ?_; rintro ee w1 ⟨rfl, hb1⟩; refine Hid.out ?_) | fail)
      refine Lib.hid ?_
      have HB1 := Lib.hid hb1
      have HV1 := Lib.hid (HV.out.on hb1)
      clear hb1
      go_wp2_with (first | (go_at_call 50; refine (HC.out _).mono ?_; rintro ee w2 ⟨rfl, rfl⟩; refine Hid.out ?_) | fail)
      refine Lib.hid ?_
      go_wp2_with (first | (go_at_call 41; refine (HDO.out _ HV1.out).mono ?_; rintro ee w2 ⟨rfl, rfl⟩; refine Hid.out ?_) | fail)
      refine Lib.hid ?_
      go_wp2
      go_ret2
      rw [HE.out]
      exact ⟨rfl, HB1.out⟩
    have HE := Lib.hid (HYE.out n5)
    clear HNO HYE
    go_enter Tryd.func35, Tryd.ntmps35
    go_upto_region 3 with fail
    rw [← HX.out]
    go_wp2_with (first | (go_at_call 50; refine (HA.out _).mono ?_; rintro ee w1 ⟨rfl, rfl⟩; refine Hid.out ?_) | fail)
    refine Lib.hid ?_
    go_wp2_with (first | (go_at_call 51; refine (HM.out _ HV.out).mono ?_; rintro ee w1 ⟨rfl, hb1⟩; refine Hid.out ?_) | fail)
    refine Lib.hid ?_
    have HB1 := Lib.hid hb1
    have HV1 := Lib.hid (HV.out.on hb1)
    clear hb1
    go_wp2_with (first | (go_at_call 50; refine (HC.out _).mono ?_; rintro ee w2 ⟨rfl, rfl⟩; refine Hid.out ?_) | fail)
    refine Lib.hid ?_
    go_wp2_with (first | (go_at_call 41; refine (HDO.out _ HV1.out).mono ?_; rintro ee w2 ⟨rfl, rfl⟩; refine Hid.out ?_) | fail)
    refine Lib.hid ?_
    go_wp2_with (first | (go_at_call 52; refine (HDY.out _ HV1.out).mono ?_; rintro ee w2 ⟨rfl, rfl⟩; refine Hid.out ?_) | fail)
    refine Lib.hid ?_
    go_wp2
    go_ret2
    rw [HE.out]
    exact ⟨rfl, HB1.out⟩
  have e1 : ((a.size : Int) == 1) = false := by rw [beq_eq_false_iff_ne]; omega
  have HX := Lib.hid (HXA.out.2 h1)
  clear h1 HXA
  by_cases n1 : A < 0
  case pos =>
    have HE := Lib.hid (HNO.out (Or.inl n1))
    rw [okD_no n1] at HA
    clear HNO HZ m1 hmq
    go_enter Tryd.func35, Tryd.ntmps35
    go_upto_region 3 with fail
    rw [← HX.out]
    go_wp2_with (first | (go_at_call 50; refine (HA.out _).mono ?_; rintro ee w1 ⟨rfl, rfl⟩; refine Hid.out ?_) | fail)
    refine Lib.hid ?_
    go_wp2_with (first | (go_at_call 51; refine (HM.out _ HV.out).mono ?_; rintro ee w1 ⟨rfl, hb1⟩; refine Hid.out ?_) | fail)
    refine Lib.hid ?_
    have HB1 := Lib.hid hb1
    have HV1 := Lib.hid (HV.out.on hb1)
    clear hb1
    go_wp2_with (first | (go_at_call 50; refine (HC.out _).mono ?_; rintro ee w2 ⟨rfl, rfl⟩; refine Hid.out ?_) | fail)
    refine Lib.hid ?_
    go_wp2
    go_ret2
    rw [HE.out]
    exact ⟨rfl, HB1.out⟩
  rw [okD_yes n1] at HA
  by_cases n2 : M < 0
  case pos =>
    have HE := Lib.hid (HNO.out (Or.inr (Or.inl n2)))
    rw [if_pos n2] at hmq
    rw [hmq] at HM
    clear HNO HZ hmq m1
    go_enter Tryd.func35, Tryd.ntmps35
    go_upto_region 3 with fail
    rw [← HX.out]
    go_wp2_with (first | (go_at_call 50; refine (HA.out _).mono ?_; rintro ee w1 ⟨rfl, rfl⟩; refine Hid.out ?_) | fail)
    refine Lib.hid ?_
    go_wp2_with (first | (go_at_call 51; refine (HM.out _ HV.out).mono ?_; rintro ee w1 ⟨rfl, hb1⟩; refine Hid.out ?_) | fail)
    refine Lib.hid ?_
    have HB1 := Lib.hid hb1
    have HV1 := Lib.hid (HV.out.on hb1)
    clear hb1
    go_wp2_with (first | (go_at_call 50; refine (HC.out _).mono ?_; rintro ee w2 ⟨rfl, rfl⟩; refine Hid.out ?_) | fail)
    refine Lib.hid ?_
    go_wp2
    go_ret2
    rw [HE.out]
    exact ⟨rfl, HB1.out⟩
  rw [if_neg n2] at hmq
  rw [hmq] at HM
  clear hmq
  by_cases n3 : Y < 0
  case pos =>
    have HE := Lib.hid (HNO.out (Or.inr (Or.inr (Or.inl n3))))
    rw [okD_no n3] at HC
    clear HNO HZ m1
    go_enter Tryd.func35, Tryd.ntmps35
    go_upto_region 3 with fail
    rw [← HX.out]
    go_wp2_with (first | (go_at_call 50; refine (HA.out _).mono ?_; rintro ee w1 ⟨rfl, rfl⟩; refine Hid.out ?_) | fail)
    refine Lib.hid ?_
    go_wp2_with (first | (go_at_call 51; refine (HM.out _ HV.out).mono ?_; rintro ee w1 ⟨rfl, hb1⟩; refine Hid.out ?_) | fail)
    refine Lib.hid ?_
    have HB1 := Lib.hid hb1
    have HV1 := Lib.hid (HV.out.on hb1)
    clear hb1
    go_wp2_with (first | (go_at_call 50; refine (HC.out _).mono ?_; rintro ee w2 ⟨rfl, rfl⟩; refine Hid.out ?_) | fail)
    refine Lib.hid ?_
    go_wp2
    go_ret2
    rw [HE.out]
    exact ⟨rfl, HB1.out⟩
  rw [okD_yes n3] at HC
  by_cases n4 : A < 1
  case pos =>
    have HE := Lib.hid (HNO.out (Or.inr (Or.inr (Or.inr (Or.inl n4)))))
    clear HNO HZ m1
    go_enter Tryd.func35, Tryd.ntmps35
    go_upto_region 3 with fail
    rw [← HX.out]
    go_wp2_with (first | (go_at_call 50; refine (HA.out _).mono ?_; rintro ee w1 ⟨rfl, rfl⟩; refine Hid.out ?_) | fail)
    refine Lib.hid ?_
    go_wp2_with (first | (go_at_call 51; refine (HM.out _ HV.out).mono ?_; rintro ee w1 ⟨rfl, hb1⟩; refine Hid.out ?_) | fail)
    refine Lib.hid ?_
    have HB1 := Lib.hid hb1
    have HV1 := Lib.hid (HV.out.on hb1)
    clear hb1
    go_wp2_with (first | (go_at_call 50; refine (HC.out _).mono ?_; rintro ee w2 ⟨rfl, rfl⟩; refine Hid.out ?_) | fail)
    refine Lib.hid ?_
    go_wp2
    go_ret2
    rw [HE.out]
    exact ⟨rfl, HB1.out⟩
  obtain ⟨k, rfl⟩ : ∃ k : Nat, M = (k : Int) := ⟨M.toNat, by omega⟩
  obtain ⟨y, rfl⟩ : ∃ y : Nat, Y = (y : Int) := ⟨Y.toNat, by omega⟩
  obtain ⟨d, rfl⟩ : ∃ d : Nat, A = (d : Int) := ⟨A.toNat, by omega⟩
  have hk : k < 12 := by rcases m1 with h | ⟨j, h, h2⟩ <;> omega
  have hy : y ≤ 9999 := by omega
  have hd : d ≤ 99 := by omega
  have HDO : Hid (∀ w1, Vars w1 → Calls Tryd.prog 41 #[.int .i64 (y : Int), .int .i64 ((k : Int) + 1)] w1 fun e w' => e = .returned (.int .i64 (md y (k + 1) : Int)) ∧ w1 = w') := fun w1 h1 => by
    have := pDays y (k + 1) w1 h1 (by omega) (by omega) (by omega)
    rwa [show ((k + 1 : Nat) : Int) = (k : Int) + 1 by omega] at this
  have HDY : Hid (∀ w1, Vars w1 → Calls Tryd.prog 52 #[.int .i64 (y : Int), .int .i64 ((k : Int) + 1), .int .i64 (d : Int)] w1 fun e w' => e = .returned (.int .i64 (dayZ y (k + 1) d)) ∧ w1 = w') := fun w1 h1 => by
    have := pDayOf y (k + 1) d w1 h1 (by omega) (by omega) (by omega) (by omega)
    rwa [show ((k + 1 : Nat) : Int) = (k : Int) + 1 by omega] at this
  have hq : ((k : Int) + 1).toNat = k + 1 := by omega
  rw [Int.toNat_natCast, hq] at HNO
  have HYE : Hid (¬ ((md y (k + 1) : Int) < (d : Int)) → Z = .tuple #[.int .i64 (dayZ y (k + 1) d), .bool true]) := fun h => by
    rw [HZ.out]; unfold dateQ; rw [Int.toNat_natCast, Int.toNat_natCast, hq, if_neg (by omega)]; rfl
  clear HZ m1 hq
  generalize md y (k + 1) = q at HNO HYE HDO
  generalize dayZ y (k + 1) d = DZ at HYE HDY
  by_cases n5 : (q : Int) < (d : Int)
  case pos =>
    have HE := Lib.hid (HNO.out (Or.inr (Or.inr (Or.inr (Or.inr n5)))))
    clear HNO HYE HDY
    go_enter Tryd.func35, Tryd.ntmps35
    go_upto_region 3 with fail
    rw [← HX.out]
    go_wp2_with (first | (go_at_call 50; refine (HA.out _).mono ?_; rintro ee w1 ⟨rfl, rfl⟩; refine Hid.out ?_) | fail)
    refine Lib.hid ?_
    go_wp2_with (first | (go_at_call 51; refine (HM.out _ HV.out).mono ?_; rintro ee w1 ⟨rfl, hb1⟩; refine Hid.out ?_) | fail)
    refine Lib.hid ?_
    have HB1 := Lib.hid hb1
    have HV1 := Lib.hid (HV.out.on hb1)
    clear hb1
    go_wp2_with (first | (go_at_call 50; refine (HC.out _).mono ?_; rintro ee w2 ⟨rfl, rfl⟩; refine Hid.out ?_) | fail)
    refine Lib.hid ?_
    go_wp2_with (first | (go_at_call 41; refine (HDO.out _ HV1.out).mono ?_; rintro ee w2 ⟨rfl, rfl⟩; refine Hid.out ?_) | fail)
    refine Lib.hid ?_
    go_wp2
    go_ret2
    rw [HE.out]
    exact ⟨rfl, HB1.out⟩
  have HE := Lib.hid (HYE.out n5)
  clear HNO HYE
  go_enter Tryd.func35, Tryd.ntmps35
  go_upto_region 3 with fail
  rw [← HX.out]
  go_wp2_with (first | (go_at_call 50; refine (HA.out _).mono ?_; rintro ee w1 ⟨rfl, rfl⟩; refine Hid.out ?_) | fail)
  refine Lib.hid ?_
  go_wp2_with (first | (go_at_call 51; refine (HM.out _ HV.out).mono ?_; rintro ee w1 ⟨rfl, hb1⟩; refine Hid.out ?_) | fail)
  refine Lib.hid ?_
  have HB1 := Lib.hid hb1
  have HV1 := Lib.hid (HV.out.on hb1)
  clear hb1
  go_wp2_with (first | (go_at_call 50; refine (HC.out _).mono ?_; rintro ee w2 ⟨rfl, rfl⟩; refine Hid.out ?_) | fail)
  refine Lib.hid ?_
  go_wp2_with (first | (go_at_call 41; refine (HDO.out _ HV1.out).mono ?_; rintro ee w2 ⟨rfl, rfl⟩; refine Hid.out ?_) | fail)
  refine Lib.hid ?_
  go_wp2_with (first | (go_at_call 52; refine (HDY.out _ HV1.out).mono ?_; rintro ee w2 ⟨rfl, rfl⟩; refine Hid.out ?_) | fail)
  refine Lib.hid ?_
  go_wp2
  go_ret2
  rw [HE.out]
  exact ⟨rfl, HB1.out⟩
end Go.Proofs.YtklhgaioolamfaaDoor.Date
