/-
  CIDR, the program: a range's form.
-/
import Derived.Test.YtdmajikhpacpfaaDoorCidrPSixF
import Derived.Test.YtdmajikhpacpfaaDoorCidrPRight
namespace Go.Proofs.YtdmajikhpacpfaaDoor.Cidr
open Go.RowKit Base
def bitsS (n : NetM) : List UInt8 := if n.bits = sizeN n.six then [] else 47 :: Lib.decDigits n.bits.toNat
set_option maxHeartbeats 4000000 in
set_option maxRecDepth 100000 in
theorem pFormBits (n : NetM) (h0 : 0 ≤ n.bits) (h1 : n.bits ≤ 128) (w : World) (he : Env w) : Calls Tryd.prog 42 #[netV n] w fun e w' => e = .returned (S (bitsS n)) ∧ Below w.heap.size w w' := by
  have HN0 := Lib.hid (NetAt.new w n)
  have HB0 := Lib.hid (Below.alloc1 w (.cells (netC n) 25))
  have HM := Lib.hid (fun wx => pMost n.six wx)
  obtain ⟨o, ho⟩ : ∃ o, o = bitsS n := ⟨_, rfl⟩
  have HO := Lib.hid ho
  rw [← ho]
  obtain ⟨w1, hw1⟩ : ∃ w1, w1 = w.alloc (.cells (netC n) 25) := ⟨_, rfl⟩
  rw [← hw1] at HN0 HB0
  have HE1 := Lib.hid (he.on HB0.out)
  have hs0 := HN0.out.six
  have hb := HN0.out.bits
  unfold bitsS at HO
  generalize sizeN n.six = sz at HM HO
  clear ho
  by_cases hq : n.bits = sz
  · have e1 : (n.bits == sz) = true := by rw [hq]; simp
    have HY : Hid (o = []) := by have := HO.out; rw [if_pos hq] at this; exact this
    clear hq
    have HST : Hid (Below w1.heap.size w1 w1.drew ∧ w1.drew.cell? ⟨w.heap.size, 0, none⟩ = some (.bool n.six) ∧ w1.drew.cell? ⟨w.heap.size, 1, none⟩ = some (.int .i64 n.bits)) := ⟨⟨rfl, rfl, rfl, Nat.le_refl _, fun _ _ => rfl⟩, hs0, hb⟩
    go_enter Tryd.func42, Tryd.ntmps42
    go_upto_region 1 with fail
    rw [← hw1]
    clear hw1
    go_region_held3 (fun w' => Below w1.heap.size w1 w' ∧ w'.cell? ⟨w.heap.size, 0, none⟩ = some (.bool n.six) ∧ w'.cell? ⟨w.heap.size, 1, none⟩ = some (.int .i64 n.bits))
      (first | exact HST.out | assumption | fail)
      (first | (go_at_call 27; refine (HM.out _).mono ?_; rintro e wn ⟨rfl, rfl⟩) | fail)
    go_wp2
    go_ret
    exact ⟨by rw [HY.out]; rfl, (HB0.out.trans (Below.mono (Below.refl _ _).drew HB0.out.size))⟩
  · have e1 : (n.bits == sz) = false := by rw [beq_eq_false_iff_ne]; exact hq
    obtain ⟨m, hm⟩ := Int.eq_ofNat_of_zero_le h0
    have HY : Hid (o = 47 :: Lib.decDigits m) := by have := HO.out; rw [if_neg hq, hm] at this; exact this
    have hdl := dec_len0 2 m (by omega)
    have hds : (⟨(Lib.decDigits m).toArray⟩ : ByteArray).size ≤ 3 := by rw [arr_size]; exact hdl
    have hb1 : ¬ 9223372036854775807 < 1 + (⟨(Lib.decDigits m).toArray⟩ : ByteArray).size := by omega
    have HI : Hid (∀ wx, Env wx → Calls Tryd.prog 56 #[.int .i64 (m : Int)] wx fun e w' => e = .returned (.string ⟨(Lib.decDigits m).toArray⟩) ∧ Below wx.heap.size wx w') := fun wx hx => pItoa m (by omega) wx hx
    have HFIN : Hid ((⟨#[47]⟩ : ByteArray) ++ (⟨(Lib.decDigits m).toArray⟩ : ByteArray) = ⟨o.toArray⟩) := by
      show _ = _
      apply ByteArray.ext
      apply Array.toList_inj.1
      rw [Joins.data_append, HY.out]
      simp
    rw [hm] at hb e1
    have HST : Hid (Below w1.heap.size w1 w1.drew ∧ w1.drew.cell? ⟨w.heap.size, 0, none⟩ = some (.bool n.six) ∧ w1.drew.cell? ⟨w.heap.size, 1, none⟩ = some (.int .i64 (m : Int))) := ⟨⟨rfl, rfl, rfl, Nat.le_refl _, fun _ _ => rfl⟩, hs0, hb⟩
    clear hq hm HO
    generalize (⟨(Lib.decDigits m).toArray⟩ : ByteArray) = DX at HI hds hb1 HFIN
    go_enter Tryd.func42, Tryd.ntmps42
    go_upto_region 1 with fail
    rw [← hw1]
    clear hw1
    go_region_held3 (fun w' => Below w1.heap.size w1 w' ∧ w'.cell? ⟨w.heap.size, 0, none⟩ = some (.bool n.six) ∧ w'.cell? ⟨w.heap.size, 1, none⟩ = some (.int .i64 (m : Int)))
      (first | exact HST.out | assumption | fail)
      (first | (go_at_call 27; refine (HM.out _).mono ?_; rintro e wn ⟨rfl, rfl⟩) | fail)
    have HE2 := Lib.hid (HE1.out.on (Below.refl _ _).drew)
    go_wp2_with (first | (go_at_call 56; refine (HI.out _ HE2.out).mono ?_; rintro e w5 ⟨rfl, b5⟩; refine Hid.out ?_) | fail)
    refine Lib.hid ?_
    have HB5 : Hid (Below w.heap.size w w5) := HB0.out.trans (((Below.refl _ _).drew.trans (b5.mono (Nat.le_refl _))).mono HB0.out.size)
    clear b5
    go_wp2
    go_ret
    exact ⟨by rw [HFIN.out]; rfl, HB5.out⟩
set_option maxHeartbeats 4000000 in
set_option maxRecDepth 100000 in
theorem pShow (n : NetM) (ha : n.a.length = 16) (w : World) (he : EnvS w) : Calls Tryd.prog 17 #[netV n] w (ShowEnd (showN n) w) := by
  obtain ⟨o, ho⟩ : ∃ o, o = showN n := ⟨_, rfl⟩
  rw [← ho]
  unfold showN at ho
  have hnb := fun h => rightN_bits (n := n) h
  have HRI := Lib.hid (fun wx => pRight n ha wx)
  have HA := Lib.hid ha
  have HN0 := Lib.hid (NetAt.new w n)
  have HB0 := Lib.hid (Below.alloc1 w (.cells (netC n) 25))
  have HE0 := Lib.hid (he.on HB0.out)
  have HS := Lib.hid (size25_of ha)
  have HS23 := Lib.hid (size23_of ha)
  have HPB := Lib.hid (fun h0 h1 wx hx => pFormBits n h0 h1 wx hx)
  have HF4 := Lib.hid (fun wx hx => pFormFour n.a ha wx hx)
  have HF6 := Lib.hid (fun wx hx => pFormSix n.a ha wx hx)
  generalize rightN n = r at ho hnb HRI
  have HO := Lib.hid ho
  clear ho ha he
  go_enter Tryd.func17, Tryd.ntmps17
  go_wp2_with (first | (refine wpList_load_mid rfl 25 (.tmp 1) rfl w.heap.size 0 rfl (netL n) _ HN0.out.range0 Tryd.underlying25 rfl HS.out ?_) | (go_at_call 18; refine (HRI.out _).mono ?_; rintro e w1 ⟨rfl, b1⟩; refine Hid.out ?_) | fail)
  refine Lib.hid ?_
  have HN1 := Lib.hid (HN0.out.on b1)
  have HB1 : Hid (Below w.heap.size w w1) := HB0.out.trans (b1.mono HB0.out.size)
  have HE1 := Lib.hid (HE0.out.on b1)
  clear b1
  cases r with
  | false =>
    have HNO : Hid (o = none) := HO.out
    go_wp2
    go_ret2
    exact ⟨HB1.out, Or.inl ⟨HNO.out, rfl⟩⟩
  | true =>
    obtain ⟨hb0, hb1⟩ := hnb rfl
    have HYES : Hid (o = some (addrS n ++ bitsS n)) := by
      show _ = _
      rw [HO.out, if_pos rfl]
      unfold bitsS
      split
      · simp
      · simp
    have HPB2 := Lib.hid (HPB.out hb0 (by have : sizeN n.six ≤ 128 := by unfold sizeN; split <;> decide
                                          omega))
    have HRG := Lib.hid HN1.out.range
    have hsix := HN1.out.six
    clear hnb HO
    go_wp2_with (first | (refine wpList_load_mid rfl 23 (.tmp 8) rfl w.heap.size 2 rfl (n.a.map B8) _ HRG.out Tryd.underlying23 rfl HS23.out ?_) | (go_at_call 40; refine (HF4.out _ HE1.out.env).mono ?_; rintro e w2 ⟨rfl, b2⟩; refine Hid.out ?_) | fail)
    refine Lib.hid ?_
    have HN2 := Lib.hid (HN1.out.on b2)
    have HB2 : Hid (Below w.heap.size w w2) := HB1.out.trans (b2.mono HB1.out.size)
    have HE2 := Lib.hid (HE1.out.on b2)
    clear b2 hsix
    have hsix := HN2.out.six
    obtain ⟨T, hT⟩ : ∃ T : ByteArray, T = ⟨(addrS n).toArray⟩ := ⟨_, rfl⟩
    have HT := Lib.hid hT
    clear hT
    go_upto_if 12 with fail
    go_cut [4] (fun s wx => s = .string T ∧ Below w2.heap.size w2 wx ∧ T.size ≤ 100)
    case first =>
      cases h6 : n.six with
      | true =>
        have HRG2 := Lib.hid HN2.out.range
        have HF := Lib.hid (HF6.out w2 HE2.out)
        rw [h6] at hsix
        have HE : Hid ((⟨(form6 n.a).toArray⟩ : ByteArray) = T) := by
          show _ = _
          rw [HT.out]; unfold addrS; rw [if_pos h6]
        have HL : Hid (T.size ≤ 100) := by
          have := form6_len n.a
          show T.size ≤ 100
          rw [← HE.out, arr_size]; omega
        clear h6
        go_wp2_with (first | (refine wpList_load_mid rfl 23 (.tmp 13) rfl w.heap.size 2 rfl (n.a.map B8) _ HRG2.out Tryd.underlying23 rfl HS23.out ?_) | (go_at_call 41; refine HF.out.mono ?_; rintro e w3 ⟨rfl, b3⟩; refine Hid.out ?_) | fail)
        refine Lib.hid ?_
        have B3 := Lib.hid b3
        clear b3
        go_wp2
        go_meet
        exact ⟨by rw [← HE.out], B3.out, HL.out⟩
      | false =>
        rw [h6] at hsix
        have HE : Hid ((⟨(fourA n.a 4).toArray⟩ : ByteArray) = T) := by
          show _ = _
          rw [HT.out]; unfold addrS; rw [if_neg (by rw [h6]; simp)]
        have HL : Hid (T.size ≤ 100) := by
          have := fourA_len n.a 4
          show T.size ≤ 100
          rw [← HE.out, arr_size]; omega
        clear h6
        go_wp2
        go_meet
        exact ⟨by rw [← HE.out], Below.refl _ _, HL.out⟩
    case rest =>
      obtain ⟨rfl, hbc, hTl⟩ := hcut
      have HN3 := Lib.hid (HN2.out.on hbc)
      have HB3 : Hid (Below w.heap.size w wc) := HB2.out.trans (hbc.mono HB2.out.size)
      have HE3 := Lib.hid (HE2.out.on hbc)
      have hbl : (bitsS n).length ≤ 4 := by
        unfold bitsS
        split
        · simp
        · have := dec_len0 2 n.bits.toNat (by omega)
          rw [List.length_cons]; omega
      have HP : Hid (Calls Tryd.prog 42 #[netV n] wc fun e w' => e = .returned (.string ⟨(bitsS n).toArray⟩) ∧ Below wc.heap.size wc w') := HPB2.out wc HE3.out.env
      have hds : (⟨(bitsS n).toArray⟩ : ByteArray).size ≤ 4 := by rw [arr_size]; exact hbl
      have HFIN : Hid (T ++ (⟨(bitsS n).toArray⟩ : ByteArray) = ⟨(addrS n ++ bitsS n).toArray⟩) := by
        show _ = _
        apply ByteArray.ext
        apply Array.toList_inj.1
        rw [Joins.data_append, HT.out]
      generalize (⟨(bitsS n).toArray⟩ : ByteArray) = DX at HP hds HFIN
      have hb9 : ¬ 9223372036854775807 < T.size + DX.size := by omega
      clear hbc hsix hbl
      go_wp2_with (first | (refine wpList_load_mid rfl 25 (.tmp 1) rfl w.heap.size 0 rfl (netL n) _ HN3.out.range0 Tryd.underlying25 rfl HS.out ?_) | (go_at_call 42; refine HP.out.mono ?_; rintro e w5 ⟨rfl, b5⟩; refine Hid.out ?_) | fail)
      refine Lib.hid ?_
      have HB5 : Hid (Below w.heap.size w w5) := HB3.out.trans (b5.mono HB3.out.size)
      clear b5
      go_wp2
      go_ret2
      exact ⟨HB5.out, Or.inr ⟨_, HYES.out, by rw [HFIN.out]; rfl⟩⟩
end Go.Proofs.YtdmajikhpacpfaaDoor.Cidr
