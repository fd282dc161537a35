/-
  DATE, the given answers: zone.
-/
import Derived.Test.YtklhgaioolamfaaDoorDatClk
namespace Go.Proofs.YtklhgaioolamfaaDoor.Date
open Go.RowKit Base
theorem zone_no {b : Bool} {h m : Int} (x : h < 0 ∨ 23 < h ∨ m < 0 ∨ 59 < m) : zoneOf b h m = (0, false) := if_pos x
theorem zone_neg {h m : Int} (x : ¬ (h < 0 ∨ 23 < h ∨ m < 0 ∨ 59 < m)) : zoneOf true h m = (-3600 * h - 60 * m, true) := by unfold zoneOf; rw [if_neg x, if_pos rfl]
theorem zone_pos {h m : Int} (x : ¬ (h < 0 ∨ 23 < h ∨ m < 0 ∨ 59 < m)) : zoneOf false h m = (3600 * h + 60 * m, true) := by unfold zoneOf; rw [if_neg x, if_neg (by decide)]
/-- A zone as the program tells it. -/
def zonV (z : Int × Bool) : Value := .tuple #[.int .i64 z.1, .bool z.2]
set_option maxHeartbeats 8000000 in
set_option maxRecDepth 100000 in
theorem rZone (s : ByteArray) (w : World) (hs : s.size ≤ 9223372036854775807) : Calls Tryd.prog 31 #[.string s] w fun e w' => e = .returned (zonV (zoneD s.data.toList)) ∧ Below w.heap.size w w' := by
  obtain ⟨l, hll⟩ : ∃ l, l = s.data.toList := ⟨_, rfl⟩
  have hlen : l.length = s.size := by rw [hll, str_len]
  have HLS : Hid (∀ k (h : k < s.size), l.getD k 0 = s[k]) := fun k h => by rw [hll]; exact str_get s k h
  obtain ⟨fin, hfin⟩ : ∃ fin, fin = zoneD l := ⟨_, rfl⟩
  obtain ⟨L1, hL1⟩ : ∃ L1, L1 = lowL l := ⟨_, rfl⟩
  have HL : Hid (Calls Tryd.prog 47 #[.string s] w fun e w' => e = .returned (S L1) ∧ Below w.heap.size w w') := by rw [hL1, hll]; exact rLower s w hs
  rw [← hll, ← hfin]
  have HF : Hid (fin = if L1 = [103, 109, 116] ∨ L1 = [117, 116] then (0, true)
    else if l.length ≠ 5 ∨ ((l.getD 0 0).toNat ≠ 43 ∧ (l.getD 0 0).toNat ≠ 45) then (0, false)
    else zoneOf (decide ((l.getD 0 0).toNat = 45)) (numD ((l.drop 1).take 2) 2 2) (numD (l.drop 3) 2 2)) := by rw [hL1]; exact hfin
  have HN1 : Hid (∀ a b w1, Calls Tryd.prog 29 #[.string (s.extract a b), .int .i64 2, .int .i64 2] w1 fun e w' => e = .returned (.int .i64 (numD ((l.take b).drop a) 2 2)) ∧ w1 = w') := fun a b w1 => by
    have := rNumber (s.extract a b) 2 2 w1 (by omega) (by omega)
    have eb : (s.extract a b).data.toList = (l.take b).drop a := by rw [extract_bytes, ← hll]
    rw [eb, show ((2 : Nat) : Int) = 2 from rfl] at this
    exact this
  obtain ⟨h, hh⟩ : ∃ h, h = numD ((l.drop 1).take 2) 2 2 := ⟨_, rfl⟩
  obtain ⟨m, hm⟩ : ∃ m, m = numD (l.drop 3) 2 2 := ⟨_, rfl⟩
  rw [← hh, ← hm] at HF
  have HRR : Hid (h ≤ 99 ∧ m ≤ 99) := ⟨by rw [hh]; exact num2_le _, by rw [hm]; exact num2_le _⟩
  have HH : Hid (∀ w1, Calls Tryd.prog 29 #[.string (s.extract 1 3), .int .i64 2, .int .i64 2] w1 fun e w' => e = .returned (.int .i64 h) ∧ w1 = w') := fun w1 => by
    have := HN1.out 1 3 w1
    rwa [List.drop_take, ← hh] at this
  have HM : Hid (∀ w1, Calls Tryd.prog 29 #[.string (s.extract 3 s.size), .int .i64 2, .int .i64 2] w1 fun e w' => e = .returned (.int .i64 m) ∧ w1 = w') := fun w1 => by
    have := HN1.out 3 s.size w1
    rwa [List.take_of_length_le (by omega), ← hm] at this
  clear HN1 hfin hll hh hm hL1
  cases q1 : (L1 == [103, 109, 116])
  · have n1 : L1 ≠ [103, 109, 116] := fun e => by rw [e] at q1; revert q1; decide
    cases q2 : (L1 == [117, 116])
    · have n2 : L1 ≠ [117, 116] := fun e => by rw [e] at q2; revert q2; decide
      have HF2 : Hid (fin = if l.length ≠ 5 ∨ ((l.getD 0 0).toNat ≠ 43 ∧ (l.getD 0 0).toNat ≠ 45) then (0, false)
        else zoneOf (decide ((l.getD 0 0).toNat = 45)) h m) := by show _ = _; rw [HF.out, if_neg (fun x => x.elim n1 n2)]
      clear HF n1 n2
      by_cases h5 : s.size = 5
      · have e5 : ((s.size : Int) != 5) = false := by rw [h5]; rfl
        have p0 : 0 < s.size := by omega
        have k0 : (0 : Int) < (s.size : Int) := by omega
        have k3 : (3 : Int) ≤ (s.size : Int) := by omega
        have g0 := HLS.out 0 p0
        by_cases h43 : (s[0]'p0).toNat = 43
        · have e43 : (((s[0]'p0).toNat : Int) != 43) = false := by rw [h43]; rfl
          have e45 : (((s[0]'p0).toNat : Int) == 45) = false := by rw [h43]; rfl
          have HY : Hid (fin = zoneOf false h m) := by
            show _ = _
            rw [HF2.out, g0, h43, if_neg (by omega)]; rfl
          clear HF2 h5 h43 g0
          rcases time_ways h m 0 with x | ⟨x1, x⟩ | ⟨x1, x2, x⟩ | ⟨x1, x2, x3, x⟩ | ⟨x1, x2, x3, x4, x⟩ | ⟨x1, x2, x3, x4, x5, x⟩ | ⟨x1, x2, x3, x4, x5, x⟩
          · have HE : Hid (fin = (0, false)) := by show _ = _; rw [HY.out, zone_no (Or.inl x)]
            clear HY
            go_enter Tryd.func31, Tryd.ntmps31
            go_wp2_with (first | (go_at_call 47; refine HL.out.mono ?_; rintro ee w1 ⟨rfl, hb1⟩; refine Hid.out ?_) | fail)
            refine Lib.hid ?_
            have HB1 := Lib.hid hb1
            clear hb1
            go_wp2_with (first | (go_at_call 29; refine (HH.out _).mono ?_; rintro ee w1 ⟨rfl, rfl⟩; refine Hid.out ?_) | fail)
            refine Lib.hid ?_
            go_wp2_with (first | (go_at_call 29; refine (HM.out _).mono ?_; rintro ee w1 ⟨rfl, rfl⟩; refine Hid.out ?_) | fail)
            refine Lib.hid ?_
            go_wp2
            go_ret2
            rw [HE.out]
            exact ⟨rfl, HB1.out⟩
          · have HE : Hid (fin = (0, false)) := by show _ = _; rw [HY.out, zone_no (Or.inr (Or.inl x))]
            clear HY
            go_enter Tryd.func31, Tryd.ntmps31
            go_wp2_with (first | (go_at_call 47; refine HL.out.mono ?_; rintro ee w1 ⟨rfl, hb1⟩; refine Hid.out ?_) | fail)
            refine Lib.hid ?_
            have HB1 := Lib.hid hb1
            clear hb1
            go_wp2_with (first | (go_at_call 29; refine (HH.out _).mono ?_; rintro ee w1 ⟨rfl, rfl⟩; refine Hid.out ?_) | fail)
            refine Lib.hid ?_
            go_wp2_with (first | (go_at_call 29; refine (HM.out _).mono ?_; rintro ee w1 ⟨rfl, rfl⟩; refine Hid.out ?_) | fail)
            refine Lib.hid ?_
            go_wp2
            go_ret2
            rw [HE.out]
            exact ⟨rfl, HB1.out⟩
          · have HE : Hid (fin = (0, false)) := by show _ = _; rw [HY.out, zone_no (Or.inr (Or.inr (Or.inl x)))]
            clear HY
            go_enter Tryd.func31, Tryd.ntmps31
            go_wp2_with (first | (go_at_call 47; refine HL.out.mono ?_; rintro ee w1 ⟨rfl, hb1⟩; refine Hid.out ?_) | fail)
            refine Lib.hid ?_
            have HB1 := Lib.hid hb1
            clear hb1
            go_wp2_with (first | (go_at_call 29; refine (HH.out _).mono ?_; rintro ee w1 ⟨rfl, rfl⟩; refine Hid.out ?_) | fail)
            refine Lib.hid ?_
            go_wp2_with (first | (go_at_call 29; refine (HM.out _).mono ?_; rintro ee w1 ⟨rfl, rfl⟩; refine Hid.out ?_) | fail)
            refine Lib.hid ?_
            go_wp2
            go_ret2
            rw [HE.out]
            exact ⟨rfl, HB1.out⟩
          · have HE : Hid (fin = (0, false)) := by show _ = _; rw [HY.out, zone_no (Or.inr (Or.inr (Or.inr x)))]
            clear HY
            go_enter Tryd.func31, Tryd.ntmps31
            go_wp2_with (first | (go_at_call 47; refine HL.out.mono ?_; rintro ee w1 ⟨rfl, hb1⟩; refine Hid.out ?_) | fail)
            refine Lib.hid ?_
            have HB1 := Lib.hid hb1
            clear hb1
            go_wp2_with (first | (go_at_call 29; refine (HH.out _).mono ?_; rintro ee w1 ⟨rfl, rfl⟩; refine Hid.out ?_) | fail)
            refine Lib.hid ?_
            go_wp2_with (first | (go_at_call 29; refine (HM.out _).mono ?_; rintro ee w1 ⟨rfl, rfl⟩; refine Hid.out ?_) | fail)
            refine Lib.hid ?_
            go_wp2
            go_ret2
            rw [HE.out]
            exact ⟨rfl, HB1.out⟩
          · exact absurd x (by omega)
          · exact absurd x (by omega)
          · have HE : Hid (fin = (3600 * h + 60 * m, true)) := by show _ = _; rw [HY.out, zone_pos (by omega)]
            clear HY
            go_enter Tryd.func31, Tryd.ntmps31
            go_wp2_with (first | (go_at_call 47; refine HL.out.mono ?_; rintro ee w1 ⟨rfl, hb1⟩; refine Hid.out ?_) | fail)
            refine Lib.hid ?_
            have HB1 := Lib.hid hb1
            clear hb1
            go_wp2_with (first | (go_at_call 29; refine (HH.out _).mono ?_; rintro ee w1 ⟨rfl, rfl⟩; refine Hid.out ?_) | fail)
            refine Lib.hid ?_
            go_wp2_with (first | (go_at_call 29; refine (HM.out _).mono ?_; rintro ee w1 ⟨rfl, rfl⟩; refine Hid.out ?_) | fail)
            refine Lib.hid ?_
            go_wp2
            go_ret2
            rw [HE.out]
            exact ⟨rfl, HB1.out⟩
        · have e43 : (((s[0]'p0).toNat : Int) != 43) = true := by rw [bne_iff_ne]; omega
          by_cases h45 : (s[0]'p0).toNat = 45
          · have e45 : (((s[0]'p0).toNat : Int) == 45) = true := by rw [h45]; rfl
            have e45' : (((s[0]'p0).toNat : Int) != 45) = false := by rw [h45]; rfl
            have HY : Hid (fin = zoneOf true h m) := by
              show _ = _
              rw [HF2.out, g0, h45, if_neg (by omega)]; rfl
            clear HF2 h5 h43 h45 g0
            rcases time_ways h m 0 with x | ⟨x1, x⟩ | ⟨x1, x2, x⟩ | ⟨x1, x2, x3, x⟩ | ⟨x1, x2, x3, x4, x⟩ | ⟨x1, x2, x3, x4, x5, x⟩ | ⟨x1, x2, x3, x4, x5, x⟩
            · have HE : Hid (fin = (0, false)) := by show _ = _; rw [HY.out, zone_no (Or.inl x)]
              clear HY
              go_enter Tryd.func31, Tryd.ntmps31
              go_wp2_with (first | (go_at_call 47; refine HL.out.mono ?_; rintro ee w1 ⟨rfl, hb1⟩; refine Hid.out ?_) | fail)
              refine Lib.hid ?_
              have HB1 := Lib.hid hb1
              clear hb1
              go_wp2_with (first | (go_at_call 29; refine (HH.out _).mono ?_; rintro ee w1 ⟨rfl, rfl⟩; refine Hid.out ?_) | fail)
              refine Lib.hid ?_
              go_wp2_with (first | (go_at_call 29; refine (HM.out _).mono ?_; rintro ee w1 ⟨rfl, rfl⟩; refine Hid.out ?_) | fail)
              refine Lib.hid ?_
              go_wp2
              go_ret2
              rw [HE.out]
              exact ⟨rfl, HB1.out⟩
            · have HE : Hid (fin = (0, false)) := by show _ = _; rw [HY.out, zone_no (Or.inr (Or.inl x))]
              clear HY
              go_enter Tryd.func31, Tryd.ntmps31
              go_wp2_with (first | (go_at_call 47; refine HL.out.mono ?_; rintro ee w1 ⟨rfl, hb1⟩; refine Hid.out ?_) | fail)
              refine Lib.hid ?_
              have HB1 := Lib.hid hb1
              clear hb1
              go_wp2_with (first | (go_at_call 29; refine (HH.out _).mono ?_; rintro ee w1 ⟨rfl, rfl⟩; refine Hid.out ?_) | fail)
              refine Lib.hid ?_
              go_wp2_with (first | (go_at_call 29; refine (HM.out _).mono ?_; rintro ee w1 ⟨rfl, rfl⟩; refine Hid.out ?_) | fail)
              refine Lib.hid ?_
              go_wp2
              go_ret2
              rw [HE.out]
              exact ⟨rfl, HB1.out⟩
            · have HE : Hid (fin = (0, false)) := by show _ = _; rw [HY.out, zone_no (Or.inr (Or.inr (Or.inl x)))]
              clear HY
              go_enter Tryd.func31, Tryd.ntmps31
              go_wp2_with (first | (go_at_call 47; refine HL.out.mono ?_; rintro ee w1 ⟨rfl, hb1⟩; refine Hid.out ?_) | fail)
              refine Lib.hid ?_
              have HB1 := Lib.hid hb1
              clear hb1
              go_wp2_with (first | (go_at_call 29; refine (HH.out _).mono ?_; rintro ee w1 ⟨rfl, rfl⟩; refine Hid.out ?_) | fail)
              refine Lib.hid ?_
              go_wp2_with (first | (go_at_call 29; refine (HM.out _).mono ?_; rintro ee w1 ⟨rfl, rfl⟩; refine Hid.out ?_) | fail)
              refine Lib.hid ?_
              go_wp2
              go_ret2
              rw [HE.out]
              exact ⟨rfl, HB1.out⟩
            · have HE : Hid (fin = (0, false)) := by show _ = _; rw [HY.out, zone_no (Or.inr (Or.inr (Or.inr x)))]
              clear HY
              go_enter Tryd.func31, Tryd.ntmps31
              go_wp2_with (first | (go_at_call 47; refine HL.out.mono ?_; rintro ee w1 ⟨rfl, hb1⟩; refine Hid.out ?_) | fail)
              refine Lib.hid ?_
              have HB1 := Lib.hid hb1
              clear hb1
              go_wp2_with (first | (go_at_call 29; refine (HH.out _).mono ?_; rintro ee w1 ⟨rfl, rfl⟩; refine Hid.out ?_) | fail)
              refine Lib.hid ?_
              go_wp2_with (first | (go_at_call 29; refine (HM.out _).mono ?_; rintro ee w1 ⟨rfl, rfl⟩; refine Hid.out ?_) | fail)
              refine Lib.hid ?_
              go_wp2
              go_ret2
              rw [HE.out]
              exact ⟨rfl, HB1.out⟩
            · exact absurd x (by omega)
            · exact absurd x (by omega)
            · have HE : Hid (fin = (-3600 * h - 60 * m, true)) := by show _ = _; rw [HY.out, zone_neg (by omega)]
              clear HY
              go_enter Tryd.func31, Tryd.ntmps31
              go_wp2_with (first | (go_at_call 47; refine HL.out.mono ?_; rintro ee w1 ⟨rfl, hb1⟩; refine Hid.out ?_) | fail)
              refine Lib.hid ?_
              have HB1 := Lib.hid hb1
              clear hb1
              go_wp2_with (first | (go_at_call 29; refine (HH.out _).mono ?_; rintro ee w1 ⟨rfl, rfl⟩; refine Hid.out ?_) | fail)
              refine Lib.hid ?_
              go_wp2_with (first | (go_at_call 29; refine (HM.out _).mono ?_; rintro ee w1 ⟨rfl, rfl⟩; refine Hid.out ?_) | fail)
              refine Lib.hid ?_
              go_wp2
              go_ret2
              rw [HE.out]
              exact ⟨rfl, HB1.out⟩
          · have e45 : (((s[0]'p0).toNat : Int) != 45) = true := by rw [bne_iff_ne]; omega
            have HE : Hid (fin = (0, false)) := by
              show _ = _
              rw [HF2.out, g0, if_pos (Or.inr ⟨h43, h45⟩)]
            clear HF2 h5 h43 h45 g0
            go_enter Tryd.func31, Tryd.ntmps31
            go_wp2_with (first | (go_at_call 47; refine HL.out.mono ?_; rintro ee w1 ⟨rfl, hb1⟩; refine Hid.out ?_) | fail)
            refine Lib.hid ?_
            have HB1 := Lib.hid hb1
            clear hb1
            go_wp2
            go_ret2
            rw [HE.out]
            exact ⟨rfl, HB1.out⟩
      · have e5 : ((s.size : Int) != 5) = true := by rw [bne_iff_ne]; omega
        have HE : Hid (fin = (0, false)) := by
          show _ = _
          rw [HF2.out, if_pos (Or.inl (by omega))]
        clear HF2 h5
        go_enter Tryd.func31, Tryd.ntmps31
        go_wp2_with (first | (go_at_call 47; refine HL.out.mono ?_; rintro ee w1 ⟨rfl, hb1⟩; refine Hid.out ?_) | fail)
        refine Lib.hid ?_
        have HB1 := Lib.hid hb1
        clear hb1
        go_wp2
        go_ret2
        rw [HE.out]
        exact ⟨rfl, HB1.out⟩
    · have HE : Hid (fin = (0, true)) := by show _ = _; rw [HF.out, if_pos (Or.inr (by simpa using q2))]
      clear HF n1
      go_enter Tryd.func31, Tryd.ntmps31
      go_wp2_with (first | (go_at_call 47; refine HL.out.mono ?_; rintro ee w1 ⟨rfl, hb1⟩; refine Hid.out ?_) | fail)
      refine Lib.hid ?_
      have HB1 := Lib.hid hb1
      clear hb1
      go_wp2
      go_ret2
      rw [HE.out]
      exact ⟨rfl, HB1.out⟩
  · have HE : Hid (fin = (0, true)) := by show _ = _; rw [HF.out, if_pos (Or.inl (by simpa using q1))]
    clear HF
    go_enter Tryd.func31, Tryd.ntmps31
    go_wp2_with (first | (go_at_call 47; refine HL.out.mono ?_; rintro ee w1 ⟨rfl, hb1⟩; refine Hid.out ?_) | fail)
    refine Lib.hid ?_
    have HB1 := Lib.hid hb1
    clear hb1
    go_wp2
    go_ret2
    rw [HE.out]
    exact ⟨rfl, HB1.out⟩
end Go.Proofs.YtklhgaioolamfaaDoor.Date
