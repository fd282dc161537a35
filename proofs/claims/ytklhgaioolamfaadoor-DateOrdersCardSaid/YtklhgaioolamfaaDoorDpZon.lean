/-
  DATE, the program: a zone. (Written by gen_pzon.py.)
-/
import Derived.Test.YtklhgaioolamfaaDoorDpClk
import Derived.Test.YtklhgaioolamfaaDoorDpLow
namespace Go.Proofs.YtklhgaioolamfaaDoor.Date
open Go.RowKit Base
theorem zone_hm (neg : Bool) (h m : Int) : zoneOf neg h m = ((if neg = true then -(hmQ h m).1 else (hmQ h m).1), (hmQ h m).2) := by
  unfold zoneOf hmQ
  by_cases a : h < 0 ∨ m < 0 ∨ 23 < h ∨ 59 < m
  · rw [if_pos a, if_pos (by omega)]
    cases neg <;> rfl
  · rw [if_neg a, if_neg (by omega)]
    cases neg
    · rfl
    · simp only [if_true]
      congr 1
      omega
set_option maxHeartbeats 16000000 in
set_option maxRecDepth 100000 in
theorem pZone (s : ByteArray) (w : World) (hs : s.size ≤ 9223372036854775807) : Calls Tryd.prog 37 #[.string s] w fun e w' => e = .returned (zonV (zoneD s.data.toList)) ∧ Below w.heap.size w w' := by
  obtain ⟨l, hl⟩ : ∃ l, l = s.data.toList := ⟨_, rfl⟩
  have hlen : l.length = s.size := by rw [hl, str_len]
  have HLS : Hid (∀ k (h : k < s.size), l.getD k 0 = s[k]) := fun k h => by rw [hl]; exact str_get s k h
  obtain ⟨fin, hfin⟩ : ∃ fin, fin = zonV (zoneD l) := ⟨_, rfl⟩
  obtain ⟨L1, hL1⟩ : ∃ L1, L1 = lowL l := ⟨_, rfl⟩
  have HL : Hid (Calls Tryd.prog 54 #[.string s] w fun e w' => e = .returned (S L1) ∧ Below w.heap.size w w') := by rw [hL1, hl]; exact pLower s w hs
  rw [← hl, ← hfin]
  have HT0 : Hid (∀ w1, Calls Tryd.prog 53 #[.string (s.extract 1 3), .string (s.extract 3 s.size)] w1 fun e w' => e = .returned (zonV (hmQ (numD ((l.drop 1).take 2) 2 2) (numD (l.drop 3) 2 2))) ∧ w1 = w') := fun w1 => by
    have := pTime (s.extract 1 3) (s.extract 3 s.size) w1
    have e1 : (s.extract 1 3).data.toList = (l.drop 1).take 2 := by rw [extract_bytes, ← hl, List.drop_take]
    have e2 : (s.extract 3 s.size).data.toList = l.drop 3 := by rw [extract_bytes, ← hl, List.take_of_length_le (by omega)]
    rw [e1, e2] at this
    exact this
  have HF : Hid (fin = zonV (if L1 = [103, 109, 116] ∨ L1 = [117, 116] then (0, true)
    else if s.size ≠ 5 ∨ ((l.getD 0 0).toNat ≠ 43 ∧ (l.getD 0 0).toNat ≠ 45) then (0, false)
    else ((if decide ((l.getD 0 0).toNat = 45) = true then -(hmQ (numD ((l.drop 1).take 2) 2 2) (numD (l.drop 3) 2 2)).1 else (hmQ (numD ((l.drop 1).take 2) 2 2) (numD (l.drop 3) 2 2)).1), (hmQ (numD ((l.drop 1).take 2) 2 2) (numD (l.drop 3) 2 2)).2))) := by
      show _ = _
      rw [← zone_hm, hL1, hfin, ← hlen]; rfl
  have hrg := hm_rng (numD ((l.drop 1).take 2) 2 2) (numD (l.drop 3) 2 2)
  generalize hmQ (numD ((l.drop 1).take 2) 2 2) (numD (l.drop 3) 2 2) = T at HF HT0 hrg
  obtain ⟨ta, tb⟩ := T
  obtain ⟨r1, r2⟩ := hrg
  have r1 : 0 ≤ ta := r1
  have r2 : ta ≤ 86340 := r2
  have HT : Hid (∀ w1, Calls Tryd.prog 53 #[.string (s.extract 1 3), .string (s.extract 3 s.size)] w1 fun e w' => e = .returned (.tuple #[.int .i64 ta, .bool tb]) ∧ w1 = w') := HT0.out
  clear HT0 hfin hL1 hl hlen hs
  cases q1 : (L1 == [103, 109, 116])
  case true =>
    have HE : Hid (fin = .tuple #[.int .i64 0, .bool true]) := by show _ = _; rw [HF.out, if_pos (Or.inl (eq_of_beq q1))]; rfl
    clear HF
    go_enter Tryd.func37, Tryd.ntmps37
    go_wp2_with (first | (go_at_call 54; refine HL.out.mono ?_; rintro ee w1 ⟨rfl, hb1⟩; refine Hid.out ?_) | fail)
    refine Lib.hid ?_
    have HB1 := Lib.hid hb1
    clear hb1
    go_wp2
    go_ret2
    rw [HE.out]
    exact ⟨rfl, HB1.out⟩
  have n1 : L1 ≠ [103, 109, 116] := fun e => by rw [e] at q1; revert q1; decide
  cases q2 : (L1 == [117, 116])
  case true =>
    have HE : Hid (fin = .tuple #[.int .i64 0, .bool true]) := by show _ = _; rw [HF.out, if_pos (Or.inr (eq_of_beq q2))]; rfl
    clear HF n1
    go_enter Tryd.func37, Tryd.ntmps37
    go_wp2_with (first | (go_at_call 54; refine HL.out.mono ?_; rintro ee w1 ⟨rfl, hb1⟩; refine Hid.out ?_) | fail)
    refine Lib.hid ?_
    have HB1 := Lib.hid hb1
    clear hb1
    go_wp2
    go_ret2
    rw [HE.out]
    exact ⟨rfl, HB1.out⟩
  have n2 : L1 ≠ [117, 116] := fun e => by rw [e] at q2; revert q2; decide
  have HN : Hid (¬ (L1 = [103, 109, 116] ∨ L1 = [117, 116])) := fun x => x.elim n1 n2
  clear n1 n2
  by_cases h5 : s.size = 5
  case neg =>
    have e5 : ((s.size : Int) != 5) = true := by rw [bne_iff_ne]; omega
    have HE : Hid (fin = .tuple #[.int .i64 0, .bool false]) := by show _ = _; rw [HF.out, if_neg HN.out, if_pos (Or.inl h5)]; rfl
    clear HF h5
    go_enter Tryd.func37, Tryd.ntmps37
    go_wp2_with (first | (go_at_call 54; refine HL.out.mono ?_; rintro ee w1 ⟨rfl, hb1⟩; refine Hid.out ?_) | fail)
    refine Lib.hid ?_
    have HB1 := Lib.hid hb1
    clear hb1
    go_wp2
    go_ret2
    rw [HE.out]
    exact ⟨rfl, HB1.out⟩
  have e5 : ((s.size : Int) != 5) = false := by rw [h5]; rfl
  have p0 : 0 < s.size := by omega
  have k0 : (0 : Int) < (s.size : Int) := by omega
  have k3 : (3 : Int) ≤ (s.size : Int) := by omega
  have g0 := HLS.out 0 p0
  by_cases h43 : (s[0]'p0).toNat = 43
  case pos =>
    have e43 : (((s[0]'p0).toNat : Int) != 43) = false := by rw [h43]; rfl
    have e45 : (((s[0]'p0).toNat : Int) == 45) = false := by rw [h43]; rfl
    have HE : Hid (fin = .tuple #[.int .i64 ta, .bool tb]) := by
      show _ = _
      rw [HF.out, if_neg HN.out, g0, h43, if_neg (by omega)]; rfl
    clear HF h5 h43 g0
    go_enter Tryd.func37, Tryd.ntmps37
    go_wp2_with (first | (go_at_call 54; refine HL.out.mono ?_; rintro ee w1 ⟨rfl, hb1⟩; refine Hid.out ?_) | fail)
    refine Lib.hid ?_
    have HB1 := Lib.hid hb1
    clear hb1
    go_upto_region 6 with fail
    go_quiet ((go_at_call 53; exact Calls.quiet_of_same ((HT.out _).mono fun _ _ h => ⟨h.1, h.2.symm⟩)))
    go_wp2_with fail
    go_ret2
    rw [HE.out]
    exact ⟨rfl, HB1.out.trans ⟨rfl, rfl, rfl, Nat.le_refl _, fun _ _ => rfl⟩⟩
  have e43 : (((s[0]'p0).toNat : Int) != 43) = true := by rw [bne_iff_ne]; omega
  by_cases h45 : (s[0]'p0).toNat = 45
  case pos =>
    have e45 : (((s[0]'p0).toNat : Int) == 45) = true := by rw [h45]; rfl
    have e46 : (((s[0]'p0).toNat : Int) != 45) = false := by rw [h45]; rfl
    have HE : Hid (fin = .tuple #[.int .i64 (-ta), .bool tb]) := by
      show _ = _
      rw [HF.out, if_neg HN.out, g0, h45, if_neg (by omega)]; rfl
    clear HF h5 h43 h45 g0
    go_enter Tryd.func37, Tryd.ntmps37
    go_wp2_with (first | (go_at_call 54; refine HL.out.mono ?_; rintro ee w1 ⟨rfl, hb1⟩; refine Hid.out ?_) | fail)
    refine Lib.hid ?_
    have HB1 := Lib.hid hb1
    clear hb1
    go_upto_region 6 with fail
    go_quiet ((go_at_call 53; exact Calls.quiet_of_same ((HT.out _).mono fun _ _ h => ⟨h.1, h.2.symm⟩)))
    go_wp2_with fail
    go_ret2
    rw [HE.out]
    exact ⟨rfl, HB1.out.trans ⟨rfl, rfl, rfl, Nat.le_refl _, fun _ _ => rfl⟩⟩
  have e46 : (((s[0]'p0).toNat : Int) != 45) = true := by rw [bne_iff_ne]; omega
  have HE : Hid (fin = .tuple #[.int .i64 0, .bool false]) := by
    show _ = _
    rw [HF.out, if_neg HN.out, g0, if_pos (Or.inr ⟨h43, h45⟩)]; rfl
  clear HF h5 h43 h45 g0
  go_enter Tryd.func37, Tryd.ntmps37
  go_wp2_with (first | (go_at_call 54; refine HL.out.mono ?_; rintro ee w1 ⟨rfl, hb1⟩; refine Hid.out ?_) | fail)
  refine Lib.hid ?_
  have HB1 := Lib.hid hb1
  clear hb1
  go_wp2
  go_ret2
  rw [HE.out]
  exact ⟨rfl, HB1.out⟩
end Go.Proofs.YtklhgaioolamfaaDoor.Date
