/-
  DATE, the laws: the same moment by another clock.
-/
import Derived.Test.YtklhgaioolamfaaDoorDatBk
namespace Go.Proofs.YtklhgaioolamfaaDoor.Date
open Go.RowKit Base
set_option maxHeartbeats 4000000 in
set_option maxRecDepth 100000 in
theorem wDateZonesNo (t h m : Int) (w : World) (hv : Vars w) (hn : h < 0 ∨ 23 < h ∨ m < 0 ∨ 59 < m ∨ t < 0 ∨ 253402000000 < t) : Calls Tryd.prog 7 #[.int .i64 t, .int .i64 h, .int .i64 m] w fun e w' => e = .returned (.bool true) ∧ Below w.heap.size w w' := by
  have HH := Lib.hid (wShown w hv)
  have HV := Lib.hid hv
  have hw : h < 0 ∨ (¬ h < 0 ∧ 23 < h) ∨ (¬ h < 0 ∧ ¬ 23 < h ∧ m < 0) ∨ (¬ h < 0 ∧ ¬ 23 < h ∧ ¬ m < 0 ∧ 59 < m) ∨ (¬ h < 0 ∧ ¬ 23 < h ∧ ¬ m < 0 ∧ ¬ 59 < m ∧ t < 0) ∨ (¬ h < 0 ∧ ¬ 23 < h ∧ ¬ m < 0 ∧ ¬ 59 < m ∧ ¬ t < 0 ∧ 253402000000 < t) := by
    by_cases a : h < 0
    · exact Or.inl a
    · by_cases b : 23 < h
      · exact Or.inr (Or.inl ⟨a, b⟩)
      · by_cases c : m < 0
        · exact Or.inr (Or.inr (Or.inl ⟨a, b, c⟩))
        · by_cases d : 59 < m
          · exact Or.inr (Or.inr (Or.inr (Or.inl ⟨a, b, c, d⟩)))
          · by_cases e : t < 0
            · exact Or.inr (Or.inr (Or.inr (Or.inr (Or.inl ⟨a, b, c, d, e⟩))))
            · exact Or.inr (Or.inr (Or.inr (Or.inr (Or.inr ⟨a, b, c, d, e, by omega⟩))))
  clear hn
  rcases hw with x | ⟨x1, x⟩ | ⟨x1, x2, x⟩ | ⟨x1, x2, x3, x⟩ | ⟨x1, x2, x3, x4, x⟩ | ⟨x1, x2, x3, x4, x5, x⟩
  all_goals
    go_enter Tryd.func7, Tryd.ntmps7
    go_wp2_with (first | (go_at_call 8; refine HH.out.mono ?_; rintro ee w1 ⟨rfl, hb⟩; refine Hid.out ?_) | fail)
    refine Lib.hid ?_
    have HB1 : Hid (Below w.heap.size w w1) := hb
    clear hb
    go_wp2
    go_ret
    exact ⟨rfl, HB1.out⟩
set_option maxHeartbeats 8000000 in
set_option maxRecDepth 100000 in
theorem wDateZonesYes (t h m : Nat) (w : World) (hv : Vars w) (hh : h ≤ 23) (hm : m ≤ 59) (ht : t ≤ 253402000000) : Calls Tryd.prog 7 #[.int .i64 (t : Int), .int .i64 (h : Int), .int .i64 (m : Int)] w fun e w' => e = .returned (.bool true) ∧ Below w.heap.size w w' := by
  have HH := Lib.hid (wShown w hv)
  have HV := Lib.hid hv
  have i1 : ¬ (h : Int) < 0 := by omega
  have i2 : ¬ 23 < (h : Int) := by omega
  have i3 : ¬ (m : Int) < 0 := by omega
  have i4 : ¬ 59 < (m : Int) := by omega
  have i5 : ¬ (t : Int) < 0 := by omega
  have i6 : ¬ 253402000000 < (t : Int) := by omega
  obtain ⟨P, hP⟩ : ∃ P : ByteArray, P = ⟨(textOf (t + (3600 * h + 60 * m))).toArray⟩ := ⟨_, rfl⟩
  have HS : Hid (∀ w1, Vars w1 → Calls Tryd.prog 13 #[.int .i64 ((t : Int) + (3600 * (h : Int) + 60 * (m : Int)))] w1 fun e w' => e = .returned (.tuple #[.string P, .int .i64 0]) ∧ Below w1.heap.size w1 w') := fun w1 hvx => by
    have := pShowOk (t + (3600 * h + 60 * m)) w1 hvx (by omega)
    rw [hP]
    have e : ((t + (3600 * h + 60 * m) : Nat) : Int) = (t : Int) + (3600 * (h : Int) + 60 * (m : Int)) := by omega
    rw [e] at this
    exact this
  have hpl : P.data.toList = frontOf (t + (3600 * h + 60 * m)) ++ utcB := by rw [hP]; rfl
  have hps : P.size = (frontOf (t + (3600 * h + 60 * m))).length + 5 := by rw [← str_len, hpl, List.length_append]; rfl
  have hp64 : P.size ≤ 64 := by rw [← str_len, hP]; exact text_len _
  have k5 : (5 : Int) ≤ (P.size : Int) := by omega
  have HFR : Hid (P.data.toList.take (P.size - 5) = frontOf (t + (3600 * h + 60 * m))) := by
    show _ = _
    rw [hpl, hps, Nat.add_sub_cancel]
    exact List.take_left
  obtain ⟨fr, hfr⟩ : ∃ fr, fr = frontOf (t + (3600 * h + 60 * m)) := ⟨_, rfl⟩
  have HPZ := parse_zone ht hh hm
  rw [← hfr] at HFR HPZ
  have e1 : Int.tdiv (h : Int) 10 = ((h / 10 : Nat) : Int) := quo_nat h 10
  have e2 : Int.tmod (h : Int) 10 = ((h % 10 : Nat) : Int) := rem_nat h 10
  have e3 : Int.tdiv (m : Int) 10 = ((m / 10 : Nat) : Int) := quo_nat m 10
  have e4 : Int.tmod (m : Int) 10 = ((m % 10 : Nat) : Int) := rem_nat m 10
  obtain ⟨a, ha⟩ : ∃ a, a = h / 10 := ⟨_, rfl⟩
  obtain ⟨b, hb⟩ : ∃ b, b = h % 10 := ⟨_, rfl⟩
  obtain ⟨c, hc⟩ : ∃ c, c = m / 10 := ⟨_, rfl⟩
  obtain ⟨d, hd⟩ : ∃ d, d = m % 10 := ⟨_, rfl⟩
  rw [← ha] at e1
  rw [← hb] at e2
  rw [← hc] at e3
  rw [← hd] at e4
  have ba : a ≤ 9 := by omega
  have bb : b ≤ 9 := by omega
  have bc : c ≤ 9 := by omega
  have bd : d ≤ 9 := by omega
  obtain ⟨zl, hzl⟩ : ∃ zl, zl = [UInt8.ofNat (48 + a), UInt8.ofNat (48 + b), UInt8.ofNat (48 + c), UInt8.ofNat (48 + d)] := ⟨_, rfl⟩
  have HZL : Hid (twoD h ++ twoD m = zl) := by show _ = _; rw [hzl, ha, hb, hc, hd]; rfl
  rw [HZL.out] at HPZ
  have HPP : Hid (∀ (s : ByteArray) w1, s.data.toList = fr ++ 43 :: zl → Vars w1 → Calls Tryd.prog 16 #[.string s] w1 fun e w' => e = .returned (.tuple #[.int .i64 (t : Int), .int .i64 0]) ∧ Below w1.heap.size w1 w') := fun s w1 hs hvx => pParseY s w1 hvx (by
    rw [← str_len, hs, List.length_append, List.length_cons, hzl]
    have : fr.length ≤ 64 := by rw [hfr]; omega
    simp; omega) (by rw [hs]; exact HPZ)
  have hcv : ∀ w2 : World, (convert 35 9 (.slice (some ⟨w2.heap.size, 0, none⟩) 4 4)).run Tryd.prog (w2.alloc (.cells #[.int .u8 (48 + (a : Int)), .int .u8 (48 + (b : Int)), .int .u8 (48 + (c : Int)), .int .u8 (48 + (d : Int))] 5)) = .ok (S zl) (w2.alloc (.cells #[.int .u8 (48 + (a : Int)), .int .u8 (48 + (b : Int)), .int .u8 (48 + (c : Int)), .int .u8 (48 + (d : Int))] 5)) := fun w2 => by
    have hz : ∀ k : Nat, k ≤ 9 → (48 + (k : Int)) = (((UInt8.ofNat (48 + k)).toNat : Nat) : Int) := fun k hk => by rw [ofNat_toNat (by omega)]; omega
    have hr : Reads (w2.alloc (.cells #[.int .u8 (48 + (a : Int)), .int .u8 (48 + (b : Int)), .int .u8 (48 + (c : Int)), .int .u8 (48 + (d : Int))] 5)) (.slice (some ⟨w2.heap.size, 0, none⟩) 4 4) zl := by
      rw [hzl]
      refine reads_lit w2 5 _ [UInt8.ofNat (48 + a), UInt8.ofNat (48 + b), UInt8.ofNat (48 + c), UInt8.ofNat (48 + d)] 4 rfl ?_ (0, 0)
      rw [hz a ba, hz b bb, hz c bc, hz d bd]
      rfl
    exact conv_reads hr
  have HBZ : Hid (∀ w2 : World, Below w2.heap.size w2 (w2.alloc (.cells #[.int .u8 (48 + (a : Int)), .int .u8 (48 + (b : Int)), .int .u8 (48 + (c : Int)), .int .u8 (48 + (d : Int))] 5))) := fun w2 => Below.alloc1 w2 _
  have lz : zl.length = 4 := by rw [hzl]; rfl
  have hs63 : P.size - 5 ≤ 59 := by omega
  have HPQ : Hid (∀ w1, Vars w1 → Calls Tryd.prog 16 #[.string (P.extract 0 (P.size - 5) ++ (⟨#[43]⟩ ++ ⟨zl.toArray⟩))] w1 fun e w' => e = .returned (.tuple #[.int .i64 (t : Int), .int .i64 0]) ∧ Below w1.heap.size w1 w') := fun w1 hvx => HPP.out _ w1 (by
    rw [← HFR.out, extract_bytes, ByteArray.data_append, ByteArray.data_append]
    simp) hvx
  clear hP hpl hps hfr HPZ ha hb hc hd hzl HZL
  go_enter Tryd.func7, Tryd.ntmps7
  go_wp2_with (first | (go_at_call 8; refine HH.out.mono ?_; rintro ee w1 ⟨rfl, hb⟩; refine Hid.out ?_) | fail)
  refine Lib.hid ?_
  have HB1 : Hid (Below w.heap.size w w1) := hb
  clear hb
  go_wp2_with (first | (go_at_call 13; refine (HS.out _ (by first | exact HV.out | exact HV.out.on HB1.out | exact HV.out.on HB2.out | exact HV.out.on HB3.out | exact HV.out.on HB4.out | exact HV.out.on HB5.out | exact HV.out.on HB6.out | exact HV.out.on HB7.out | exact HV.out.on HA2.out | exact HV.out.on HA3.out | exact HV.out.on (HB2.out.trans ((HBZ.out _).mono HB2.out.size)))).mono ?_; rintro ee w2 ⟨rfl, hb⟩; refine Hid.out ?_) | fail)
  refine Lib.hid ?_
  have HB2 : Hid (Below w.heap.size w w2) := HB1.out.trans (hb.mono HB1.out.size)
  clear hb
  go_wp2_with (first | (go_at_call 16; refine (HPQ.out _ (by first | exact HV.out | exact HV.out.on HB1.out | exact HV.out.on HB2.out | exact HV.out.on HB3.out | exact HV.out.on HB4.out | exact HV.out.on HB5.out | exact HV.out.on HB6.out | exact HV.out.on HB7.out | exact HV.out.on HA2.out | exact HV.out.on HA3.out | exact HV.out.on (HB2.out.trans ((HBZ.out _).mono HB2.out.size)))).mono ?_; rintro ee w3 ⟨rfl, hb⟩; refine Hid.out ?_) | fail)
  refine Lib.hid ?_
  have hb2 := (HBZ.out w2).trans (hb.mono (HBZ.out w2).size)
  have HB3 : Hid (Below w.heap.size w w3) := HB2.out.trans (hb2.mono HB2.out.size)
  clear hb hb2
  go_wp2
  go_ret
  exact ⟨rfl, HB3.out⟩
theorem wDateZones (t h m : Int) (w : World) (hv : Vars w) : Calls Tryd.prog 7 #[.int .i64 t, .int .i64 h, .int .i64 m] w fun e w' => e = .returned (.bool true) ∧ Below w.heap.size w w' := by
  by_cases hn : h < 0 ∨ 23 < h ∨ m < 0 ∨ 59 < m ∨ t < 0 ∨ 253402000000 < t
  · exact wDateZonesNo t h m w hv hn
  · obtain ⟨h', rfl⟩ := Int.eq_ofNat_of_zero_le (show 0 ≤ h by omega)
    obtain ⟨m', rfl⟩ := Int.eq_ofNat_of_zero_le (show 0 ≤ m by omega)
    obtain ⟨t', rfl⟩ := Int.eq_ofNat_of_zero_le (show 0 ≤ t by omega)
    exact wDateZonesYes t' h' m' w hv (by omega) (by omega) (by omega)
end Go.Proofs.YtklhgaioolamfaaDoor.Date
