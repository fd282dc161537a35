/-
  DATE, the program: Parse. (Written by gen_pprs.py.)
-/
import Derived.Test.YtklhgaioolamfaaDoorDpNam
import Derived.Test.YtklhgaioolamfaaDoorDpDat
import Derived.Test.YtklhgaioolamfaaDoorDpZon
import Derived.Test.YtklhgaioolamfaaDoorDatPrs
import Derived.Test.YtklhgaioolamfaaDoorDpDay
import Derived.Deep.CutBlock
import Derived.Deep.DeepCutAuto
namespace Go.Proofs.YtklhgaioolamfaaDoor.Date
open Go.RowKit Base
theorem date_rng (a b c : List UInt8) : -2000000 ≤ (dateQ (numD a 1 2) (placeD monB b) (numD c 4 4)).1 ∧ (dateQ (numD a 1 2) (placeD monB b) (numD c 4 4)).1 ≤ 20000000 := by
  have a1 := num12_le a
  have c1 := num4_le c
  have m1 := place_mon b
  unfold dateQ
  split
  · decide
  · rename_i h
    dsimp only
    have hk : (placeD monB b + 1).toNat ≤ 12 := by rcases m1 with h1 | ⟨k, h1, h2⟩ <;> omega
    have hy : (numD c 4 4).toNat ≤ 9999 := by omega
    have hd : (numD a 1 2).toNat ≤ 99 := by omega
    generalize (placeD monB b + 1).toNat = m at hk
    generalize (numD c 4 4).toNat = y at hy
    generalize (numD a 1 2).toNat = d at hd
    have hb := befM_le y (m - 1)
    have h1 := new_lo y
    have h2 : newZ y ≤ 10000000 := by unfold newZ; omega
    unfold dayZ
    omega
theorem clk_rng2 (d : List UInt8) : 0 ≤ (okD (clockD d)).1 ∧ (okD (clockD d)).1 ≤ 86399 := by
  have := clock_rng d
  unfold okD
  split
  · decide
  · dsimp only; omega
theorem chain {nm r0 r1 r2 r3 r4 r5 : List UInt8} (h1 : wordsD r1 = (wordsD r0).tail) (h2 : wordsD r2 = (wordsD r1).tail) (h3 : wordsD r3 = (wordsD r2).tail) (h4 : wordsD r4 = (wordsD r3).tail) (h5 : wordsD r5 = (wordsD r4).tail) :
    fiveQ nm (wordsD r0) = tickQ nm (headW r0) (headW r1) (headW r2) (headW r3) (headW r4) (wordsD r5) := by
  rw [h1] at h2
  rw [h2] at h3
  rw [h3] at h4
  rw [h4] at h5
  unfold fiveQ headW
  rw [h1, h2, h3, h4, h5]
  generalize wordsD r0 = V
  match V with
  | [] => rfl
  | [_] => rfl
  | [_, _] => rfl
  | [_, _, _] => rfl
  | [_, _, _, _] => rfl
  | _ :: _ :: _ :: _ :: _ :: _ => rfl
theorem cut_any {l : List UInt8} {w : World} {e : Ending} {w' : World} (h : CutEnd l w e w') : ∃ nm r0 : List UInt8, e = .returned (.tuple #[S nm, S r0]) ∧ fiveQ nm (wordsD r0) = parseD l ∧ nm.length ≤ l.length ∧ r0.length ≤ l.length ∧ Below w.heap.size w w' := by
  obtain ⟨h1, h2⟩ := h
  have hp := parse_same l
  unfold parseQ at hp
  split at h1
  · rename_i hc
    obtain ⟨r, he, hw, hl⟩ := h1
    rw [if_pos (show commaD ((wordsD l).headD []) = true from hc)] at hp
    exact ⟨headW l, r, he, by rw [hw]; exact hp, headW_le l, hl, h2⟩
  · rename_i hc
    rw [if_neg (show ¬ commaD ((wordsD l).headD []) = true from hc)] at hp
    exact ⟨[], l, h1, hp, Nat.zero_le _, Nat.le_refl _, h2⟩
set_option maxHeartbeats 16000000 in
set_option maxRecDepth 100000 in
theorem pParse (s : ByteArray) (w : World) (hv : Vars w) (hs : s.size ≤ 1000000000) : Calls Tryd.prog 16 #[.string s] w (ParseEnd s.data.toList w) := by
  obtain ⟨l, hl⟩ : ∃ l, l = s.data.toList := ⟨_, rfl⟩
  have hll : l.length ≤ 1000000000 := by rw [hl, str_len]; exact hs
  have hsl : (.string s : Value) = S l := by rw [hl]
  have HC : Hid (Calls Tryd.prog 33 #[.string s] w fun e w' => ∃ nm r0 : List UInt8, e = .returned (.tuple #[S nm, S r0]) ∧ fiveQ nm (wordsD r0) = parseD l ∧ nm.length ≤ l.length ∧ r0.length ≤ l.length ∧ Below w.heap.size w w') := by
    rw [hsl]; exact (pCutName l w hv hll).mono fun e w' h => cut_any h
  rw [← hl]
  have HEND : Hid (∀ e w', ParseEnd l w e w' = (e = .returned (outV (parseD l)) ∧ Below w.heap.size w w')) := fun e w' => rfl
  generalize parseD l = fin at HC HEND
  have HNX : Hid (∀ (r : List UInt8) w1, Vars w1 → r.length ≤ 1000000000 → Calls Tryd.prog 34 #[S r] w1 (NextEnd r w1)) := fun r w1 h1 h2 => pNext r w1 h1 h2
  have HV0 := Lib.hid hv
  clear hl hsl hs hv
  go_enter Tryd.func16, Tryd.ntmps16
  go_wp2_with (first | (go_at_call 33; refine HC.out.mono ?_; rintro ee w0 ⟨nm, r0, rfl, hf, hnl, hl0, hb⟩; refine Hid.out ?_) | fail)
  refine Lib.hid ?_
  have HV1 := Lib.hid (HV0.out.on hb)
  have HB0 := Lib.hid hb
  have HF0 := Lib.hid hf
  have L0 := Lib.hid (Nat.le_trans hl0 hll)
  have LN := Lib.hid (Nat.le_trans hnl hll)
  clear HC hb hf hl0 hnl HV0
  go_wp2_with (first | (go_at_call 34; refine (HNX.out r0 _ HV1.out L0.out).mono ?_; rintro ee w1 ⟨r1, rfl, hf, hle, hb⟩; refine Hid.out ?_) | fail)
  refine Lib.hid ?_
  have HV2 := Lib.hid (HV1.out.on hb)
  have HB1 : Hid (Below w.heap.size w w1) := HB0.out.trans (hb.mono HB0.out.size)
  have HF1 := Lib.hid hf
  have L1 := Lib.hid (Nat.le_trans hle L0.out)
  have LH0 := Lib.hid (Nat.le_trans (headW_le r0) L0.out)
  clear hb hf hle
  go_wp2_with (first | (go_at_call 34; refine (HNX.out r1 _ HV2.out L1.out).mono ?_; rintro ee w2 ⟨r2, rfl, hf, hle, hb⟩; refine Hid.out ?_) | fail)
  refine Lib.hid ?_
  have HV3 := Lib.hid (HV2.out.on hb)
  have HB2 : Hid (Below w.heap.size w w2) := HB1.out.trans (hb.mono HB1.out.size)
  have HF2 := Lib.hid hf
  have L2 := Lib.hid (Nat.le_trans hle L1.out)
  have LH1 := Lib.hid (Nat.le_trans (headW_le r1) L1.out)
  clear hb hf hle
  go_wp2_with (first | (go_at_call 34; refine (HNX.out r2 _ HV3.out L2.out).mono ?_; rintro ee w3 ⟨r3, rfl, hf, hle, hb⟩; refine Hid.out ?_) | fail)
  refine Lib.hid ?_
  have HV4 := Lib.hid (HV3.out.on hb)
  have HB3 : Hid (Below w.heap.size w w3) := HB2.out.trans (hb.mono HB2.out.size)
  have HF3 := Lib.hid hf
  have L3 := Lib.hid (Nat.le_trans hle L2.out)
  have LH2 := Lib.hid (Nat.le_trans (headW_le r2) L2.out)
  clear hb hf hle
  go_wp2_with (first | (go_at_call 34; refine (HNX.out r3 _ HV4.out L3.out).mono ?_; rintro ee w4 ⟨r4, rfl, hf, hle, hb⟩; refine Hid.out ?_) | fail)
  refine Lib.hid ?_
  have HV5 := Lib.hid (HV4.out.on hb)
  have HB4 : Hid (Below w.heap.size w w4) := HB3.out.trans (hb.mono HB3.out.size)
  have HF4 := Lib.hid hf
  have L4 := Lib.hid (Nat.le_trans hle L3.out)
  have LH3 := Lib.hid (Nat.le_trans (headW_le r3) L3.out)
  clear hb hf hle
  go_wp2_with (first | (go_at_call 34; refine (HNX.out r4 _ HV5.out L4.out).mono ?_; rintro ee w5 ⟨r5, rfl, hf, hle, hb⟩; refine Hid.out ?_) | fail)
  refine Lib.hid ?_
  have HV6 := Lib.hid (HV5.out.on hb)
  have HB5 : Hid (Below w.heap.size w w5) := HB4.out.trans (hb.mono HB4.out.size)
  have HF5 := Lib.hid hf
  have L5 := Lib.hid (Nat.le_trans hle L4.out)
  have LH4 := Lib.hid (Nat.le_trans (headW_le r4) L4.out)
  clear hb hf hle
  have HQ := Lib.hid ((chain (nm := nm) HF1.out HF2.out HF3.out HF4.out HF5.out).symm.trans HF0.out)
  have HD0 : Hid (∀ w1, Vars w1 → Calls Tryd.prog 35 #[S (headW r0), S (headW r1), S (headW r2)] w1 fun e w' => e = .returned (zonV (dateQ (numD (headW r0) 1 2) (placeD monB (headW r1)) (numD (headW r2) 4 4))) ∧ Below w1.heap.size w1 w') := fun w1 h1 => pDate ⟨(headW r0).toArray⟩ ⟨(headW r1).toArray⟩ ⟨(headW r2).toArray⟩ w1 h1 (by rw [← str_len]; have := LH0.out; show (headW r0).length ≤ _; omega) (by rw [← str_len]; have := LH1.out; show (headW r1).length ≤ _; omega)
  have HK0 : Hid (∀ w1, Calls Tryd.prog 36 #[S (headW r3)] w1 fun e w' => e = .returned (zonV (okD (clockD (headW r3)))) ∧ Below w1.heap.size w1 w') := fun w1 => pClock ⟨(headW r3).toArray⟩ w1 (by rw [← str_len]; have := LH3.out; show (headW r3).length ≤ _; omega)
  have HZ0 : Hid (∀ w1, Calls Tryd.prog 37 #[S (headW r4)] w1 fun e w' => e = .returned (zonV (zoneD (headW r4))) ∧ Below w1.heap.size w1 w') := fun w1 => pZone ⟨(headW r4).toArray⟩ w1 (by rw [← str_len]; have := LH4.out; show (headW r4).length ≤ _; omega)
  have d1 := date_rng (headW r0) (headW r1) (headW r2)
  have k1 := clk_rng2 (headW r3)
  have z1 := zone_rng (headW r4)
  have hq := HQ.out
  unfold tickQ at hq
  generalize dateQ (numD (headW r0) 1 2) (placeD monB (headW r1)) (numD (headW r2) 4 4) = DT at HD0 d1 hq
  generalize okD (clockD (headW r3)) = CK at HK0 k1 hq
  generalize zoneD (headW r4) = ZN at HZ0 z1 hq
  generalize headW r0 = A0 at HD0
  generalize headW r1 = A1 at HD0
  generalize headW r2 = A2 at HD0
  generalize headW r3 = A3 at HK0
  generalize headW r4 = A4 at HZ0
  obtain ⟨dt, db⟩ := DT
  obtain ⟨ck, kb⟩ := CK
  obtain ⟨zn, zb⟩ := ZN
  obtain ⟨d1, d2⟩ := d1
  obtain ⟨k1, k2⟩ := k1
  obtain ⟨z1, z2⟩ := z1
  dsimp only at d1 d2 k1 k2 z1 z2 hq
  have HD : Hid (∀ w1, Vars w1 → Calls Tryd.prog 35 #[S A0, S A1, S A2] w1 fun e w' => e = .returned (.tuple #[.int .i64 dt, .bool db]) ∧ Below w1.heap.size w1 w') := HD0.out
  have HK : Hid (∀ w1, Calls Tryd.prog 36 #[S A3] w1 fun e w' => e = .returned (.tuple #[.int .i64 ck, .bool kb]) ∧ Below w1.heap.size w1 w') := HK0.out
  have HZ : Hid (∀ w1, Calls Tryd.prog 37 #[S A4] w1 fun e w' => e = .returned (.tuple #[.int .i64 zn, .bool zb]) ∧ Below w1.heap.size w1 w') := HZ0.out
  have HT : Hid (∀ w1, Calls Tryd.prog 39 #[S r5, .string ⟨#[32]⟩] w1 fun e w' => e = .returned (S (dropB r5)) ∧ w' = w1) := fun w1 => Tryd.strings_TrimLeft_one ⟨r5.toArray⟩ 32 (by decide) w1
  have HNM : Hid (∀ w1, Vars w1 → Calls Tryd.prog 38 #[S nm, .int .i64 dt] w1 fun e w' => e = .returned (.bool (nameQ nm dt)) ∧ Below w1.heap.size w1 w') := fun w1 h1 => pNames nm dt w1 h1 LN.out d1 d2
  have HMR : Hid (wordsD r5 = [] ↔ dropB r5 = []) := drop_nil.symm
  have HQ2 := Lib.hid hq
  generalize dropB r5 = R5 at HT HMR
  generalize wordsD r5 = W5 at HQ2 HMR
  clear HD0 HK0 HZ0 HQ hq HF0 HF1 HF2 HF3 HF4 HF5 L0 L1 L2 L3 L4 LN LH0 LH1 LH2 LH3 LH4 HNX HB0 HB1 HB2 HB3 HB4 HV1 HV2 HV3 HV4 HV5
  go_wp2_with (first | (go_at_call 35; refine (HD.out _ HV6.out).mono ?_; rintro ee w6 ⟨rfl, hb⟩; refine Hid.out ?_) | fail)
  refine Lib.hid ?_
  have HV7 := Lib.hid (HV6.out.on hb)
  have HB6 : Hid (Below w.heap.size w w6) := HB5.out.trans (hb.mono HB5.out.size)
  clear hb HV6 HB5 HD
  go_wp2_with (first | (go_at_call 36; refine (HK.out _).mono ?_; rintro ee w7 ⟨rfl, hb⟩; refine Hid.out ?_) | fail)
  refine Lib.hid ?_
  have HV8 := Lib.hid (HV7.out.on hb)
  have HB7 : Hid (Below w.heap.size w w7) := HB6.out.trans (hb.mono HB6.out.size)
  clear hb HV7 HB6 HK
  go_wp2_with (first | (go_at_call 37; refine (HZ.out _).mono ?_; rintro ee w8 ⟨rfl, hb⟩; refine Hid.out ?_) | fail)
  refine Lib.hid ?_
  have HV9 := Lib.hid (HV8.out.on hb)
  have HB8 : Hid (Below w.heap.size w w8) := HB7.out.trans (hb.mono HB7.out.size)
  clear hb HV8 HB7 HZ
  have HNO : Hid (¬ (db = true ∧ kb = true ∧ zb = true ∧ nameQ nm dt = true ∧ (0 ≤ dt * 86400 + ck - zn ∧ dt * 86400 + ck - zn ≤ 253402300799) ∧ W5 = []) → outV fin = .tuple #[.int .i64 0, .int .i64 130]) := fun h => by rw [← HQ2.out, if_neg h]; rfl
  have HYE : Hid ((db = true ∧ kb = true ∧ zb = true ∧ nameQ nm dt = true ∧ (0 ≤ dt * 86400 + ck - zn ∧ dt * 86400 + ck - zn ≤ 253402300799) ∧ W5 = []) → outV fin = .tuple #[.int .i64 (dt * 86400 + ck - zn), .int .i64 0]) := fun h => by rw [← HQ2.out, if_pos h]; rfl
  clear HQ2
  have HTK : Hid (∀ w1, Calls Tryd.prog 17 #[.int .i64 (dt * 86400 + ck - zn)] w1 (AskEnd (isTick (dt * 86400 + ck - zn)) w1)) := fun w1 => pTick _ w1
  have HTI : Hid (isTick (dt * 86400 + ck - zn) = true ↔ (0 ≤ dt * 86400 + ck - zn ∧ dt * 86400 + ck - zn ≤ 253402300799)) := by show _ ↔ _; unfold isTick; simp
  have t1 : -200000000000 ≤ dt * 86400 + ck - zn := by omega
  have t2 : dt * 86400 + ck - zn ≤ 2000000000000 := by omega
  go_upto_region 11 with fail
  obtain ⟨T, hT⟩ : ∃ T, T = dt * 86400 + ck - zn := ⟨_, rfl⟩
  rw [← hT] at HNO HYE HTK HTI t1 t2 ⊢
  clear hT d1 d2 k1 k2 z1 z2
  cases db with
  | false =>
    have HE := Lib.hid (HNO.out (fun h => by simp at h))
    clear HNO HYE
    go_wp2
    go_ret2
    rw [HEND.out, HE.out]
    exact ⟨rfl, HB8.out⟩
  | true =>
  cases kb with
  | false =>
    have HE := Lib.hid (HNO.out (fun h => by simp at h))
    clear HNO HYE
    go_wp2
    go_ret2
    rw [HEND.out, HE.out]
    exact ⟨rfl, HB8.out⟩
  | true =>
  cases zb with
  | false =>
    have HE := Lib.hid (HNO.out (fun h => by simp at h))
    clear HNO HYE
    go_wp2
    go_ret2
    rw [HEND.out, HE.out]
    exact ⟨rfl, HB8.out⟩
  | true =>
  cases hn : nameQ nm dt with
  | false =>
    have HE := Lib.hid (HNO.out (fun h => by rw [hn] at h; simp at h))
    rw [hn] at HNM
    clear HNO HYE hn
    go_wp2_with (first | (go_at_call 38; refine (HNM.out _ HV9.out).mono ?_; rintro ee w9 ⟨rfl, hb⟩; refine Hid.out ?_) | fail)
    refine Lib.hid ?_
    have HB9 : Hid (Below w.heap.size w w9) := HB8.out.trans (hb.mono HB8.out.size)
    clear hb
    go_wp2
    go_ret2
    rw [HEND.out, HE.out]
    exact ⟨rfl, HB9.out⟩
  | true =>
  rw [hn] at HNM
  cases hk : isTick T with
  | false =>
    have HE := Lib.hid (HNO.out (fun h => by have := HTI.out.2 h.2.2.2.2.1; rw [hk] at this; cases this))
    rw [hk] at HTK
    clear HNO HYE hn hk
    go_wp2_with (first | (go_at_call 38; refine (HNM.out _ HV9.out).mono ?_; rintro ee w9 ⟨rfl, hb⟩; refine Hid.out ?_) | fail)
    refine Lib.hid ?_
    have HB9 : Hid (Below w.heap.size w w9) := HB8.out.trans (hb.mono HB8.out.size)
    clear hb
    go_wp2_with (first | (go_at_call 17; refine (HTK.out _).mono ?_; rintro ee w10 ⟨rfl, rfl⟩; refine Hid.out ?_) | fail)
    refine Lib.hid ?_
    go_wp2
    go_ret2
    rw [HEND.out, HE.out]
    exact ⟨rfl, HB9.out⟩
  | true =>
  rw [hk] at HTK
  cases hr : (R5 == []) with
  | false =>
    have HE := Lib.hid (HNO.out (fun h => by have := HMR.out.1 h.2.2.2.2.2; rw [this] at hr; revert hr; decide))
    clear HNO HYE hn hk
    go_wp2_with (first | (go_at_call 38; refine (HNM.out _ HV9.out).mono ?_; rintro ee w9 ⟨rfl, hb⟩; refine Hid.out ?_) | fail)
    refine Lib.hid ?_
    have HB9 : Hid (Below w.heap.size w w9) := HB8.out.trans (hb.mono HB8.out.size)
    clear hb
    go_wp2_with (first | (go_at_call 17; refine (HTK.out _).mono ?_; rintro ee w10 ⟨rfl, rfl⟩; refine Hid.out ?_) | fail)
    refine Lib.hid ?_
    go_wp2_with (first | (go_at_call 39; refine (HT.out _).mono ?_; rintro ee w11 ⟨rfl, rfl⟩; refine Hid.out ?_) | fail)
    refine Lib.hid ?_
    go_wp2
    go_ret2
    rw [HEND.out, HE.out]
    exact ⟨rfl, HB9.out⟩
  | true =>
  have HE := Lib.hid (HYE.out ⟨rfl, rfl, rfl, hn, HTI.out.1 hk, HMR.out.2 (eq_of_beq hr)⟩)
  clear HNO HYE hn hk
  go_wp2_with (first | (go_at_call 38; refine (HNM.out _ HV9.out).mono ?_; rintro ee w9 ⟨rfl, hb⟩; refine Hid.out ?_) | fail)
  refine Lib.hid ?_
  have HB9 : Hid (Below w.heap.size w w9) := HB8.out.trans (hb.mono HB8.out.size)
  clear hb
  go_wp2_with (first | (go_at_call 17; refine (HTK.out _).mono ?_; rintro ee w10 ⟨rfl, rfl⟩; refine Hid.out ?_) | fail)
  refine Lib.hid ?_
  go_wp2_with (first | (go_at_call 39; refine (HT.out _).mono ?_; rintro ee w11 ⟨rfl, rfl⟩; refine Hid.out ?_) | fail)
  refine Lib.hid ?_
  go_wp2
  go_ret2
  rw [HEND.out, HE.out]
  exact ⟨rfl, HB9.out⟩
end Go.Proofs.YtklhgaioolamfaaDoor.Date
