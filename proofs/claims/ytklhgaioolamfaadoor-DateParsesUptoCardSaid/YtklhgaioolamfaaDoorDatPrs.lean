/-
  DATE, the given answers: Parse.
-/
import Derived.Test.YtklhgaioolamfaaDoorDatPrp
namespace Go.Proofs.YtklhgaioolamfaaDoor.Date
open Go.RowKit Base
set_option maxHeartbeats 8000000 in
set_option maxRecDepth 100000 in
theorem rParse (s : ByteArray) (w : World) (hs : s.size ≤ 1000000000000) : Calls Tryd.prog 15 #[.string s] w (ParseEnd s.data.toList w) := by
  have HW := Lib.hid (rWords s w hs)
  unfold WordsEnd at HW
  obtain ⟨ws, hws⟩ : ∃ ws, ws = wordsD s.data.toList := ⟨_, rfl⟩
  obtain ⟨fin, hfin⟩ : ∃ fin, fin = parseD s.data.toList := ⟨_, rfl⟩
  have HE : Hid (∀ e w', ParseEnd s.data.toList w e w' = (e = .returned (outV fin) ∧ Below w.heap.size w w')) := fun e w' => by unfold ParseEnd; rw [← hfin]
  have HSZ : Hid (∀ x ∈ ws, x.length ≤ 1000000000002) := fun x hx => by
    have h1 := words_sum s.data.toList []
    rw [str_len] at h1
    have h3 : ∀ (u : List (List UInt8)), x ∈ u → x.length ≤ sumW u := fun u => by
      induction u with
      | nil => intro h; cases h
      | cons a t ih =>
        intro h
        simp only [sumW, List.map_cons, List.sum_cons] at ih ⊢
        rcases List.mem_cons.1 h with rfl | h
        · omega
        · have := ih h; omega
    rw [hws] at hx
    have := h3 _ hx
    unfold wordsD at this
    simp only [List.length_nil] at h1
    omega
  have HF : Hid (fin = match nameD ws with | none => none | some (name, r) => fiveD name r) := by rw [hws]; exact hfin
  rw [← hws] at HW
  clear hfin hws
  go_enter Tryd.func15, Tryd.ntmps15
  go_upto_region 3 with (first | (go_at_call 27; refine HW.out.mono ?_; rintro ee w1 ⟨v, rfl, own1, hb1⟩; refine Hid.out ?_) | fail)
  refine Lib.hid ?_
  obtain ⟨va, vc, hvf, hvc⟩ := own1.form
  subst hvf
  have HR1 : Hid (VReads w1 (.slice va ws.length vc) (ws.map S)) := VReads.of_row own1
  have HB1 := Lib.hid hb1
  obtain ⟨L, hL⟩ : ∃ L, L = ws.length := ⟨_, rfl⟩
  have HLT := Lib.hid hL
  rw [← hL] at HR1 hvc
  rw [← hL]
  clear own1 hb1 HW hL
  go_upto_region 3 with fail
  obtain ⟨bk, hbk⟩ : ∃ bk, bk = namedB ws := ⟨_, rfl⟩
  go_cut [32] (fun x wx => x = .bool bk ∧ wx = w1)
  case first =>
    cases ws with
    | nil =>
      have hbk2 : bk = false := hbk
      have hl0 : ¬ (0 : Int) < (L : Int) := by rw [HLT.out, List.length_nil]; omega
      clear hbk HF
      go_wp2
      go_meet
      rw [hbk2]
      exact ⟨rfl, rfl⟩
    | cons x t =>
      obtain ⟨p, hp⟩ : ∃ p : ByteArray, x = p.data.toList := ⟨⟨x.toArray⟩, by simp⟩
      subst hp
      obtain ⟨b, o, hva, hc0⟩ := HR1.out.cell (i := 0) (x := .string p) rfl
      subst hva
      rw [Nat.add_zero] at hc0
      have hl0 : (0 : Int) < (L : Int) := by rw [HLT.out, List.length_cons]; omega
      clear HR1 HF hvc HSZ
      have hpl : p.data.toList.length = p.size := str_len p
      have HBK : Hid (bk = decide (p.size = 4 ∧ (p.data.toList.getD 3 0).toNat = 44)) := by show _ = _; rw [hbk, ← hpl]; rfl
      have HLS : Hid (∀ k (h : k < p.size), p.data.toList.getD k 0 = p[k]) := fun k h => str_get p k h
      clear hpl hbk
      by_cases h4 : p.size = 4
      · have e4 : ((p.size : Int) == 4) = true := by rw [h4]; rfl
        have p3 : 3 < p.size := by omega
        have k3 : (3 : Int) < (p.size : Int) := by omega
        have hbk := HBK.out
        rw [HLS.out 3 p3] at hbk
        by_cases h44 : (p[3]'p3).toNat = 44
        · have e44 : (((p[3]'p3).toNat : Int) == 44) = true := by rw [h44]; rfl
          rw [decide_eq_true ⟨h4, h44⟩] at hbk
          clear HBK h4 h44
          go_wp2
          go_meet
          rw [hbk]
          exact ⟨rfl, rfl⟩
        · have e44 : (((p[3]'p3).toNat : Int) == 44) = false := by rw [beq_eq_false_iff_ne]; omega
          rw [decide_eq_false (fun x => h44 x.2)] at hbk
          clear HBK h4 h44
          go_wp2
          go_meet
          rw [hbk]
          exact ⟨rfl, rfl⟩
      · have e4 : ((p.size : Int) == 4) = false := by rw [beq_eq_false_iff_ne]; omega
        have hbk := HBK.out
        rw [decide_eq_false (fun x => h4 x.1)] at hbk
        clear HBK h4
        go_wp2
        go_meet
        rw [hbk]
        exact ⟨rfl, rfl⟩
  case rest =>
  obtain ⟨rfl, rfl⟩ := hcut
  go_upto_if 32 with fail
  go_cut [4, 5] (fun vv nv wx => ∃ (a : Option Addr) (c : Nat) (nm : Int) (r : List (List UInt8)), vv = .slice a r.length c ∧ nv = .int .i64 nm ∧ -1 ≤ nm ∧ nm ≤ 6 ∧ Hid (VReads wx (.slice a r.length c) (r.map S)) ∧ Hid (fin = fiveD nm r) ∧ Hid (∀ x ∈ r, x.length ≤ 1000000000002) ∧ Hid (Below w.heap.size w wx))
  case first =>
    have hff := HF.out
    cases bk with
    | false =>
      rw [named_no hbk.symm] at hff
      have HFF : Hid (fin = fiveD (-1) ws) := hff
      clear HF hff hbk
      go_wp2
      go_meet
      rw [HLT.out] at HR1 ⊢
      exact ⟨_, vc, -1, ws, rfl, rfl, by omega, by omega, HR1, HFF, HSZ, HB1⟩
    | true =>
      obtain ⟨x, t, hws, hx4, hnm⟩ := named_yes hbk.symm
      subst hws
      obtain ⟨p, hp⟩ : ∃ p : ByteArray, x = p.data.toList := ⟨⟨x.toArray⟩, by simp⟩
      subst hp
      rw [hnm] at hff
      obtain ⟨b, o, hva, hc0⟩ := HR1.out.cell (i := 0) (x := .string p) rfl
      subst hva
      rw [Nat.add_zero] at hc0
      have hpl : p.data.toList.length = p.size := str_len p
      have k3 : (3 : Int) ≤ (p.size : Int) := by omega
      have hl1 := HLT.out
      rw [List.length_cons] at hl1
      have HL1 := Lib.hid hl1
      have hl0 : (0 : Int) < (L : Int) := by omega
      obtain ⟨pd, hpd⟩ : ∃ pd, pd = placeD dayB (p.data.toList.take 3) := ⟨_, rfl⟩
      have HP : Hid (∀ w1, Calls Tryd.prog 28 #[.string dayS, .string (p.extract 0 3)] w1 fun e w' => e = .returned (.int .i64 pd) ∧ Below w1.heap.size w1 w') := fun w1 => by
        have := rDay3 (p.extract 0 3) w1
        have eb : (p.extract 0 3).data.toList = p.data.toList.take 3 := by rw [extract_bytes]; rfl
        rwa [eb, ← hpd] at this
      obtain ⟨hp1, hp2⟩ := place_le dayB (p.data.toList.take 3) 7 rfl (by decide)
      rw [← hpd] at hp1 hp2 hff
      have hp3 : pd ≤ 6 := by omega
      clear hpd hp2 hpl hnm hbk HF hx4 HLT
      by_cases hpn : pd < 0
      · rw [if_pos hpn] at hff
        have HFF : Hid (fin = none) := hff
        clear hff hl1 hvc
        go_wp2_with (first | (go_at_call 28; refine (HP.out _).mono ?_; rintro ee w2 ⟨rfl, hb2⟩; refine Hid.out ?_) | fail)
        refine Lib.hid ?_
        have HB2 : Hid (Below w.heap.size w w2) := HB1.out.trans (hb2.mono HB1.out.size)
        clear hb2
        go_wp2
        go_ret2
        rw [HE.out, HFF.out]
        exact ⟨rfl, HB2.out⟩
      · rw [if_neg hpn] at hff
        have HFF : Hid (fin = fiveD pd t) := hff
        have k1 : (1 : Int) ≤ (L : Int) := by omega
        have k2 : (L : Int) ≤ (vc : Int) := by omega
        clear hff hl1 hvc
        go_wp2_with (first | (go_at_call 28; refine (HP.out _).mono ?_; rintro ee w2 ⟨rfl, hb2⟩; refine Hid.out ?_) | fail)
        refine Lib.hid ?_
        have HB2 : Hid (Below w.heap.size w w2) := HB1.out.trans (hb2.mono HB1.out.size)
        have HR2 : Hid (VReads w2 (.slice (some ⟨b, o, none⟩) L vc) ((p.data.toList :: t).map S)) := HR1.out.kept (fun g _ hg => hb2.block g hg)
        clear hb2
        have HDR := Lib.hid (HR2.out.drop (k := 1) (by simp))
        go_wp2
        · go_meet
          have hdr := HDR.out
          have hv1 : vc = 1 := by omega
          subst hv1
          rw [if_pos rfl] at hdr
          rw [show L - 1 = t.length by rw [HL1.out, Nat.add_sub_cancel]] at hdr ⊢
          exact ⟨_, _, pd, t, rfl, rfl, hp1, hp3, hdr, HFF, fun x hx => HSZ.out x (List.mem_cons_of_mem _ hx), HB2⟩
        · go_meet
          have hdr := HDR.out
          rw [if_neg (by assumption)] at hdr
          rw [show L - 1 = t.length by rw [HL1.out, Nat.add_sub_cancel]] at hdr ⊢
          exact ⟨_, _, pd, t, rfl, rfl, hp1, hp3, hdr, HFF, fun x hx => HSZ.out x (List.mem_cons_of_mem _ hx), HB2⟩
  case rest =>
  obtain ⟨va2, vc2, nm, r, rfl, rfl, hn1, hn2, HR, HF2, HSZ2, HB⟩ := hcut
  clear HF HSZ HR1 HB1 HLT hbk
  by_cases h5 : r.length = 5
  · obtain ⟨x1, x2, x3, x4, x5, hr⟩ := five_form h5
    subst hr
    obtain ⟨p1, hp1⟩ : ∃ p : ByteArray, x1 = p.data.toList := ⟨⟨x1.toArray⟩, by simp⟩
    obtain ⟨p2, hp2⟩ : ∃ p : ByteArray, x2 = p.data.toList := ⟨⟨x2.toArray⟩, by simp⟩
    obtain ⟨p3, hp3⟩ : ∃ p : ByteArray, x3 = p.data.toList := ⟨⟨x3.toArray⟩, by simp⟩
    obtain ⟨p4, hp4⟩ : ∃ p : ByteArray, x4 = p.data.toList := ⟨⟨x4.toArray⟩, by simp⟩
    obtain ⟨p5, hp5⟩ : ∃ p : ByteArray, x5 = p.data.toList := ⟨⟨x5.toArray⟩, by simp⟩
    subst hp1 hp2 hp3 hp4 hp5
    have hz5 := HSZ2.out p5.data.toList (by simp)
    rw [str_len] at hz5
    obtain ⟨b, o, hva, c0⟩ := HR.out.cell (i := 0) (x := .string p1) rfl
    subst hva
    rw [Nat.add_zero] at c0
    obtain ⟨_, _, ha1, c1⟩ := HR.out.cell (i := 1) (x := .string p2) rfl
    cases ha1
    obtain ⟨_, _, ha2, c2⟩ := HR.out.cell (i := 2) (x := .string p3) rfl
    cases ha2
    obtain ⟨_, _, ha3, c3⟩ := HR.out.cell (i := 3) (x := .string p4) rfl
    cases ha3
    obtain ⟨_, _, ha4, c4⟩ := HR.out.cell (i := 4) (x := .string p5) rfl
    cases ha4
    have hlen5 : [p1.data.toList, p2.data.toList, p3.data.toList, p4.data.toList, p5.data.toList].length = 5 := rfl
    rw [hlen5]
    have HBK : Hid (∀ w2, Below wc.heap.size wc w2 → w2.cell? ⟨b, o + 2, none⟩ = some (.string p3) ∧ w2.cell? ⟨b, o + 3, none⟩ = some (.string p4) ∧ w2.cell? ⟨b, o + 4, none⟩ = some (.string p5)) := fun w2 hb => by
      have hbl := hb.block b (cell_lt c0)
      exact ⟨by rw [World.cell?_of_block hbl]; exact c2, by rw [World.cell?_of_block hbl]; exact c3, by rw [World.cell?_of_block hbl]; exact c4⟩
    obtain ⟨D, hD⟩ : ∃ D, D = numD p1.data.toList 1 2 := ⟨_, rfl⟩
    obtain ⟨pm, hpm⟩ : ∃ pm, pm = placeD monB p2.data.toList := ⟨_, rfl⟩
    obtain ⟨Y, hY⟩ : ∃ Y, Y = numD p3.data.toList 4 4 := ⟨_, rfl⟩
    obtain ⟨T, hT⟩ : ∃ T, T = clockD p4.data.toList := ⟨_, rfl⟩
    obtain ⟨z, hz⟩ : ∃ z, z = zoneD p5.data.toList := ⟨_, rfl⟩
    have HF3 : Hid (fin = tickD nm D (pm + 1) Y T z) := by show _ = _; rw [HF2.out, hD, hpm, hY, hT, hz]; rfl
    have HC1 : Hid (∀ w1, Calls Tryd.prog 29 #[.string p1, .int .i64 1, .int .i64 2] w1 fun e w' => e = .returned (.int .i64 D) ∧ w1 = w') := fun w1 => by
      have := rNumber p1 1 2 w1 (by omega) (by omega)
      rw [← hD] at this; exact this
    have HC2 : Hid (∀ w1, Calls Tryd.prog 28 #[.string monS, .string p2] w1 fun e w' => e = .returned (.int .i64 pm) ∧ Below w1.heap.size w1 w') := fun w1 => by
      have := rMon3 p2 w1
      rw [← hpm] at this; exact this
    have HC3 : Hid (∀ w1, Calls Tryd.prog 29 #[.string p3, .int .i64 4, .int .i64 4] w1 fun e w' => e = .returned (.int .i64 Y) ∧ w1 = w') := fun w1 => by
      have := rNumber p3 4 4 w1 (by omega) (by omega)
      rw [← hY] at this; exact this
    have HC4 : Hid (∀ w1, Calls Tryd.prog 30 #[.string p4] w1 fun e w' => e = .returned (.int .i64 T) ∧ w1 = w') := fun w1 => by
      have := rClock p4 w1
      rw [← hT] at this; exact this
    have HC5 : Hid (∀ w1, Calls Tryd.prog 31 #[.string p5] w1 fun e w' => e = .returned (zonV z) ∧ Below w1.heap.size w1 w') := fun w1 => by
      have := rZone p5 w1 (by omega)
      rw [← hz] at this; exact this
    have hD2 : D ≤ 99 := by rw [hD]; exact numD_le _ _ _ (by decide)
    obtain ⟨hpm1, hpm2⟩ := place_le monB p2.data.toList 12 rfl (by decide)
    rw [← hpm] at hpm1 hpm2
    have hpm3 : pm ≤ 11 := by omega
    have hY2 : Y ≤ 9999 := by rw [hY]; exact numD_le4 _
    obtain ⟨hT1, hT2⟩ := clock_le p4.data.toList
    rw [← hT] at hT1 hT2
    obtain ⟨hz1, hz2⟩ := zone_le p5.data.toList
    rw [← hz] at hz1 hz2
    obtain ⟨zv, zb⟩ := z
    dsimp only at hz1 hz2
    clear hD hpm hY hT hz HF2 HSZ2 HR h5 hlen5 hpm2 hz5 c2 c3 c4
    go_wp2_with (first | (go_at_call 29; refine (HC1.out _).mono ?_; rintro ee w1 ⟨rfl, rfl⟩; refine Hid.out ?_) | fail)
    refine Lib.hid ?_
    go_wp2_with (first | (go_at_call 28; refine (HC2.out _).mono ?_; rintro ee w2 ⟨rfl, hb2⟩; refine Hid.out ?_) | fail)
    refine Lib.hid ?_
    have HB2 : Hid (Below w.heap.size w w2) := HB.out.trans (hb2.mono HB.out.size)
    obtain ⟨c2, c3, c4⟩ := HBK.out w2 hb2
    clear hb2 c0 c1 HBK
    go_wp2_with (first | (go_at_call 29; refine (HC3.out _).mono ?_; rintro ee w1 ⟨rfl, rfl⟩; refine Hid.out ?_) | fail)
    refine Lib.hid ?_
    go_wp2_with (first | (go_at_call 30; refine (HC4.out _).mono ?_; rintro ee w1 ⟨rfl, rfl⟩; refine Hid.out ?_) | fail)
    refine Lib.hid ?_
    unfold zonV at HC5
    go_wp2_with (first | (go_at_call 31; refine (HC5.out _).mono ?_; rintro ee w3 ⟨rfl, hb3⟩; refine Hid.out ?_) | fail)
    refine Lib.hid ?_
    have HB3 : Hid (Below w.heap.size w w3) := HB2.out.trans (hb3.mono HB2.out.size)
    clear hb3 c2 c3 c4 HC1 HC2 HC3 HC4 HC5 HB HB2
    go_upto_region 15 with fail
    by_cases a1 : D < 1
    · have HFF : Hid (fin = none) := by show _ = _; rw [HF3.out]; exact tick_no (Or.inl a1)
      clear HF3
      go_wp2
      go_ret2
      rw [HE.out, HFF.out]
      exact ⟨rfl, HB3.out⟩
    by_cases a2 : pm + 1 < 1
    · have HFF : Hid (fin = none) := by show _ = _; rw [HF3.out]; exact tick_no (Or.inr (Or.inl a2))
      clear HF3
      go_wp2
      go_ret2
      rw [HE.out, HFF.out]
      exact ⟨rfl, HB3.out⟩
    by_cases a3 : Y < 0
    · have HFF : Hid (fin = none) := by show _ = _; rw [HF3.out]; exact tick_no (Or.inr (Or.inr (Or.inl a3)))
      clear HF3
      go_wp2
      go_ret2
      rw [HE.out, HFF.out]
      exact ⟨rfl, HB3.out⟩
    by_cases a4 : T < 0
    · have HFF : Hid (fin = none) := by show _ = _; rw [HF3.out]; exact tick_no (Or.inr (Or.inr (Or.inr (Or.inl a4))))
      clear HF3
      go_wp2
      go_ret2
      rw [HE.out, HFF.out]
      exact ⟨rfl, HB3.out⟩
    cases zb with
    | false =>
      have HFF : Hid (fin = none) := by show _ = _; rw [HF3.out]; exact tick_no (Or.inr (Or.inr (Or.inr (Or.inr rfl))))
      clear HF3
      go_wp2
      go_ret2
      rw [HE.out, HFF.out]
      exact ⟨rfl, HB3.out⟩
    | true =>
      obtain ⟨d, rfl⟩ : ∃ d : Nat, D = (d : Int) := ⟨D.toNat, by omega⟩
      obtain ⟨k, rfl⟩ : ∃ k : Nat, pm = (k : Int) := ⟨pm.toNat, by omega⟩
      obtain ⟨y, rfl⟩ : ∃ y : Nat, Y = (y : Int) := ⟨Y.toNat, by omega⟩
      have HF4 := Lib.hid (HF3.out.trans (tick_at nm d k y T zv (by omega) (by omega)))
      obtain ⟨q, hq⟩ : ∃ q, q = md y (k + 1) := ⟨_, rfl⟩
      have HM : Hid (∀ w1, Calls Tryd.prog 21 #[.int .i64 (y : Int), .int .i64 ((k : Int) + 1)] w1 fun e w' => e = .returned (.int .i64 (q : Int)) ∧ Below w1.heap.size w1 w') := fun w1 => by
        rw [hq]; exact rMd y (k + 1) w1 (by omega) (by omega) (by omega)
      obtain ⟨u, hu⟩ : ∃ u, u = aheadZ y (k + 1) d := ⟨_, rfl⟩
      have HA : Hid (∀ w1, d ≤ q → Calls Tryd.prog 32 #[.int .i64 (y : Int), .int .i64 ((k : Int) + 1), .int .i64 (d : Int)] w1 fun e w' => e = .returned (.int .i64 u) ∧ Below w1.heap.size w1 w') := fun w1 _ => by
        rw [hu]; exact rAhead y (k + 1) d w1 (by omega) (by omega) (by omega) (by omega) (by omega)
      obtain ⟨hu1, hu2⟩ := ahead_le y (k + 1) d (by omega) (by omega) (by omega)
      rw [← hu] at hu1 hu2 HF4
      rw [← hq] at HF4
      clear hu hq HF3
      by_cases hdq : (q : Int) < (d : Int)
      · have HFF : Hid (fin = none) := by show _ = _; rw [HF4.out, if_pos hdq]
        clear HF4
        go_wp2_with (first | (go_at_call 21; refine (HM.out _).mono ?_; rintro ee w4 ⟨rfl, hb4⟩; refine Hid.out ?_) | fail)
        refine Lib.hid ?_
        have HB4 : Hid (Below w.heap.size w w4) := HB3.out.trans (hb4.mono HB3.out.size)
        clear hb4
        go_wp2
        go_ret2
        rw [HE.out, HFF.out]
        exact ⟨rfl, HB4.out⟩
      · have HF5 := Lib.hid (HF4.out.trans (if_neg hdq))
        have HAC : Hid (∀ w1, Calls Tryd.prog 32 #[.int .i64 (y : Int), .int .i64 ((k : Int) + 1), .int .i64 (d : Int)] w1 fun e w' => e = .returned (.int .i64 u) ∧ Below w1.heap.size w1 w') := fun w1 => HA.out w1 (by omega)
        clear HF4 HA
        go_wp2_with (first | (go_at_call 21; refine (HM.out _).mono ?_; rintro ee w4 ⟨rfl, hb4⟩; refine Hid.out ?_) | fail)
        refine Lib.hid ?_
        have HB4 : Hid (Below w.heap.size w w4) := HB3.out.trans (hb4.mono HB3.out.size)
        clear hb4 HB3
        go_wp2_with (first | (go_at_call 32; refine (HAC.out _).mono ?_; rintro ee w5 ⟨rfl, hb5⟩; refine Hid.out ?_) | fail)
        refine Lib.hid ?_
        have HB5 : Hid (Below w.heap.size w w5) := HB4.out.trans (hb5.mono HB4.out.size)
        clear hb5 HB4 HM HAC
        go_upto_region 20 with fail
        obtain ⟨u1, hu3⟩ : ∃ u1, u1 = Int.tmod (u + 4) 7 := ⟨_, rfl⟩
        obtain ⟨u2, hu4⟩ : ∃ u2, u2 = Int.tmod (u1 + 7) 7 := ⟨_, rfl⟩
        have hu5 : -6 ≤ u1 ∧ u1 ≤ 6 := by
          have h1 := Int.lt_tmod_of_pos (u + 4) (show (0 : Int) < 7 by decide)
          have h2 := Int.tmod_lt_of_pos (u + 4) (show (0 : Int) < 7 by decide)
          rw [← hu3] at h1 h2; omega
        have hu6 : 0 ≤ u2 ∧ u2 ≤ 6 := by
          have h1 := Int.tmod_nonneg 7 (show 0 ≤ u1 + 7 by omega)
          have h2 := Int.tmod_lt_of_pos (u1 + 7) (show (0 : Int) < 7 by decide)
          rw [← hu4] at h1 h2; omega
        have HF6 : Hid (fin = if 0 ≤ nm ∧ u2 ≠ nm then none else if 86400 * u + T - zv < 0 ∨ 253402300799 < 86400 * u + T - zv then none else some (86400 * u + T - zv)) := by
          show _ = _
          rw [HF5.out, ← hu3, ← hu4]
        clear HF5
        have e1 := hu3.symm
        have e2 := hu4.symm
        clear hu3 hu4
        by_cases hnm : 0 ≤ nm
        · by_cases hne : u2 = nm
          · have HF7 := Lib.hid (HF6.out.trans (if_neg (fun x => x.2 hne)))
            have e3 : (u2 != nm) = false := by rw [hne]; exact bne_self_eq_false nm
            clear HF6 hne
            by_cases b1 : 86400 * u + T - zv < 0
            · have HFF := Lib.hid (HF7.out.trans (if_pos (Or.inl b1)))
              clear HF7
              go_wp2
              go_ret2
              rw [HE.out, HFF.out]
              exact ⟨rfl, HB5.out⟩
            · by_cases b2 : 253402300799 < 86400 * u + T - zv
              · have HFF := Lib.hid (HF7.out.trans (if_pos (Or.inr b2)))
                clear HF7
                go_wp2
                go_ret2
                rw [HE.out, HFF.out]
                exact ⟨rfl, HB5.out⟩
              · have HFF := Lib.hid (HF7.out.trans (if_neg (fun x => x.elim b1 b2)))
                clear HF7
                go_wp2
                go_ret2
                rw [HE.out, HFF.out]
                exact ⟨rfl, HB5.out⟩
          · have HFF := Lib.hid (HF6.out.trans (if_pos ⟨hnm, hne⟩))
            have e3 : (u2 != nm) = true := by rw [bne_iff_ne]; exact hne
            clear HF6 hne
            go_wp2
            go_ret2
            rw [HE.out, HFF.out]
            exact ⟨rfl, HB5.out⟩
        · have HF7 := Lib.hid (HF6.out.trans (if_neg (fun x => hnm x.1)))
          clear HF6
          by_cases b1 : 86400 * u + T - zv < 0
          · have HFF := Lib.hid (HF7.out.trans (if_pos (Or.inl b1)))
            clear HF7
            go_wp2
            go_ret2
            rw [HE.out, HFF.out]
            exact ⟨rfl, HB5.out⟩
          · by_cases b2 : 253402300799 < 86400 * u + T - zv
            · have HFF := Lib.hid (HF7.out.trans (if_pos (Or.inr b2)))
              clear HF7
              go_wp2
              go_ret2
              rw [HE.out, HFF.out]
              exact ⟨rfl, HB5.out⟩
            · have HFF := Lib.hid (HF7.out.trans (if_neg (fun x => x.elim b1 b2)))
              clear HF7
              go_wp2
              go_ret2
              rw [HE.out, HFF.out]
              exact ⟨rfl, HB5.out⟩
  · have HFF : Hid (fin = none) := by
      show _ = _
      rw [HF2.out]
      exact five_no nm h5
    have e5 : ((r.length : Int) != 5) = true := by rw [bne_iff_ne]; omega
    clear h5 HF2
    obtain ⟨L5, hL5⟩ : ∃ L5, L5 = r.length := ⟨_, rfl⟩
    rw [← hL5] at e5 ⊢
    clear hL5 HR HSZ2
    go_wp2
    go_ret2
    rw [HE.out, HFF.out]
    exact ⟨rfl, HB.out⟩
end Go.Proofs.YtklhgaioolamfaaDoor.Date
