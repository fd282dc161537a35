/-
  HEADER, HeaderAdds: the walk.
-/
import Derived.Test.YtnogpoojhhmadaaDoorHpSpl
import Derived.Test.YtnogpoojhhmadaaDoorHpWrt
import Derived.Test.YtnogpoojhhmadaaDoorHpWords
import Derived.Test.YtnogpoojhhmadaaDoorHpCov
namespace Go.Proofs.YtnogpoojhhmadaaDoor.Header
open Go.RowKit Base
theorem res_zero {l : List UInt8} (h : (resOf l).2.2 = 0) : resOf l = ((splitOf l).1, (splitOf l).2, 0) ∧ codeF (splitOf l).1 = 0 := by
  unfold resOf at h ⊢
  split
  · rename_i h0; exact ⟨rfl, h0⟩
  · rename_i h0; rw [if_neg h0] at h; exact absurd h h0
theorem res_code (l : List UInt8) : (resOf l).2.2 = 0 ∨ (resOf l).2.2 = 111 ∨ (resOf l).2.2 = 112 := by
  unfold resOf
  split
  · exact Or.inl rfl
  · show codeF _ = 0 ∨ codeF _ = 111 ∨ codeF _ = 112
    unfold codeF
    split
    · exact Or.inr (Or.inl rfl)
    · split
      · exact Or.inr (Or.inr rfl)
      · exact Or.inl rfl
theorem conv_none (A : Option Addr) (c : Nat) (w : World) : (convert 22 9 (.slice A 0 c)).run Tryd.prog w = .ok (.string ⟨#[]⟩) w := by
  cases A with
  | none => rw [run_convert_bytes_string w 22 9 5 none 0 c Tryd.underlying22 Tryd.underlying5 Tryd.underlying9]; rfl
  | some a => exact conv_reads (Or.inl ⟨rfl, some a, c, rfl, fun h => by cases h⟩)
theorem write_ok {nm bd l : List UInt8} (h : writeOf nm bd = .inr l) : nameB nm = true ∧ bd.any badB = false ∧ l = fieldB nm bd := by
  unfold writeOf at h
  split at h
  · rename_i h1
    split at h
    · cases h
    · rename_i h2
      split at h
      · cases h
      · cases h
        exact ⟨h1, by simpa using h2, rfl⟩
  · cases h
set_option maxHeartbeats 16000000 in
set_option maxRecDepth 100000 in
theorem pAdds (v : Value) (l : List UInt8) (nm bd : ByteArray) (w : World) (hr : Reads w v l) (hl : l.length ≤ 1048576) (hn : nm.size ≤ 1048576) (hs : bd.size ≤ 1048576) (he : Env w) : Calls Tryd.prog 6 #[v, .string nm, .string bd] w fun e w' => e = .returned (.bool true) ∧ Below w.heap.size w w' := by
  obtain ⟨A, c, rfl⟩ := hr.form
  obtain ⟨T, b, code, hres⟩ : ∃ T b code, resOf l = (T, b, code) := ⟨_, _, _, rfl⟩
  obtain ⟨R, hR⟩ : ∃ R, R = writeOf nm.data.toList bd.data.toList := ⟨_, rfl⟩
  have HSH := Lib.hid (pShown w he)
  have HR := Lib.hid hr
  have HV : Hid (∀ w1, Below w.heap.size w w1 → Env w1) := fun w1 h => he.on h
  have HPS : Hid (∀ w1, Below w.heap.size w w1 → Calls Tryd.prog 9 #[.slice A l.length c] w1 fun e w' => ∃ a cc, e = .returned (.tuple #[.slice a T.length cc, .int .i64 (b : Int), .int .i64 (code : Int)]) ∧ FReads w' (.slice a T.length cc) T ∧ Below w1.heap.size w1 w') := fun w1 h => (pSplit _ l w1 (HR.out.on h) (by omega) (HV.out _ h)).mono fun e w' h => by
    have := split_res h
    rw [hres] at this
    exact this
  have HPA : Hid (∀ w1, Below w.heap.size w w1 → Calls Tryd.prog 18 #[.slice A l.length c, .string nm, .string bd] w1 fun e w' => ∃ a c, e = .returned (.tuple #[.slice a (addR l R).length c, .int .i64 (codeR R : Int)]) ∧ Reads w' (.slice a (addR l R).length c) (addR l R) ∧ Below w1.heap.size w1 w') := fun w1 h => by
    rw [hR]
    exact (pAdd _ l nm bd w1 (HR.out.on h) (by omega) (by omega) (by omega) (HV.out _ h)).mono fun e w' h => by
      obtain ⟨a, c, h1, h2, _, h3⟩ := add_res h
      exact ⟨a, c, h1, h2, h3⟩
  have HRES := Lib.hid hres
  have HRW := Lib.hid hR
  clear hr he hres hR
  by_cases hgo : code = 0 ∧ ∃ F, R = .inr F
  · obtain ⟨rfl, F, hF⟩ := hgo
    have hz := res_zero (l := l) (by rw [HRES.out])
    rw [HRES.out] at hz
    obtain ⟨hz1, hz2⟩ := hz
    cases hz1
    obtain ⟨hnb, hbb, hFe⟩ := write_ok (HRW.out.symm.trans hF)
    have hFl : F.length ≤ 10000000 := by
      have := field_len nm.data.toList bd.data.toList
      rw [← hFe, str_len, str_len] at this
      omega
    have HPA2 : Hid (∀ w1, Below w.heap.size w w1 → Calls Tryd.prog 18 #[.slice A l.length c, .string nm, .string bd] w1 fun e w' => ∃ a c, e = .returned (.tuple #[.slice a (F.length + l.length) c, .int .i64 0]) ∧ Reads w' (.slice a (F ++ l).length c) (F ++ l) ∧ Below w1.heap.size w1 w') := fun w1 h => by
      have := HPA.out w1 h
      rw [hF] at this
      refine this.mono ?_
      rintro e w' ⟨a, c, h1, h2, h3⟩
      refine ⟨a, c, ?_, h2, h3⟩
      rw [h1]
      show Ending.returned (.tuple #[.slice a (F ++ l).length c, .int .i64 0]) = _
      rw [List.length_append]
    obtain ⟨T2, b2, code2, hres2⟩ : ∃ T2 b2 code2, resOf (F ++ l) = (T2, b2, code2) := ⟨_, _, _, rfl⟩
    have HPS2 : Hid (∀ w1 a cc, Below w.heap.size w w1 → Reads w1 (.slice a (F ++ l).length cc) (F ++ l) → Calls Tryd.prog 9 #[.slice a (F.length + l.length) cc] w1 fun e w' => ∃ a cc, e = .returned (.tuple #[.slice a T2.length cc, .int .i64 (b2 : Int), .int .i64 (code2 : Int)]) ∧ FReads w' (.slice a T2.length cc) T2 ∧ Below w1.heap.size w1 w') := fun w1 a cc h hr1 => by
      have h0 := pSplit (.slice a (F ++ l).length cc) (F ++ l) w1 hr1 (by rw [List.length_append]; omega) (HV.out _ h)
      rw [List.length_append] at h0
      exact h0.mono fun e w' h => by
        have := split_res h
        rw [hres2] at this
        exact this
    obtain ⟨T, hT⟩ : ∃ T, T = (splitOf l).1 := ⟨_, rfl⟩
    obtain ⟨b, hb⟩ : ∃ b, b = (splitOf l).2 := ⟨_, rfl⟩
    have HTT := Lib.hid hT
    have HBB := Lib.hid hb
    rw [← hT, ← hb] at HPS
    have HNB := Lib.hid hnb
    have HBA := Lib.hid hbb
    have HFE := Lib.hid hFe
    have HR2 := Lib.hid hres2
    have HZ2 : Hid (codeF T = 0) := by rw [hT]; exact hz2
    have hcode2 := res_code (F ++ l)
    rw [hres2] at hcode2
    have hcode2 : code2 = 0 ∨ code2 = 111 ∨ code2 = 112 := hcode2
    clear hz2 hnb hbb hFe hres2 hF HPA HRES HRW hT hb
    go_enter Tryd.func6, Tryd.ntmps6
    go_wp2_with (first | (go_at_call 7; refine HSH.out.mono ?_; rintro e w1 ⟨rfl, hb1⟩; refine Hid.out ?_) | fail)
    refine Lib.hid ?_
    have HB1 := Lib.hid hb1
    clear hb1 HSH
    go_wp2_with (first | (go_at_call 9; refine (HPS.out _ HB1.out).mono ?_; rintro e w2 ⟨a2, c2, rfl, hf2, hb2⟩; refine Hid.out ?_) | fail)
    refine Lib.hid ?_
    have HB2 : Hid (Below w.heap.size w w2) := HB1.out.trans (hb2.mono HB1.out.size)
    have HF2 := Lib.hid hf2
    clear hf2 hb2 HPS HB1
    go_wp2_with (first | (go_at_call 18; refine (HPA2.out _ HB2.out).mono ?_; rintro e w3 ⟨a3, c3, rfl, hr3, hb3⟩; refine Hid.out ?_) | fail)
    refine Lib.hid ?_
    have HB3 : Hid (Below w.heap.size w w3) := HB2.out.trans (hb3.mono HB2.out.size)
    have HF3 := Lib.hid (HF2.out.on hb3)
    have HR3 := Lib.hid hr3
    clear hr3 hb3 HPA2 HB2 HF2
    go_wp2_with (first | (go_at_call 9; refine (HPS2.out _ _ _ HB3.out HR3.out).mono ?_; rintro e w4 ⟨a4, c4, rfl, hf4, hb4⟩; refine Hid.out ?_) | fail)
    refine Lib.hid ?_
    have HB4 : Hid (Below w.heap.size w w4) := HB3.out.trans (hb4.mono HB3.out.size)
    have HFL := Lib.hid (HF3.out.on hb4)
    have HRC := Lib.hid (HR3.out.on hb4)
    have HRD := Lib.hid (HR.out.on HB4.out)
    have HFK := Lib.hid hf4
    clear hf4 hb4 HPS2 HB3 HF3 HR3
    by_cases hc0 : code2 = 0
    · have j0 : ((code2 : Int) != 0) = false := by rw [hc0]; rfl
      have hz := res_zero (l := F ++ l) (by rw [HR2.out]; exact hc0)
      rw [HR2.out] at hz
      obtain ⟨hz1, _⟩ := hz
      have hT2 : T2 = (splitOf (F ++ l)).1 := by have := congrArg Prod.fst hz1; exact this
      have hb2 : b2 = (splitOf (F ++ l)).2 := by have := congrArg (fun x => x.2.1) hz1; exact this
      have HT2 := Lib.hid hT2
      have HB22 := Lib.hid hb2
      clear hz1 hT2 hb2 hc0 hcode2
      obtain ⟨bk, hbk⟩ : ∃ bk, bk = isBl (l.getD 0 0) := ⟨_, rfl⟩
      have HBK := Lib.hid hbk
      clear hbk
      go_upto_region 10 with fail
      go_cut [78] (fun x wx => x = .bool bk ∧ wx = w4)
      case first =>
        by_cases h0 : 0 < l.length
        · have i0 : (0 : Int) < (l.length : Int) := by omega
          obtain ⟨b0, o0, hA0, _, _, hcell⟩ := reads_cells HRD.out (i := 0) h0
          subst hA0
          have c0 : w4.cell? ⟨b0, o0, none⟩ = some (.int .u8 ((l.getD 0 0).toNat : Int)) := hcell 0 h0
          have hbk := HBK.out
          unfold isBl at hbk
          clear hcell HBK
          generalize (l.getD 0 0).toNat = y at c0 hbk
          by_cases h32 : y = 32
          · have e1 : ((y : Int) == 32) = true := by rw [h32]; rfl
            have HB : Hid (bk = true) := by show _ = _; rw [hbk, h32]; rfl
            clear hbk h32
            go_wp2
            go_meet
            exact ⟨by rw [HB.out], rfl⟩
          · have e1 : ((y : Int) == 32) = false := by rw [beq_eq_false_iff_ne]; omega
            by_cases h9 : y = 9
            · have e2 : ((y : Int) == 9) = true := by rw [h9]; rfl
              have HB : Hid (bk = true) := by show _ = _; rw [hbk, h9]; rfl
              clear hbk h32 h9
              go_wp2
              go_meet
              exact ⟨by rw [HB.out], rfl⟩
            · have e2 : ((y : Int) == 9) = false := by rw [beq_eq_false_iff_ne]; omega
              have HB : Hid (bk = false) := by show _ = _; rw [hbk]; simp [h32, h9]
              clear hbk h32 h9
              go_wp2
              go_meet
              exact ⟨by rw [HB.out], rfl⟩
        · have i0 : ¬ (0 : Int) < (l.length : Int) := by omega
          have HB : Hid (bk = false) := by
            show _ = _
            rw [HBK.out, List.eq_nil_of_length_eq_zero (by omega : l.length = 0)]
            rfl
          clear h0
          go_wp2
          go_meet
          exact ⟨by rw [HB.out], rfl⟩
      case rest =>
      obtain ⟨rfl, rfl⟩ := hcut
      cases hbk : bk with
      | true =>
        have hpos : 0 < T2.length := by
          rw [HT2.out, HFE.out]
          exact add_some nm.data.toList bd.data.toList l HNB.out HBA.out
        have j1 : (0 : Int) < (T2.length : Int) := by omega
        subst hbk
        go_wp2
        go_ret
        exact ⟨rfl, HB4.out⟩
      | false =>
        have has := add_split nm.data.toList bd.data.toList l HNB.out HBA.out (by rw [← HBK.out]; exact hbk)
        rw [← HFE.out, ← HTT.out, ← HBB.out] at has
        obtain ⟨f0, hf0⟩ : ∃ f0 : Fld, f0 = ⟨nm.data.toList, 32 :: foldOf bd.data.toList ((nm.data.toList.length + 2 : Nat) : Int), 0, F.length⟩ := ⟨_, rfl⟩
        rw [← hf0] at has
        have HT3 : Hid (T2 = f0 :: T.map (shF F.length)) := by show _ = _; rw [HT2.out, has]
        have HB3 : Hid (b2 = F.length + b) := by show _ = _; rw [HB22.out, has]
        obtain rfl : T2 = f0 :: T.map (shF F.length) := HT3.out
        obtain rfl : b2 = F.length + b := HB3.out
        have hk1 : (f0 :: T.map (shF F.length)).length = T.length + 1 := by simp
        rw [hk1] at HFK ⊢
        have HF0 := Lib.hid hf0
        have hfew := code_few HZ2.out
        have hcov := covers l
        have hbl : b ≤ l.length := by
          rw [HBB.out]
          rcases hcov.2.2 with h | ⟨h, h2⟩
          · rw [h]; exact hcov.2.1
          · rw [h]; have := h2.1; omega
        have hmax : (addR l (.inr F)).length = F.length + l.length := by show (F ++ l).length = _; rw [List.length_append]
        obtain ⟨b4, o4, hA4, p0, p1, p2, p3⟩ := HFK.out.cell (i := 0) (p := f0) rfl
        subst hA4
        have q0 : wc.cell? ⟨b4, o4, none⟩ = some (.string nm) := by
          have : wc.cell? ⟨b4, o4, none⟩ = some (S f0.nm) := by simpa using p0
          rw [this, HF0.out]
        have q1 : wc.cell? ⟨b4, o4 + 1, none⟩ = some (S (32 :: foldOf bd.data.toList ((nm.data.toList.length + 2 : Nat) : Int))) := by
          have : wc.cell? ⟨b4, o4 + 1, none⟩ = some (S f0.bd) := by simpa using p1
          rw [this, HF0.out]
        have q2 : wc.cell? ⟨b4, o4 + 2, none⟩ = some (.int .i64 0) := by
          have : wc.cell? ⟨b4, o4 + 2, none⟩ = some (.int .i64 (f0.fr : Int)) := by simpa using p2
          rw [this, HF0.out]; rfl
        have q3 : wc.cell? ⟨b4, o4 + 3, none⟩ = some (.int .i64 (F.length : Int)) := by
          have : wc.cell? ⟨b4, o4 + 3, none⟩ = some (.int .i64 (f0.en : Int)) := by simpa using p3
          rw [this, HF0.out]
        have HQ1 := Lib.hid q1
        have r0 : ∀ n, (wc.drewN n).cell? ⟨b4, o4, none⟩ = some (.string nm) := fun n => q0
        have r2 : ∀ n, (wc.drewN n).cell? ⟨b4, o4 + 2, none⟩ = some (.int .i64 0) := fun n => q2
        have r3 : ∀ n, (wc.drewN n).cell? ⟨b4, o4 + 3, none⟩ = some (.int .i64 (F.length : Int)) := fun n => q3
        clear p0 p1 p2 p3 has hf0 hk1 hmax hcov hbk HT2 HB22 HT3 HB3 q0 q1 q2 q3
        have HSZ := Lib.hid hs
        have HLZ := Lib.hid hl
        have HFZ := Lib.hid hFl
        have HNB4 : Hid (∀ n, Below w.heap.size w (wc.drewN n)) := fun n => HB4.out.trans (bel_drewN n wc HB4.out.size)
        have HNFL : Hid (∀ n, FReads (wc.drewN n) (.slice a2 T.length c2) T) := fun n => HFL.out.on (bel_drewN n wc (Nat.le_refl _))
        have HNFK : Hid (∀ n, FReads (wc.drewN n) (.slice (some ⟨b4, o4, none⟩) (T.length + 1) c4) (f0 :: T.map (shF F.length))) := fun n => HFK.out.on (bel_drewN n wc (Nat.le_refl _))
        have HNQ : Hid (∀ n, (wc.drewN n).cell? ⟨b4, o4 + 1, none⟩ = some (S (32 :: foldOf bd.data.toList ((nm.data.toList.length + 2 : Nat) : Int)))) := fun n => HQ1.out
        go_upto_region 12 with fail
        go_cut [128] (fun x wx => x = .bool false ∧ ∃ n, wx = wc.drewN n)
        case first =>
          by_cases hlast : b = l.length
          · subst hlast
            have hcv : ∀ (A' : Option Addr) (c' n : Nat), (convert 22 9 (.slice A' 0 c')).run Tryd.prog (wc.drewN n) = .ok (.string ⟨#[]⟩) (wc.drewN n) := fun A' c' n => conv_none A' c' _
            have k1 : (((F.length : Int) + (l.length : Int)) != ((l.length : Int) + (F.length : Int))) = false := by rw [Int.add_comm]; simp
            have k2 : ((F.length : Int) + (l.length : Int)).toNat = F.length + l.length := by omega
            by_cases hc1 : c = l.length
            · have j5 : (c = l.length) = True := eq_true hc1
              clear hc1
              by_cases hc2 : c3 = F.length + l.length
              · have j6 : (c3 = F.length + l.length) = True := eq_true hc2
                clear hc2
                go_wp2
                go_quiet (fail)
                go_wp2_with fail
                go_meet
                exact ⟨rfl, _, rfl⟩
              · have j6 : (c3 = F.length + l.length) = False := eq_false hc2
                clear hc2
                go_wp2
                go_quiet (fail)
                go_wp2_with fail
                go_meet
                exact ⟨rfl, _, rfl⟩
            · have j5 : (c = l.length) = False := eq_false hc1
              clear hc1
              by_cases hc2 : c3 = F.length + l.length
              · have j6 : (c3 = F.length + l.length) = True := eq_true hc2
                clear hc2
                go_wp2
                go_quiet (fail)
                go_wp2_with fail
                go_meet
                exact ⟨rfl, _, rfl⟩
              · have j6 : (c3 = F.length + l.length) = False := eq_false hc2
                clear hc2
                go_wp2
                go_quiet (fail)
                go_wp2_with fail
                go_meet
                exact ⟨rfl, _, rfl⟩
          · have hbl2 : b < l.length := by omega
            obtain ⟨bd0, od0, hAd, _, hcd, _⟩ := reads_cells HRD.out (i := b) hbl2
            subst hAd
            obtain ⟨g3, o3, hA3, _, hc3, _⟩ := reads_cells HRC.out (i := F.length + b) (by rw [List.length_append]; omega)
            subst hA3
            have hd1 := reads_from HRD.out hcd hbl2
            have hd2 := reads_from HRC.out hc3 (a := F.length + b) (by rw [List.length_append]; omega)
            have hd3 : (F ++ l).drop (F.length + b) = l.drop b := by rw [← List.drop_drop, List.drop_left]
            have hd4 : (F ++ l).length - (F.length + b) = l.length - b := by rw [List.length_append]; omega
            rw [hd3, hd4] at hd2
            rw [List.length_append] at hc3
            have HCD := Lib.hid hd1
            have HCC := Lib.hid hd2
            have hcv1 : ∀ n, (convert 22 9 (.slice (some ⟨bd0, od0 + b, none⟩) (l.length - b) (c - b))).run Tryd.prog (wc.drewN n) = .ok (.string ⟨(l.drop b).toArray⟩) (wc.drewN n) := fun n => conv_reads (HCD.out.on (bel_drewN n wc (Nat.le_refl _)))
            have hcv2 : ∀ n, (convert 22 9 (.slice (some ⟨g3, o3 + (F.length + b), none⟩) (l.length - b) (c3 - (F.length + b)))).run Tryd.prog (wc.drewN n) = .ok (.string ⟨(l.drop b).toArray⟩) (wc.drewN n) := fun n => conv_reads (HCC.out.on (bel_drewN n wc (Nat.le_refl _)))
            have k1 : (((F.length : Int) + (b : Int)) != ((b : Int) + (F.length : Int))) = false := by rw [Int.add_comm]; simp
            have k2 : ((F.length : Int) + (b : Int)).toNat = F.length + b := by omega
            have k3 : (b : Int) ≤ (l.length : Int) := by omega
            have k4 : (F.length : Int) + (b : Int) ≤ (F.length : Int) + (l.length : Int) := by omega
            have k5 : ¬ c = b := by omega
            have k6 : ¬ c3 = F.length + b := by omega
            have k7 : F.length + l.length - (F.length + b) = l.length - b := by omega
            clear hd1 hd2 hd3 hd4 hlast
            go_wp2
            go_quiet (fail)
            go_wp2_with fail
            go_meet
            exact ⟨rfl, _, rfl⟩
        case rest =>
        obtain ⟨rfl, n, hn0⟩ := hcut
        have HB5 : Hid (Below w.heap.size w wc) := by show Below _ _ _; rw [hn0]; exact HNB4.out n
        have HFL5 : Hid (FReads wc (.slice a2 T.length c2) T) := by show FReads _ _ _; rw [hn0]; exact HNFL.out n
        have HFK5 : Hid (FReads wc (.slice (some ⟨b4, o4, none⟩) (T.length + 1) c4) (f0 :: T.map (shF F.length))) := by show FReads _ _ _; rw [hn0]; exact HNFK.out n
        have q1 : wc.cell? ⟨b4, o4 + 1, none⟩ = some (S (32 :: foldOf bd.data.toList ((nm.data.toList.length + 2 : Nat) : Int))) := by rw [hn0]; exact HNQ.out n
        clear hn0 HNB4 HNFL HNFK HNQ HB4 HFL HFK HQ1 r0 r2 r3 HRC HRD
        have hfz : (foldOf bd.data.toList ((nm.data.toList.length + 2 : Nat) : Int)).length ≤ 100000000 := by
          have := fold_le bd.data.toList ((nm.data.toList.length + 2 : Nat) : Int)
          have e0 := str_len bd
          have := HSZ.out
          omega
        obtain ⟨fl, hfl⟩ : ∃ fl, fl = foldOf bd.data.toList ((nm.data.toList.length + 2 : Nat) : Int) := ⟨_, rfl⟩
        have HFO := Lib.hid hfl
        rw [← hfl] at q1 hfz
        clear hfl
        have HUN : Hid (Calls Tryd.prog 19 #[S (32 :: fl)] wc fun e w' => e = .returned (S (joinW (wordsOf bd.data.toList))) ∧ Below wc.heap.size wc w') := by
          have h0 := pUnfold ⟨(32 :: fl).toArray⟩ wc (by show (32 :: fl).toArray.size ≤ _; simp; omega) (HV.out _ HB5.out)
          have h1 : unfoldOf (⟨(32 :: fl).toArray⟩ : ByteArray).data.toList = joinW (wordsOf bd.data.toList) := by
            show unfoldOf (32 :: fl) = _
            rw [HFO.out]
            exact unfold_fold bd.data.toList _ HBA.out
          rw [h1] at h0
          exact h0
        go_wp2_with (first | (go_at_call 19; refine HUN.out.mono ?_; rintro e w5 ⟨rfl, hb5⟩; refine Hid.out ?_) | fail)
        refine Lib.hid ?_
        have HB6 : Hid (Below w.heap.size w w5) := HB5.out.trans (hb5.mono HB5.out.size)
        have HFL6 := Lib.hid (HFL5.out.on hb5)
        have HFK6 := Lib.hid (HFK5.out.on hb5)
        clear hb5 HUN HFL5 HFK5 HB5 q1
        have HWO := Lib.hid (pWords bd w5 (by have := HSZ.out; omega))
        obtain ⟨jw, hjw⟩ : ∃ jw : ByteArray, jw = ⟨(joinW (wordsOf bd.data.toList)).toArray⟩ := ⟨_, rfl⟩
        have HWO2 : Hid (Calls Tryd.prog 20 #[.string bd] w5 fun e w' => e = .returned (.string jw) ∧ Below w5.heap.size w5 w') := by rw [hjw]; exact HWO.out
        rw [show S (joinW (wordsOf bd.data.toList)) = Value.string jw by rw [hjw]]
        clear HWO hjw
        go_wp2_with (first | (go_at_call 20; refine HWO2.out.mono ?_; rintro e w6 ⟨rfl, hb6⟩; refine Hid.out ?_) | fail)
        refine Lib.hid ?_
        have HB7 : Hid (Below w.heap.size w w6) := HB6.out.trans (hb6.mono HB6.out.size)
        have HFL7 := Lib.hid (HFL6.out.on hb6)
        have HFK7 := Lib.hid (HFK6.out.on hb6)
        have HCH : Hid (chainF l.length 0 T) := by have := (covers l).1; rw [← HTT.out] at this; exact this
        clear hb6 HWO2 HFL6 HFK6 HB6
        go_wp2
        go_loopw [18, 19] (fun i _ wr => ∃ k : Nat, k ≤ T.length ∧ i = .int .i64 (k : Int) ∧ Hid (Below w6.heap.size w6 wr)) (fun i _ _ => T.length - (intOf i).toNat)
        case atStart => exact ⟨0, Nat.zero_le _, rfl, Below.refl _ _⟩
        case round =>
          obtain ⟨k, hk, rfl, HW⟩ := hrel
          have i0 : (0 : Int) ≤ (k : Int) := by omega
          by_cases hlt : k < T.length
          · have i1 : (k : Int) < (T.length : Int) := by omega
            obtain ⟨f, hf⟩ : ∃ f, T[k]? = some f := ⟨_, List.getElem?_eq_getElem hlt⟩
            obtain ⟨_, g2, g3, _⟩ := chain_at k f HCH.out hf
            obtain ⟨g1, _⟩ := chain_at k f HCH.out hf
            have hfr : (f.fr : Int) ≤ 1048576 := by omega
            have hen : (f.en : Int) ≤ 1048576 := by omega
            have hf1 : (f0 :: T.map (shF F.length))[k + 1]? = some (shF F.length f) := by rw [List.getElem?_cons_succ, List.getElem?_map, hf]; rfl
            obtain ⟨bl0, ol0, hAl, l0, l1, l2, l3⟩ := (HFL7.out.on HW.out).cell hf
            subst hAl
            obtain ⟨bk0, ok0, hAk, x0, x1, x2, x3⟩ := (HFK7.out.on HW.out).cell hf1
            cases hAk
            obtain ⟨fn, hfn⟩ : ∃ fn : ByteArray, fn = ⟨f.nm.toArray⟩ := ⟨_, rfl⟩
            obtain ⟨fb, hfb⟩ : ∃ fb : ByteArray, fb = ⟨f.bd.toArray⟩ := ⟨_, rfl⟩
            obtain ⟨ff, hff⟩ : ∃ ff, ff = f.fr := ⟨_, rfl⟩
            obtain ⟨fe, hfe⟩ : ∃ fe, fe = f.en := ⟨_, rfl⟩
            have y0 : wr.cell? ⟨b4, o4 + (k + 1) * 4, none⟩ = some (.string fn) := by rw [x0, hfn]; rfl
            have y1 : wr.cell? ⟨b4, o4 + (k + 1) * 4 + 1, none⟩ = some (.string fb) := by rw [x1, hfb]; rfl
            have y2 : wr.cell? ⟨b4, o4 + (k + 1) * 4 + 2, none⟩ = some (.int .i64 ((ff : Int) + (F.length : Int))) := by rw [x2, hff]; rfl
            have y3 : wr.cell? ⟨b4, o4 + (k + 1) * 4 + 3, none⟩ = some (.int .i64 ((fe : Int) + (F.length : Int))) := by rw [x3, hfe]; rfl
            have hba := Below.alloc1 wr (.cells #[.string fn, .string fb, .int .i64 ((ff : Int) + (F.length : Int)), .int .i64 ((fe : Int) + (F.length : Int))] 30)
            have hnb := (MapKept.heap_alloc wr (.cells #[.string fn, .string fb, .int .i64 ((ff : Int) + (F.length : Int)), .int .i64 ((fe : Int) + (F.length : Int))] 30)).1
            obtain ⟨wx, hwx⟩ : ∃ wx, wx = wr.alloc (.cells #[.string fn, .string fb, .int .i64 ((ff : Int) + (F.length : Int)), .int .i64 ((fe : Int) + (F.length : Int))] 30) := ⟨_, rfl⟩
            rw [← hwx] at hba hnb
            obtain ⟨s0, s1, s2, s3, _, _, _, _⟩ := four_cells' hnb
            have z0 : ∀ n, (wx.drewN n).cell? ⟨wr.heap.size, 0, none⟩ = some (.string fn) := fun n => s0
            have z1 : ∀ n, (wx.drewN n).cell? ⟨wr.heap.size, 1, none⟩ = some (.string fb) := fun n => s1
            have z2 : ∀ n, (wx.drewN n).cell? ⟨wr.heap.size, 2, none⟩ = some (.int .i64 ((ff : Int) + (F.length : Int))) := fun n => s2
            have z3 : ∀ n, (wx.drewN n).cell? ⟨wr.heap.size, 3, none⟩ = some (.int .i64 ((fe : Int) + (F.length : Int))) := fun n => s3
            have u0 : ∀ n, (wx.drewN n).cell? ⟨bl0, ol0 + k * 4, none⟩ = some (.string fn) := fun n => by
              have h0 := (hba.cell (p := ⟨bl0, ol0 + k * 4, none⟩) (cell_lt l0)).trans l0
              rw [hfn]; exact h0
            have u1 : ∀ n, (wx.drewN n).cell? ⟨bl0, ol0 + k * 4 + 1, none⟩ = some (.string fb) := fun n => by
              have h0 := (hba.cell (p := ⟨bl0, ol0 + k * 4 + 1, none⟩) (cell_lt l1)).trans l1
              rw [hfb]; exact h0
            have u2 : ∀ n, (wx.drewN n).cell? ⟨bl0, ol0 + k * 4 + 2, none⟩ = some (.int .i64 (ff : Int)) := fun n => by
              have h0 := (hba.cell (p := ⟨bl0, ol0 + k * 4 + 2, none⟩) (cell_lt l2)).trans l2
              rw [hff]; exact h0
            have u3 : ∀ n, (wx.drewN n).cell? ⟨bl0, ol0 + k * 4 + 3, none⟩ = some (.int .i64 (fe : Int)) := fun n => by
              have h0 := (hba.cell (p := ⟨bl0, ol0 + k * 4 + 3, none⟩) (cell_lt l3)).trans l3
              rw [hfe]; exact h0
            have HND : Hid (∀ n, Below w6.heap.size w6 (wx.drewN n)) := fun n => (HW.out.trans (hba.mono HW.out.size)).trans (bel_drewN n wx (Nat.le_trans HW.out.size hba.size))
            rw [← hff] at hfr
            rw [← hfe] at hen
            have m1 : (0 : Int) ≤ (k : Int) + 1 := by omega
            have m2 : (k : Int) + 1 < (T.length : Int) + 1 := by omega
            have m3 : ((k : Int) + 1).toNat = k + 1 := by omega
            have HWX := Lib.hid hwx
            clear hfn hfb hff hfe x0 x1 x2 x3 l0 l1 l2 l3 s0 s1 s2 s3 hba hnb hwx g1 g2 g3 hf hf1 HW
            go_upto_region 21 with fail
            rw [← HWX.out]
            go_quiet (fail)
            go_wp2
            go_roundw
            case rel => exact ⟨k + 1, hlt, by go_num, HND.out _⟩
            case measure => simp [intOf]; omega
          · have i1 : ¬ (k : Int) < (T.length : Int) := by omega
            have HBF : Hid (Below w.heap.size w wr) := HB7.out.trans (HW.out.mono HB7.out.size)
            clear HW
            go_wp2
            go_ret
            exact ⟨rfl, HBF.out⟩
    · have j0 : ((code2 : Int) != 0) = true := by rw [bne_iff_ne]; omega
      rcases hcode2 with h | rfl | rfl
      · exact absurd h hc0
      · clear hc0 j0
        go_wp2
        go_ret
        exact ⟨rfl, HB4.out⟩
      · clear hc0 j0
        go_wp2
        go_ret
        exact ⟨rfl, HB4.out⟩
  · obtain ⟨ml, hml⟩ : ∃ ml, ml = addR l R := ⟨_, rfl⟩
    obtain ⟨cd, hcd⟩ : ∃ cd, cd = codeR R := ⟨_, rfl⟩
    have hcc : code ≠ 0 ∨ cd ≠ 0 := by
      by_cases h0 : code = 0
      · right
        rw [hcd, HRW.out]
        rcases write_code nm.data.toList bd.data.toList with ⟨k, hk, hk0⟩ | ⟨F, hk, _⟩
        · rw [hk]; exact hk0
        · exact absurd ⟨h0, F, HRW.out.trans hk⟩ hgo
      · exact Or.inl h0
    rw [← hml, ← hcd] at HPA
    clear hgo hml hcd
    go_enter Tryd.func6, Tryd.ntmps6
    go_wp2_with (first | (go_at_call 7; refine HSH.out.mono ?_; rintro e w1 ⟨rfl, hb1⟩; refine Hid.out ?_) | fail)
    refine Lib.hid ?_
    have HB1 := Lib.hid hb1
    clear hb1 HSH
    go_wp2_with (first | (go_at_call 9; refine (HPS.out _ HB1.out).mono ?_; rintro e w2 ⟨a2, c2, rfl, _, hb2⟩; refine Hid.out ?_) | fail)
    refine Lib.hid ?_
    have HB2 : Hid (Below w.heap.size w w2) := HB1.out.trans (hb2.mono HB1.out.size)
    clear hb2 HPS HB1
    go_wp2_with (first | (go_at_call 18; refine (HPA.out _ HB2.out).mono ?_; rintro e w3 ⟨a3, c3, rfl, _, hb3⟩; refine Hid.out ?_) | fail)
    refine Lib.hid ?_
    have HB3 : Hid (Below w.heap.size w w3) := HB2.out.trans (hb3.mono HB2.out.size)
    clear hb3 HPA HB2
    by_cases h0 : code = 0
    · have j0 : ((code : Int) != 0) = false := by rw [h0]; rfl
      have j1 : ((cd : Int) != 0) = true := by rw [bne_iff_ne]; omega
      clear h0 hcc
      go_wp2
      go_ret
      exact ⟨rfl, HB3.out⟩
    · have j0 : ((code : Int) != 0) = true := by rw [bne_iff_ne]; omega
      clear h0 hcc
      go_wp2
      go_ret
      exact ⟨rfl, HB3.out⟩
end Go.Proofs.YtnogpoojhhmadaaDoor.Header
