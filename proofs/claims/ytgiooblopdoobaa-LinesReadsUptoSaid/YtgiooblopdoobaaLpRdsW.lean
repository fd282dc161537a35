/-
  LINES, LinesReads: the walk.
-/
import Derived.Test.YtgiooblopdoobaaLpRds
namespace Go.Proofs.Ytgiooblopdoobaa.Lines
open Go.RowKit Base
set_option maxHeartbeats 16000000 in
set_option maxRecDepth 100000 in
theorem readsBad (most : Int) (AP : Option Addr) (np cp : Nat) (AT : Option Addr) (nt ct : Nat) (w : World) (h : most < 1 ∨ 65536 < most) :
    Calls Try.prog 3 #[.int .i64 most, .slice AP np cp, .slice AT nt ct] w fun e w' => e = .returned (.bool true) ∧ Below w.heap.size w w' := by
  have HSH := Lib.hid (pShown w)
  have HN : Hid (∀ w1, Calls Try.prog 8 #[.int .i64 most] w1 fun e w' => e = .returned (.tuple #[.pointer none, .int .i64 1]) ∧ Below w1.heap.size w1 w') := fun w1 => pNewNo most w1 h
  have HN2 : Hid (∀ w1, Calls Try.prog 9 #[.int .i64 most] w1 fun e w' => e = .returned (.tuple #[.pointer none, .int .i64 1]) ∧ Below w1.heap.size w1 w') := fun w1 => rNewNo most w1 h
  clear h
  go_enter Try.func3, Try.ntmps3
  go_wp2_with (first | (go_at_call 7; refine HSH.out.mono ?_; rintro e w1 ⟨rfl, hb1⟩; refine Hid.out ?_) | fail)
  refine Lib.hid ?_
  have HB1 := Lib.hid hb1
  clear hb1 HSH
  go_wp2_with (first | (go_at_call 8; refine (HN.out _).mono ?_; rintro e w2 ⟨rfl, hb2⟩; refine Hid.out ?_) | fail)
  refine Lib.hid ?_
  have HB2 : Hid (Below w.heap.size w w2) := HB1.out.trans (hb2.mono HB1.out.size)
  clear hb2 HB1
  go_wp2_with (first | (go_at_call 9; refine (HN2.out _).mono ?_; rintro e w3 ⟨rfl, hb3⟩; refine Hid.out ?_) | fail)
  refine Lib.hid ?_
  have HB3 : Hid (Below w.heap.size w w3) := HB2.out.trans (hb3.mono HB2.out.size)
  clear hb3 HB2
  go_wp2
  go_ret
  exact ⟨rfl, HB3.out⟩
set_option maxHeartbeats 40000000 in
set_option maxRecDepth 100000 in
theorem readsGood (m : Nat) (AP : Option Addr) (cp : Nat) (ps : List (List UInt8)) (AT : Option Addr) (ct : Nat) (bs : List Bool) (w : World) (hr : Rows2 w AP ps) (hpl : ps.length ≤ 9223372036854775807) (hps : ∀ x ∈ ps, x.length ≤ 1048576) (ht : Bools w AT bs) (htl : bs.length ≤ 9223372036854775807) (hm1 : 1 ≤ m) (hm2 : m ≤ 65536) :
    Calls Try.prog 3 #[.int .i64 (m : Int), .slice AP ps.length cp, .slice AT bs.length ct] w fun e w' => e = .returned (.bool true) ∧ Below w.heap.size w w' := by
  have HSH := Lib.hid (pShown w)
  obtain ⟨np, hnp⟩ : ∃ np, np = ps.length := ⟨_, rfl⟩
  obtain ⟨nt, hnt⟩ : ∃ nt, nt = bs.length := ⟨_, rfl⟩
  rw [← hnp] at hpl ⊢
  rw [← hnt] at htl ⊢
  have HR := Lib.hid hr
  have HT := Lib.hid ht
  have HNP := Lib.hid hnp
  have HNT := Lib.hid hnt
  have HPS := Lib.hid hps
  have HM1 := Lib.hid hm1
  have HM2 := Lib.hid hm2
  have HPL := Lib.hid hpl
  have HTL := Lib.hid htl
  clear hr ht hnp hnt hps hm1 hm2 hpl htl
  go_enter Try.func3, Try.ntmps3
  go_wp2_with (first | (go_at_call 7; refine HSH.out.mono ?_; rintro e w1 ⟨rfl, hb1⟩; refine Hid.out ?_) | fail)
  refine Lib.hid ?_
  have HB1 := Lib.hid hb1
  have HN1 := Lib.hid (pNewYes m w1 HM1.out HM2.out)
  clear hb1 HSH
  go_wp2_with (first | (go_at_call 8; refine HN1.out.mono ?_; rintro e w2 ⟨g, rfl, hb2, hg1, hg2, hp2⟩; refine Hid.out ?_) | fail)
  refine Lib.hid ?_
  have HB2 : Hid (Below w.heap.size w w2) := HB1.out.trans (hb2.mono HB1.out.size)
  have HG : Hid (w.heap.size ≤ g ∧ g < w2.heap.size ∧ PdAt w2 g (.slice none 0 0) m 0 []) := ⟨Nat.le_trans HB1.out.size hg1, hg2, hp2⟩
  have HN2 := Lib.hid (rNewYes m w2 HM1.out HM2.out)
  clear hb2 hg1 hg2 hp2 HN1 HB1
  go_wp2_with (first | (go_at_call 9; refine HN2.out.mono ?_; rintro e w3 ⟨g2, rfl, hb3, hg1, hg2, hp3⟩; refine Hid.out ?_) | fail)
  refine Lib.hid ?_
  have T3 : Hid (RdPd w w3 g (.slice none 0 0) g2 (.slice none 0 0) m 0 []) := by
    obtain ⟨x1, x2, x3⟩ := HG.out
    exact ⟨x3.on hb3.size (hb3.block g x2) (fun b hb => by simp [Value.ownBlock] at hb), hp3, HB2.out.trans (hb3.mono HB2.out.size), x1, Nat.le_trans HB2.out.size hg1, NewV.nil _, NewV.nil _, by omega, by simp [Value.ownBlock], by simp [Value.ownBlock], fun b hb => by simp [Value.ownBlock] at hb⟩
  clear hb3 hg1 hg2 hp3 HG HB2 HN2
  go_wp2
  go_loopw [12] (fun iv wr => ∃ (i : Nat) (vr vs : Value) (sr : Nat) (l : List UInt8), iv = .int .i64 (i : Int) ∧ i ≤ np ∧ Hid (i ≤ 200) ∧ Hid (RdPd w wr g vr g2 vs m sr l) ∧ Hid (sr ≤ endOf l) ∧ Hid (l.length ≤ i * 1048576)) (fun iv _ => np - (intOf iv).toNat)
  case atStart => exact ⟨0, _, _, 0, [], rfl, by omega, by show 0 ≤ 200; omega, T3.out, Nat.le_refl _, by show ([] : List UInt8).length ≤ _; simp⟩
  case round =>
    clear T3
    obtain ⟨i, vr, vs, sr, l, rfl, hip, hi2, T0, HS0, HL0⟩ := hrel
    by_cases hend : i < np ∧ i < 200
    · have hi200 : (i : Int) < 200 := by omega
      have hinp : (i : Int) < (np : Int) := by omega
      have hi0 : (0 : Int) ≤ (i : Int) := by omega
      have hpl := HPL.out
      obtain ⟨p, hpi⟩ : ∃ p, ps[i]? = some p := ⟨ps[i]'(by rw [← HNP.out]; exact hend.1), List.getElem?_eq_getElem _⟩
      have hpb : p.length ≤ 1048576 := HPS.out p (List.mem_of_getElem? hpi)
      obtain ⟨bp, op, xa, xc, hAP, hc0, hrp⟩ := HR.out i p hpi
      subst hAP
      have HCZ : Hid (∀ w', Below w.heap.size w w' → w'.cell? ⟨bp, op + i, none⟩ = some (.slice xa p.length xc)) := fun w' hb => by
        rw [hb.cell (p := ⟨bp, op + i, none⟩) (cell_lt hc0)]; exact hc0
      have HRP := Lib.hid hrp
      obtain ⟨pn, hpn⟩ : ∃ pn, pn = p.length := ⟨_, rfl⟩
      rw [← hpn] at HCZ HRP hpb
      have HPN := Lib.hid hpn
      have HPB := Lib.hid hpb
      have HEND := Lib.hid hend
      have hcell := HCZ.out wr T0.out.below
      have hcella := HCZ.out (wr.alloc (.cells #[] 5)) (T0.out.below.trans ((Below.alloc1 wr _).mono T0.out.below.size))
      clear hpi hc0 hrp hpn hend hpb
      go_wp2_with (at_builtin; go_must (refine wp_append_reads _ rfl _ _ rfl wr.heap.size (.slice (some ⟨wr.heap.size, 0, none⟩) 0 0) (.slice xa pn xc) [] p rfl rfl (owns_new wr) ((HRP.out.on T0.out.below).on (Below.alloc1 wr _)) (by have := HPB.out; have := HPN.out; simp; omega) (Below.alloc1 wr _).size ?_); intro u5 w5 own5 b5; refine Hid.out ?_)
      refine Lib.hid ?_
      obtain ⟨nw, hnw⟩ : ∃ nw, nw = wr.heap.size := ⟨_, rfl⟩
      have HO5 : Hid (Owns w5 nw u5 p) := by show Owns _ _ _ _; rw [hnw]; simpa using own5
      have T5 : Hid (RdPd w w5 g vr g2 vs m sr l) := T0.out.on ((Below.alloc1 wr _).trans b5)
      have HOR : Hid ((∀ b, vr.ownBlock = some b → b < nw) ∧ (∀ b, vs.ownBlock = some b → b < nw) ∧ g < nw ∧ g2 < nw) := by rw [hnw]; exact ⟨T0.out.r.old, T0.out.s.old, heap_lt T0.out.r.1, heap_lt T0.out.s.1⟩
      obtain ⟨ua, uc, huf⟩ := own5.reads.form
      rw [List.nil_append, ← HPN.out] at huf
      subst huf
      have HFE := Lib.hid (pFeed g vr (.slice ua pn uc) m sr l p w5 T5.out.r HO5.out.reads (Or.inl (by have := HL0.out; have := hi2.out; have := HPB.out; have := HPN.out; omega)))
      have HBW : Hid (w.heap.size ≤ nw) := by show _ ≤ _; rw [hnw]; exact T0.out.below.size
      clear own5 b5 hcell hcella hnw
      go_wp2_with (first | (go_at_call 10; refine HFE.out.mono ?_; rintro e w6 ⟨rfl, hk6, vr6, hp6, hs6⟩; refine Hid.out ?_) | fail)
      refine Lib.hid ?_
      have T6 := Lib.hid (T5.out.two.stepR hk6 hp6 hs6)
      have HO6 := Lib.hid (Owns.keptR HO5.out hk6 HOR.out.2.2.1 HOR.out.1)
      have HV6 : Hid (∀ b, (Value.slice ua pn uc).ownBlock = some b → vr6.ownBlock ≠ some b) := fun b hb e => by
        have h1 := HO5.out.ge b hb
        rcases hs6 with x | x
        · have := HOR.out.1 b (by rw [← x]; exact e); omega
        · have := x b e; omega
      have hcell := HCZ.out w6 T6.out.below
      have HFS := Lib.hid (rFeed g2 vs (.slice xa pn xc) (m : Int) l p w6 T6.out.s (HRP.out.on T6.out.below) (by have := HL0.out; have := hi2.out; have := HPB.out; have := HPN.out; omega))
      clear hk6 hp6 hs6 HFE T5 HO5 T0
      go_wp2_with (first | (go_at_call 11; refine HFS.out.mono ?_; rintro e w7 ⟨rfl, hk7, vs7, hp7, hs7⟩; refine Hid.out ?_) | fail)
      refine Lib.hid ?_
      have T7 := Lib.hid (T6.out.stepS hk7 hp7 hs7).one
      have HO7 := Lib.hid (Owns.keptR HO6.out hk7 HOR.out.2.2.2 HOR.out.2.1)
      have HV7 : Hid (∀ b, (Value.slice ua pn uc).ownBlock = some b → w.heap.size ≤ b ∧ b ≠ g ∧ b ≠ g2 ∧ vr6.ownBlock ≠ some b ∧ vs7.ownBlock ≠ some b) := fun b hb => by
        have h1 := HO6.out.ge b hb
        have h2 := HOR.out
        have h3 := HBW.out
        refine ⟨by omega, by omega, by omega, HV6.out b hb, fun e => ?_⟩
        rcases hs7 with x | x
        · have := h2.2.1 b (by rw [← x]; exact e); omega
        · have := x b e; omega
      have HS7 : Hid (sr ≤ endOf (l ++ p)) := by
        show _ ≤ _
        by_cases hf : endOf l < l.length
        · rw [endOf_pre _ _ hf]; exact HS0.out
        · have := endOf_no l p hf; have := HS0.out; have := endOf_le l; omega
      obtain ⟨l7, hl7⟩ : ∃ l7, l7 = l ++ p := ⟨_, rfl⟩
      have HL7 : Hid (l7.length ≤ (i + 1) * 1048576) := by
        show _ ≤ _
        rw [hl7, List.length_append]
        have := HL0.out; have := HPB.out; have := HPN.out
        omega
      rw [← hl7] at T7 HS7
      clear hk7 hp7 hs7 HFS T6 HO6 HV6 hl7 HL0 HS0 hcell HRP HCZ HOR
      go_wp2
      have HPN2 : Hid (p.length = pn) := HPN.out.symm
      go_loopw [14] (fun jv wk => ∃ (j : Nat) (t : List UInt8), j ≤ pn ∧ jv = .int .i64 (j : Int) ∧ Hid (t.length = pn) ∧ Hid (Owns wk nw (.slice ua pn uc) t) ∧ Hid (w7.grownBy wk (Value.slice ua pn uc).ownBlock)) (fun jv _ => pn - (intOf jv).toNat)
      case atStart => exact ⟨0, p, by omega, rfl, HPN2.out, HO7.out, ⟨rfl, rfl, rfl, Nat.le_refl _, fun _ _ _ => rfl⟩⟩
      case round =>
        clear HO7 HPN2
        obtain ⟨j, t, hj, rfl, hjt, hot, hgr⟩ := hrel
        have hpb2 := HPB.out
        by_cases hlt : j < pn
        · obtain ⟨ga, ca, hfa, hca, _⟩ := hot.out.form2 (by rw [hjt.out]; omega)
          rw [hjt.out] at hfa
          cases hfa
          have i0 : (0 : Int) ≤ (j : Int) := by omega
          have i1 : (j : Int) < (pn : Int) := by omega
          have hO : Owns wr nw (.slice (some ⟨ga, 0, none⟩) t.length uc) t := by rw [hjt.out]; exact hot.out
          have hcell := hO.cell j (by rw [hjt.out]; omega)
          have hfree := hO.free j
          have HN1 : Hid (Owns (wr.setCell ⟨ga, j, none⟩ (.int .u8 77)) nw (.slice (some ⟨ga, 0, none⟩) pn uc) (t.set j 77)) := by
            have := hO.stored j 77 (by rw [hjt.out]; omega)
            rw [hjt.out] at this
            exact this
          have HG1 : Hid (w7.grownBy (wr.setCell ⟨ga, j, none⟩ (.int .u8 77)) (Value.slice (some ⟨ga, 0, none⟩) pn uc).ownBlock) := grown_set hgr.out rfl j _
          have HTL2 : Hid ((t.set j 77).length = pn) := by show _ = _; rw [List.length_set]; exact hjt.out
          clear hot hgr hO hjt
          go_wp2
          go_roundw
          case rel => exact ⟨j + 1, _, by omega, by go_num, HTL2, HN1, HG1⟩
          case measure => simp [intOf]; omega
        · have i1 : ¬ (j : Int) < (pn : Int) := by omega
          have T8 := Lib.hid (T7.out.grown hgr.out HV7.out)
          clear hot hgr hjt hlt T7 HV7
          have HNX : (∃ bt ot, AT = some ⟨bt, ot, none⟩ ∧ i < nt ∧ ∀ w', Below w.heap.size w w' → w'.cell? ⟨bt, ot + i, none⟩ = some (.bool true)) ∨ (∃ bt ot, AT = some ⟨bt, ot, none⟩ ∧ i < nt ∧ ∀ w', Below w.heap.size w w' → w'.cell? ⟨bt, ot + i, none⟩ = some (.bool false)) ∨ ¬ (i : Int) < (nt : Int) := by
            by_cases hnt : i < nt
            · obtain ⟨x, hx⟩ : ∃ x, bs[i]? = some x := ⟨bs[i]'(by rw [← HNT.out]; exact hnt), List.getElem?_eq_getElem _⟩
              obtain ⟨bt, ot, hAT, hc0⟩ := HT.out i x hx
              have hcz : ∀ w', Below w.heap.size w w' → w'.cell? ⟨bt, ot + i, none⟩ = some (.bool x) := fun w' hb => by
                rw [hb.cell (p := ⟨bt, ot + i, none⟩) (cell_lt hc0)]; exact hc0
              cases x
              · exact Or.inr (Or.inl ⟨bt, ot, hAT, hnt, hcz⟩)
              · exact Or.inl ⟨bt, ot, hAT, hnt, hcz⟩
            · exact Or.inr (Or.inr (by omega))
          have hend := HEND.out
          have htl := HTL.out
          rcases HNX with ⟨bt, ot, hAT, hnt, hcz⟩ | HNX
          · subst hAT
            have hint : (i : Int) < (nt : Int) := by omega
            have hcell := hcz wr T8.out.below
            clear hcz hnt
            go_wp2
            go_roundw
            case rel => exact ⟨i + 1, vr6, vs7, sr, l7, by go_num, by omega, by show _ ≤ _; omega, T8, HS7, HL7⟩
            case measure => simp [intOf]; omega
          rcases HNX with ⟨bt, ot, hAT, hnt, hcz⟩ | hnt
          case' inl =>
            subst hAT
            have hint : (i : Int) < (nt : Int) := by omega
            have hcell := hcz wr T8.out.below
            clear hcz hnt
          all_goals
            go_wp2
            go_loopw [15] (fun jv wk => ∃ (j : Nat) (vra vsa : Value) (sra : Nat) (la : List UInt8), jv = .int .i64 (j : Int) ∧ j ≤ 5 ∧ Hid (RdPd w wk g vra g2 vsa m sra la) ∧ Hid (sra ≤ endOf la) ∧ Hid (la.length ≤ (i + 1) * 1048576)) (fun jv _ => 5 - (intOf jv).toNat)
            case atStart => exact ⟨0, vr6, vs7, sr, l7, rfl, by omega, T8.out, HS7.out, HL7.out⟩
            case round =>
              clear T8 HS7 HL7
              first | clear hcell | skip
              obtain ⟨j2, vra, vsa, sra, la, rfl, hj2, TA, HSA, HLA⟩ := hrel
              by_cases hlt5 : j2 < 5
              · have i5 : (j2 : Int) < 5 := by omega
                have hlen : la.length ≤ 300000000 := by have := HLA.out; omega
                obtain ⟨t, ht⟩ : ∃ t, t = (stepOf m la).1.1 := ⟨_, rfl⟩
                obtain ⟨code, hcode⟩ : ∃ code, code = (stepOf m la).1.2 := ⟨_, rfl⟩
                obtain ⟨bf, hbf⟩ : ∃ bf, bf = (stepOf m la).2.1 := ⟨_, rfl⟩
                obtain ⟨lb, hlb⟩ : ∃ lb, lb = (stepOf m la).2.2 := ⟨_, rfl⟩
                have hsl := step_len m la
                have HNP2 := Lib.hid (pNextU TA.out.r (by omega) HSA.out)
                rw [← ht, ← hcode, ← hbf, ← hlb] at HNP2
                have HEQ : Hid (t = (stepOf m la).1.1 ∧ code = (stepOf m la).1.2 ∧ bf = (stepOf m la).2.1 ∧ lb = (stepOf m la).2.2) := ⟨ht, hcode, hbf, hlb⟩
                have HLB : Hid (lb.length ≤ (i + 1) * 1048576) := by show _ ≤ _; rw [hlb]; have := HLA.out; omega
                have HLE3 := Lib.hid hlen
                obtain ⟨nx, hnx⟩ : ∃ nx, nx = wr.heap.size := ⟨_, rfl⟩
                have HNXW : Hid (w.heap.size ≤ nx ∧ g < nx ∧ g2 < nx ∧ (∀ b, vra.ownBlock = some b → b < nx) ∧ ∀ b, vsa.ownBlock = some b → b < nx) := by rw [hnx]; exact ⟨TA.out.below.size, heap_lt TA.out.r.1, heap_lt TA.out.s.1, TA.out.r.old, TA.out.s.old⟩
                rw [← hnx] at HNP2
                have HNXE := Lib.hid hnx
                clear ht hcode hbf hlb hsl hnx hlen
                go_wp2_with (first | (go_at_call 12; refine HNP2.out.mono ?_; rintro e w8 ⟨u8, vr8, sr8, rfl, ho8, hk8, hp8, hsr8, hs8⟩; refine Hid.out ?_) | fail)
                refine Lib.hid ?_
                have T9 := Lib.hid (TA.out.two.stepR hk8 hp8 (Or.inl hs8))
                have HO8 := Lib.hid ho8
                have HSR8 := Lib.hid hsr8
                have HVN : Hid (∀ b, vr8.ownBlock = some b → b < nx) := fun b hb => HNXW.out.2.2.2.1 b (by rw [← hs8]; exact hb)
                have HUL : Hid (∀ b, u8.ownBlock = some b → b < w8.heap.size) := fun b hb => (ho8.ge b hb).2
                have HNR := Lib.hid (rNextU T9.out.s (by have := HLE3.out; omega))
                rw [← HEQ.out.1, ← HEQ.out.2.1, ← HEQ.out.2.2.1, ← HEQ.out.2.2.2] at HNR
                clear ho8 hk8 hp8 hsr8 hs8 HNP2 TA HSA HLA
                go_wp2_with (first | (go_at_call 13; refine HNR.out.mono ?_; rintro e w9 ⟨u9, vs9, rfl, hr9, hk9, hp9, hs9⟩; refine Hid.out ?_) | fail)
                refine Lib.hid ?_
                have T10 := Lib.hid (T9.out.stepS hk9 hp9 hs9).one
                have HO9 := Lib.hid (Owns.keptR HO8.out hk9 HNXW.out.2.2.1 HNXW.out.2.2.2.2)
                have hcv1 := conv_reads HO9.out.reads
                have hcv2 := conv_reads hr9
                have HV9 : Hid (∀ b, u8.ownBlock = some b → w.heap.size ≤ b ∧ b ≠ g ∧ b ≠ g2 ∧ vr8.ownBlock ≠ some b ∧ vs9.ownBlock ≠ some b) := fun b hb => by
                  have h1 := (HO8.out.ge b hb).1
                  have h2 := HNXW.out
                  refine ⟨by omega, by omega, by omega, fun e => by have := HVN.out b e; omega, fun e => ?_⟩
                  rcases hs9 with x | x
                  · have := h2.2.2.2.2 b (by rw [← x]; exact e); omega
                  · have := x b e; have := HUL.out b hb; omega
                obtain ⟨tn, htn⟩ : ∃ tn, tn = t.length := ⟨_, rfl⟩
                obtain ⟨ya, yc, hyf⟩ := HO9.out.reads.form
                rw [← htn] at hyf
                subst hyf
                have HTN := Lib.hid htn
                have htb : tn ≤ 4000000000000000000 := by
                  have h1 := HEQ.out.1
                  have h2 : t.length ≤ la.length := by
                    rw [h1]
                    unfold stepOf
                    split
                    · show (lineTold m (la.take (endOf la))).1.length ≤ _
                      unfold lineTold
                      rw [tell_fst, List.length_take]
                      have := (bare_take (la.take (endOf la))).2
                      rw [List.length_take] at this
                      omega
                    · exact Nat.zero_le _
                  have := HLE3.out
                  omega
                clear hr9 hk9 hp9 hs9 HNR T9 HO8 htn HUL HVN HNXE
                go_wp2
                clear hcv1 hcv2
                go_loopw [23] (fun jv wk => ∃ (q : Nat) (x : List UInt8), q ≤ tn ∧ jv = .int .i64 (q : Int) ∧ Hid (x.length = tn) ∧ Hid (Owns wk nx (.slice ya tn yc) x) ∧ Hid (w9.grownBy wk (Value.slice ya tn yc).ownBlock)) (fun jv _ => tn - (intOf jv).toNat)
                case atStart => exact ⟨0, t, by omega, rfl, HTN.out.symm, HO9.out, ⟨rfl, rfl, rfl, Nat.le_refl _, fun _ _ _ => rfl⟩⟩
                case round =>
                  clear HO9
                  obtain ⟨q, x, hq, rfl, hxl, hox, hgx⟩ := hrel
                  by_cases hltq : q < tn
                  · obtain ⟨ga, ca, hfa, hca, _⟩ := hox.out.form2 (by rw [hxl.out]; omega)
                    rw [hxl.out] at hfa
                    cases hfa
                    have i0 : (0 : Int) ≤ (q : Int) := by omega
                    have i1 : (q : Int) < (tn : Int) := by omega
                    have hO : Owns wr nx (.slice (some ⟨ga, 0, none⟩) x.length yc) x := by rw [hxl.out]; exact hox.out
                    have hcell := hO.cell q (by rw [hxl.out]; omega)
                    have hfree := hO.free q
                    have HN1 : Hid (Owns (wr.setCell ⟨ga, q, none⟩ (.int .u8 77)) nx (.slice (some ⟨ga, 0, none⟩) tn yc) (x.set q 77)) := by
                      have := hO.stored q 77 (by rw [hxl.out]; omega)
                      rw [hxl.out] at this
                      exact this
                    have HG1 : Hid (w9.grownBy (wr.setCell ⟨ga, q, none⟩ (.int .u8 77)) (Value.slice (some ⟨ga, 0, none⟩) tn yc).ownBlock) := grown_set hgx.out rfl q _
                    have HTL2 : Hid ((x.set q 77).length = tn) := by show _ = _; rw [List.length_set]; exact hxl.out
                    clear hox hgx hO hxl
                    go_wp2
                    go_roundw
                    case rel => exact ⟨q + 1, _, by omega, by go_num, HTL2, HN1, HG1⟩
                    case measure => simp [intOf]; omega
                  · have i1 : ¬ (q : Int) < (tn : Int) := by omega
                    have T11 := Lib.hid (T10.out.grown hgx.out HV9.out)
                    have HL1 := Lib.hid (pLeft g _ m _ _ wr T11.out.r)
                    have HL2 := Lib.hid (rLeft g2 _ (m : Int) _ wr T11.out.s)
                    clear hox hgx hxl hltq T10 HV9
                    go_wp2_with (first | (go_at_call 14; refine HL1.out.mono ?_; rintro e wy ⟨rfl, rfl⟩; refine Hid.out ?_) | fail)
                    refine Lib.hid ?_
                    go_wp2_with (first | (go_at_call 15; refine HL2.out.mono ?_; rintro e wy ⟨rfl, rfl⟩; refine Hid.out ?_) | fail)
                    refine Lib.hid ?_
                    go_wp2
                    go_roundw
                    case rel => exact ⟨j2 + 1, vr8, vs9, sr8, lb, by go_num, by omega, T11, HSR8, HLB⟩
                    case measure => simp [intOf]; omega
              · have i5 : ¬ (j2 : Int) < 5 := by omega
                have hj5 : j2 = 5 := by omega
                clear hlt5
                go_wp2
                go_roundw
                case rel => exact ⟨i + 1, vra, vsa, sra, la, by go_num, by omega, by show _ ≤ _; omega, TA, HSA, HLA⟩
                case measure => simp [intOf]; omega
    · by_cases hip2 : i < np
      · have i1 : (i : Int) < (np : Int) := by omega
        have i2 : ¬ (i : Int) < 200 := by omega
        clear hend hip2
        go_wp2
        go_ret
        exact ⟨rfl, T0.out.below⟩
      · have i1 : ¬ (i : Int) < (np : Int) := by omega
        clear hend hip2
        go_wp2
        go_ret
        exact ⟨rfl, T0.out.below⟩
end Go.Proofs.Ytgiooblopdoobaa.Lines
