/-
  LINES, LinesPieces: the walk.
-/
import Derived.Test.YtgiooblopdoobaaLpPcs
import Derived.Test.YtgiooblopdoobaaLpFrame
namespace Go.Proofs.Ytgiooblopdoobaa.Lines
open Go.RowKit Base
theorem pNewNo (most : Int) (w : World) (h : most < 1 ∨ 65536 < most) : Calls Try.prog 8 #[.int .i64 most] w fun e w' => e = .returned (.tuple #[.pointer none, .int .i64 1]) ∧ Below w.heap.size w w' := by
  refine (pNew most w).mono fun e w' h2 => ?_
  obtain ⟨hb, h3 | h3⟩ := h2
  · exact ⟨h3.2, hb⟩
  · have := h3.1; omega
set_option maxHeartbeats 16000000 in
set_option maxRecDepth 100000 in
theorem piecesBad (v : Value) (AC : Option Addr) (nc cc : Nat) (most : Int) (w : World) (h : most < 1 ∨ 65536 < most) :
    Calls Try.prog 4 #[v, .slice AC nc cc, .int .i64 most] w fun e w' => e = .returned (.bool true) ∧ Below w.heap.size w w' := by
  have HSH := Lib.hid (pShown w)
  have HN : Hid (∀ w1, Calls Try.prog 8 #[.int .i64 most] w1 fun e w' => e = .returned (.tuple #[.pointer none, .int .i64 1]) ∧ Below w1.heap.size w1 w') := fun w1 => pNewNo most w1 h
  clear h
  go_enter Try.func4, Try.ntmps4
  go_wp2_with (first | (go_at_call 7; refine HSH.out.mono ?_; rintro e w1 ⟨rfl, hb1⟩; refine Hid.out ?_) | fail)
  refine Lib.hid ?_
  have HB1 := Lib.hid hb1
  clear hb1 HSH
  go_wp2_with (first | (go_at_call 8; refine (HN.out _).mono ?_; rintro e w2 ⟨rfl, hb2⟩; refine Hid.out ?_) | fail)
  refine Lib.hid ?_
  have HB2 : Hid (Below w.heap.size w w2) := HB1.out.trans (hb2.mono HB1.out.size)
  clear hb2 HB1
  go_wp2_with (first | (go_at_call 8; refine (HN.out _).mono ?_; rintro e w3 ⟨rfl, hb3⟩; refine Hid.out ?_) | fail)
  refine Lib.hid ?_
  have HB3 : Hid (Below w.heap.size w w3) := HB2.out.trans (hb3.mono HB2.out.size)
  clear hb3 HB2
  go_wp2
  go_ret
  exact ⟨rfl, HB3.out⟩
set_option maxHeartbeats 40000000 in
set_option maxRecDepth 100000 in
theorem piecesGood (A1 : Option Addr) (q1 : Nat) (l : List UInt8) (AC : Option Addr) (cc : Nat) (zs : List Int) (m : Nat) (w : World) (hr : Reads w (.slice A1 l.length q1) l) (hl : l.length ≤ 140737488351232) (hz : Ints w AC zs) (hzl : zs.length ≤ 9223372036854775807) (hm1 : 1 ≤ m) (hm2 : m ≤ 65536) :
    Calls Try.prog 4 #[.slice A1 l.length q1, .slice AC zs.length cc, .int .i64 (m : Int)] w fun e w' => e = .returned (.bool true) ∧ Below w.heap.size w w' := by
  have HSH := Lib.hid (pShown w)
  obtain ⟨n, hn⟩ : ∃ n, n = l.length := ⟨_, rfl⟩
  obtain ⟨K, hK⟩ : ∃ K, K = zs.length := ⟨_, rfl⟩
  rw [← hn] at hr hl ⊢
  rw [← hK] at hzl ⊢
  have HR := Lib.hid hr
  have HN := Lib.hid hn
  have HL := Lib.hid hl
  have HZ := Lib.hid hz
  have HK := Lib.hid hK
  have HM1 := Lib.hid hm1
  have HM2 := Lib.hid hm2
  have HZL := Lib.hid hzl
  clear hr hn hz hK hm1 hm2 hzl
  go_enter Try.func4, Try.ntmps4
  go_wp2_with (first | (go_at_call 7; refine HSH.out.mono ?_; rintro e w1 ⟨rfl, hb1⟩; refine Hid.out ?_) | fail)
  refine Lib.hid ?_
  have HB1 := Lib.hid hb1
  have HN1 := Lib.hid (pNewYes m w1 HM1.out HM2.out)
  clear hb1 HSH
  go_wp2_with (first | (go_at_call 8; refine HN1.out.mono ?_; rintro e w2 ⟨g, rfl, hb2, hg1, hg2, hp2⟩; refine Hid.out ?_) | fail)
  refine Lib.hid ?_
  have HB2 : Hid (Below w.heap.size w w2) := HB1.out.trans (hb2.mono HB1.out.size)
  have HG : Hid (w.heap.size ≤ g ∧ g < w2.heap.size ∧ PdAt w2 g (.slice none 0 0) m 0 []) := ⟨Nat.le_trans HB1.out.size hg1, hg2, hp2⟩
  have HN2 := Lib.hid (pNewYes m w2 HM1.out HM2.out)
  clear hb2 hg1 hg2 hp2 HN1 HB1
  go_wp2_with (first | (go_at_call 8; refine HN2.out.mono ?_; rintro e w3 ⟨g2, rfl, hb3, hg1, hg2, hp3⟩; refine Hid.out ?_) | fail)
  refine Lib.hid ?_
  have T3 : Hid (TwoAt w w3 g (.slice none 0 0) g2 (.slice none 0 0) m 0 0 [] []) := by
    obtain ⟨x1, x2, x3⟩ := HG.out
    exact ⟨x3.on hb3.size (hb3.block g x2) (fun b hb => by simp [Value.ownBlock] at hb), hp3, HB2.out.trans (hb3.mono HB2.out.size), x1, Nat.le_trans HB2.out.size hg1, NewV.nil _, NewV.nil _, by omega, by simp [Value.ownBlock], by simp [Value.ownBlock], fun b hb => by simp [Value.ownBlock] at hb⟩
  have HFE := Lib.hid (pFeed g (.slice none 0 0) (.slice A1 n q1) m 0 [] l w3 T3.out.r (HR.out.on T3.out.below) (Or.inl (by have := HL.out; have := HN.out; simp; omega)))
  clear hb3 hg1 hg2 hp3 HG HB2 HN2
  go_wp2_with (first | (go_at_call 10; refine HFE.out.mono ?_; rintro e w4 ⟨rfl, hk4, v4, hp4, hs4⟩; refine Hid.out ?_) | fail)
  refine Lib.hid ?_
  have T4 : Hid (TwoAt w w4 g v4 g2 (.slice none 0 0) m 0 0 l []) := T3.out.stepR hk4 (by simpa using hp4) hs4
  clear hk4 hp4 hs4 HFE T3
  go_wp2
  go_loopw [12, 13] (fun av iv wr => ∃ (a k : Nat) (vr vs : Value) (lr ls : List UInt8), av = .int .i64 (a : Int) ∧ iv = .int .i64 (k : Int) ∧ a ≤ n ∧ k ≤ K ∧ Hid (TwoAt w wr g vr g2 vs m 0 0 lr ls) ∧ Hid (ls ++ l.drop a = lr) ∧ Hid (lr.length ≤ n)) (fun _ iv _ => K - (intOf iv).toNat)
  case atStart => exact ⟨0, 0, v4, .slice none 0 0, l, [], rfl, rfl, by omega, by omega, T4.out, rfl, by show _ ≤ _; rw [HN.out]; exact Nat.le_refl _⟩
  case round =>
    clear T4
    obtain ⟨a, k, vr, vs, lr, ls, rfl, rfl, han, hkK, T0, HE, HLR⟩ := hrel
    have hl' := HL.out
    have d0 : (0 : Int) ≤ (a : Int) := by omega
    have d1 : (a : Int) ≤ (n : Int) := by omega
    by_cases hlt : k < K
    · obtain ⟨z, hzk⟩ : ∃ z, zs[k]? = some z := ⟨zs[k]'(by rw [← HK.out]; exact hlt), List.getElem?_eq_getElem _⟩
      obtain ⟨bz, oz, hAC, hcell0⟩ := HZ.out k z hzk
      subst hAC
      have HCZ : Hid (∀ w', Below w.heap.size w w' → w'.cell? ⟨bz, oz + k, none⟩ = some (.int .i64 z)) := fun w' hb => by
        rw [hb.cell (p := ⟨bz, oz + k, none⟩) (cell_lt hcell0)]; exact hcell0
      have hcell := HCZ.out wr T0.out.below
      have hzl := HZL.out
      have i0 : (0 : Int) ≤ (k : Int) := by omega
      have i1 : (k : Int) < (K : Int) := by omega
      clear hzk hcell0
      by_cases hz1 : (a : Int) ≤ z
      · by_cases hz2 : z ≤ (n : Int)
        · obtain ⟨c, rfl⟩ : ∃ c : Nat, z = (c : Int) := ⟨z.toNat, by omega⟩
          have hac : a ≤ c := by omega
          have hcn : c ≤ n := by omega
          have e0 : (0 : Int) ≤ (c : Int) := by omega
          have hnq := (reads_len HR.out).2
          have hcq : c ≤ q1 := by omega
          have hcq2 : (c : Int) ≤ (q1 : Int) := by omega
          obtain ⟨ls5, hls5⟩ : ∃ ls5, ls5 = ls ++ (l.drop a).take (c - a) := ⟨_, rfl⟩
          have HE5 : Hid (ls5 ++ l.drop c = lr) := by
            show _ = _
            rw [hls5, ← HE.out, List.append_assoc]
            congr 1
            have h1 : (l.drop a).drop (c - a) = l.drop c := by rw [List.drop_drop]; congr 1; omega
            rw [← h1, List.take_append_drop]
          have hl5 : ls5.length + (n - c) = lr.length := by
            have := congrArg List.length HE5.out
            rw [List.length_append, List.length_drop, ← HN.out] at this
            exact this
          have HS5 := Lib.hid hl5
          by_cases hqa : q1 = a
          case' pos => have hqaT := eq_true hqa
          case' neg => have hqaT := eq_false hqa
          all_goals
            have hpc := reads_piece (HR.out.on T0.out.below) (a := a) (c := c) hac hcn
            first | rw [if_pos hqa] at hpc | rw [if_neg hqa] at hpc
            have HFE := Lib.hid (pFeed g2 vs _ m 0 ls ((l.drop a).take (c - a)) wr T0.out.s hpc (Or.inl (by
              have h1 := congrArg List.length hls5
              rw [List.length_append] at h1
              have := HLR.out
              omega)))
            have HLS5 := Lib.hid hls5
            clear hqa hpc hls5 hl5
            go_wp2_with (first | (go_at_call 10; refine HFE.out.mono ?_; rintro e w5 ⟨rfl, hk5, vs5, hp5, hs5⟩; refine Hid.out ?_) | fail)
            refine Lib.hid ?_
            rw [← HLS5.out] at hp5
            have T5 := Lib.hid (T0.out.stepS hk5 hp5 hs5)
            clear hk5 hp5 hs5 HFE hcell
            have hcell := HCZ.out w5 T5.out.below
            by_cases hf : endOf lr < lr.length
            · have HNR := Lib.hid (pNextF T5.out.r (by have := HLR.out; omega) (Nat.zero_le _) hf)
              obtain ⟨t, ht⟩ : ∃ t, t = (lineTold m (lr.take (endOf lr))).1 := ⟨_, rfl⟩
              obtain ⟨code, hcode⟩ : ∃ code, code = (lineTold m (lr.take (endOf lr))).2 := ⟨_, rfl⟩
              rw [← ht, ← hcode] at HNR
              have HF := Lib.hid hf
              have HTC : Hid (t = (lineTold m (lr.take (endOf lr))).1 ∧ code = (lineTold m (lr.take (endOf lr))).2) := ⟨ht, hcode⟩
              clear hf ht hcode
              go_wp2_with (first | (go_at_call 12; refine HNR.out.mono ?_; rintro e w6 ⟨u6, vr6, rfl, ho6, hk6, hp6, hs6⟩; refine Hid.out ?_) | fail)
              refine Lib.hid ?_
              have T6 := Lib.hid (T5.out.stepR hk6 hp6 hs6)
              have HO6 := Lib.hid ho6
              have HK6 : Hid (w5.heap.size ≤ w6.heap.size) := hk6.size
              have HZ5 : Hid (g2 < w5.heap.size ∧ ∀ b, vs5.ownBlock = some b → b < w5.heap.size) := ⟨heap_lt T5.out.s.1, fun b hb => (T5.out.s.2.1.ge b hb).2⟩
              clear ho6 hk6 hp6 hs6 HNR
              by_cases hfs : endOf ls5 < ls5.length
              · have hee : endOf lr = endOf ls5 := by rw [← HE5.out]; exact endOf_pre _ _ hfs
                have htk : lr.take (endOf lr) = ls5.take (endOf ls5) := by rw [hee, ← HE5.out, List.take_append_of_le_length (by omega)]
                have hdr : lr.drop (endOf lr + 1) = ls5.drop (endOf ls5 + 1) ++ l.drop c := by rw [hee, ← HE5.out, List.drop_append_of_le_length (by omega)]
                have HNS := Lib.hid (pNextF T6.out.s (by have := HLR.out; have := HS5.out; omega) (Nat.zero_le _) hfs)
                rw [← htk, ← HTC.out.1, ← HTC.out.2] at HNS
                have HDR := Lib.hid hdr
                have HLD : Hid ((lr.drop (endOf lr + 1)).length ≤ n) := by show _ ≤ _; rw [List.length_drop]; have := HLR.out; omega
                clear hfs hee htk hdr
                go_wp2_with (first | (go_at_call 12; refine HNS.out.mono ?_; rintro e w7 ⟨u7, vs7, rfl, ho7, hk7, hp7, hs7⟩; refine Hid.out ?_) | fail)
                refine Lib.hid ?_
                have T7 := Lib.hid (T6.out.stepS hk7 hp7 hs7)
                have hcv1 := conv_reads (Owns.keptR HO6.out hk7 HZ5.out.1 HZ5.out.2).reads
                have hcv2 := conv_reads ho7.reads
                clear ho7 hk7 hp7 hs7 HNS HO6 T6 T5 HZ5
                go_wp2
                go_roundw
                case rel => exact ⟨c, k + 1, vr6, vs7, _, _, rfl, by go_num, hcn, by omega, T7.out, HDR.out.symm, HLD.out⟩
                case measure => simp [intOf]; omega
              · have hno : ls5.length ≤ endOf lr := by rw [← HE5.out]; exact endOf_no _ _ hfs
                have HNM := Lib.hid (pNextM T6.out.s (by have := HLR.out; have := HS5.out; omega) (Nat.zero_le _) hfs)
                have HNO := Lib.hid hno
                clear hfs hno
                go_wp2_with (first | (go_at_call 12; refine HNM.out.mono ?_; rintro e w7 ⟨rfl, hk7, hp7⟩; refine Hid.out ?_) | fail)
                refine Lib.hid ?_
                have T7 := Lib.hid (T6.out.stepS hk7 hp7 (Or.inl rfl))
                have HO7 := Lib.hid (Owns.keptR HO6.out hk7 HZ5.out.1 HZ5.out.2)
                have HZW : Hid (w5.heap.size ≤ w7.heap.size) := Nat.le_trans HK6.out hk7.size
                have HBU : Hid (∀ b, u6.ownBlock = some b → b < w7.heap.size) := fun b hb => (HO7.out.ge b hb).2
                clear hk7 hp7 HNM HO6 T6 T5
                have HZ6 : Hid (w5.heap.size ≤ w7.heap.size) := HZW.out
                by_cases hqc : q1 = c
                case' pos => have hqcT := eq_true hqc
                case' neg => have hqcT := eq_false hqc
                all_goals
                  have hpt := reads_rest (HR.out.on T7.out.below) (a := c) hcn
                  first | rw [if_pos hqc] at hpt | rw [if_neg hqc] at hpt
                  have HFT := Lib.hid (pFeed g2 vs5 _ m ls5.length ls5 (l.drop c) w7 T7.out.s hpt (Or.inl (by have := HLR.out; have := HS5.out; have := HN.out; rw [List.length_drop]; omega)))
                  clear hqc hpt
                  go_wp2_with (first | (go_at_call 10; refine HFT.out.mono ?_; rintro e w8 ⟨rfl, hk8, vs8, hp8, hs8⟩; refine Hid.out ?_) | fail)
                  refine Lib.hid ?_
                  rw [HE5.out] at hp8
                  have T8 := Lib.hid (T7.out.stepS hk8 hp8 hs8)
                  have HO8 := Lib.hid (Owns.keptR HO7.out hk8 HZ5.out.1 HZ5.out.2)
                  have HNS := Lib.hid (pNextF T8.out.s (by have := HLR.out; omega) HNO.out HF.out)
                  rw [← HTC.out.1, ← HTC.out.2] at HNS
                  have HLD : Hid ((lr.drop (endOf lr + 1)).length ≤ n) := by show _ ≤ _; rw [List.length_drop]; have := HLR.out; omega
                  have HDN : Hid (lr.drop (endOf lr + 1) ++ l.drop n = lr.drop (endOf lr + 1)) := by show _ = _; rw [HN.out, List.drop_length, List.append_nil]
                  clear hk8 hp8 HFT HO7
                  go_wp2_with (first | (go_at_call 12; refine HNS.out.mono ?_; rintro e w9 ⟨u9, vs9, rfl, ho9, hk9, hp9, hs9⟩; refine Hid.out ?_) | fail)
                  refine Lib.hid ?_
                  have T9 := Lib.hid (T8.out.stepS hk9 hp9 hs9)
                  have hO9 : Owns w9 w5.heap.size u6 t := HO8.out.keptB fun b hb hlt => hk9.block b hlt (by have := (HO8.out.ge b hb).1; have := HZ5.out.1; omega) (fun e => (by
                    have hb1 := (HO8.out.ge b hb)
                    rcases hs8 with x | x
                    · have := HZ5.out.2 b (by rw [← x]; exact e); omega
                    · have := x b e; have := HBU.out b hb; omega))
                  have hcv1 := conv_reads hO9.reads
                  have hcv2 := conv_reads ho9.reads
                  clear ho9 hk9 hp9 hs9 hs8 HNS HO8 T8 hO9
                  go_wp2
                  go_roundw
                  case rel => exact ⟨n, k + 1, vr6, vs9, _, _, rfl, by go_num, Nat.le_refl _, by omega, T9.out, HDN.out, HLD.out⟩
                  case measure => simp [intOf]; omega
            · have HNM := Lib.hid (pNextM T5.out.r (by have := HLR.out; omega) (Nat.zero_le _) hf)
              clear hf
              go_wp2_with (first | (go_at_call 12; refine HNM.out.mono ?_; rintro e w6 ⟨rfl, hk6, hp6⟩; refine Hid.out ?_) | fail)
              refine Lib.hid ?_
              have T6 := Lib.hid (T5.out.stepR hk6 hp6 (Or.inl rfl))
              clear hk6 hp6 HNM T5
              by_cases hqt : q1 = c
              case' pos => have hqtT := eq_true hqt
              case' neg => have hqtT := eq_false hqt
              all_goals
                have hpt := reads_rest (HR.out.on T6.out.below) (a := c) hcn
                first | rw [if_pos hqt] at hpt | rw [if_neg hqt] at hpt
                have hlt1 := congrArg List.length HE5.out
                rw [List.length_append] at hlt1
                have HFT := Lib.hid (pFeed g2 vs5 _ m 0 ls5 (l.drop c) w6 T6.out.s hpt (Or.inl (by have := HLR.out; have := HL.out; omega)))
                have HLE : Hid ((ls5 ++ l.drop c).length = (lr).length) := by show _ = _; rw [HE5.out]
                clear hqt hpt hlt1 
                go_wp2_with (first | (go_at_call 10; refine HFT.out.mono ?_; rintro e wx ⟨rfl, hkx, vx, hpx, hsx⟩; refine Hid.out ?_) | fail)
                refine Lib.hid ?_
                have TX := Lib.hid (T6.out.stepS hkx hpx hsx)
                have HL1 := Lib.hid (pLeft g _ m _ _ wx TX.out.r)
                have HL2 := Lib.hid (pLeft g2 _ m _ _ wx TX.out.s)
                rw [HLE.out] at HL2
                clear hkx hpx hsx HFT
                go_wp2_with (first | (go_at_call 14; refine HL1.out.mono ?_; rintro e wy ⟨rfl, rfl⟩; refine Hid.out ?_) | fail)
                refine Lib.hid ?_
                go_wp2_with (first | (go_at_call 14; refine HL2.out.mono ?_; rintro e wy ⟨rfl, rfl⟩; refine Hid.out ?_) | fail)
                refine Lib.hid ?_
                go_wp2
                go_ret
                exact ⟨rfl, TX.out.below⟩
        · have i2 : ¬ z ≤ (n : Int) := hz2
          clear hz2
          go_wp2
          go_roundw
          case rel => exact ⟨a, k + 1, vr, vs, lr, ls, rfl, by go_num, han, by omega, T0, HE, HLR⟩
          case measure => simp [intOf]; omega
      · go_wp2
        go_roundw
        case rel => exact ⟨a, k + 1, vr, vs, lr, ls, rfl, by go_num, han, by omega, T0, HE, HLR⟩
        case measure => simp [intOf]; omega
    · have i1 : ¬ (k : Int) < (K : Int) := by omega
      clear hlt
      by_cases hqt : q1 = a
      case' pos => have hqtT := eq_true hqt
      case' neg => have hqtT := eq_false hqt
      all_goals
        have hpt := reads_rest (HR.out.on T0.out.below) (a := a) han
        first | rw [if_pos hqt] at hpt | rw [if_neg hqt] at hpt
        have hlt1 := congrArg List.length HE.out
        rw [List.length_append] at hlt1
        have HFT := Lib.hid (pFeed g2 vs _ m 0 ls (l.drop a) wr T0.out.s hpt (Or.inl (by have := HLR.out; have := HL.out; omega)))
        have HLE : Hid ((ls ++ l.drop a).length = (lr).length) := by show _ = _; rw [HE.out]
        clear hqt hpt hlt1 
        go_wp2_with (first | (go_at_call 10; refine HFT.out.mono ?_; rintro e wx ⟨rfl, hkx, vx, hpx, hsx⟩; refine Hid.out ?_) | fail)
        refine Lib.hid ?_
        have TX := Lib.hid (T0.out.stepS hkx hpx hsx)
        have HL1 := Lib.hid (pLeft g _ m _ _ wx TX.out.r)
        have HL2 := Lib.hid (pLeft g2 _ m _ _ wx TX.out.s)
        rw [HLE.out] at HL2
        clear hkx hpx hsx HFT
        go_wp2_with (first | (go_at_call 14; refine HL1.out.mono ?_; rintro e wy ⟨rfl, rfl⟩; refine Hid.out ?_) | fail)
        refine Lib.hid ?_
        go_wp2_with (first | (go_at_call 14; refine HL2.out.mono ?_; rintro e wy ⟨rfl, rfl⟩; refine Hid.out ?_) | fail)
        refine Lib.hid ?_
        go_wp2
        go_ret
        exact ⟨rfl, TX.out.below⟩
theorem piecesWalk (v : Value) (l : List UInt8) (AC : Option Addr) (cc : Nat) (zs : List Int) (most : Int) (w : World) (hr : Reads w v l) (hl : l.length ≤ 140737488351232) (hz : Ints w AC zs) (hzl : zs.length ≤ 9223372036854775807) (_ : (Lit.int .i64 most).wf = true) :
    Calls Try.prog 4 #[v, .slice AC zs.length cc, .int .i64 most] w fun e w' => e = .returned (.bool true) ∧ Below w.heap.size w w' := by
  by_cases h : most < 1 ∨ 65536 < most
  · exact piecesBad v AC _ cc most w h
  · obtain ⟨m, rfl⟩ := Int.eq_ofNat_of_zero_le (show 0 ≤ most by omega)
    obtain ⟨A1, q1, rfl⟩ := hr.form
    exact piecesGood A1 q1 l AC cc zs m w hr hl hz hzl (by omega) (by omega)
end Go.Proofs.Ytgiooblopdoobaa.Lines

