/-
  REPLY, the given answers: a line.
-/
import Derived.Test.YthkabehojmncmaaDoorRepStat
namespace Go.Proofs.YthkabehojmncmaaDoor.Reply
open Go.RowKit Base
def lineV : Option (Nat × Bool × List UInt8) → Value
  | some p => .tuple #[.int .i64 (p.1 : Int), .bool p.2.1, S p.2.2, .bool true]
  | none => .tuple #[.int .i64 0, .bool false, .string ⟨#[]⟩, .bool false]
def dval (l : List UInt8) : Nat → Nat
  | 0 => 0
  | j + 1 => 10 * dval l j + ((l.getD j 0).toNat - 48)
theorem dval3 (l : List UInt8) : dval l 3 = num3 l := by unfold num3 dval dval dval dval; omega
theorem digC_lo {c : UInt8} (h : c.toNat < 48) : digC c = false := by unfold digC; exact decide_eq_false (by omega)
theorem digC_hi {c : UInt8} (h : 57 < c.toNat) : digC c = false := by unfold digC; exact decide_eq_false (by omega)
theorem digC_yes {c : UInt8} (h : 48 ≤ c.toNat) (h2 : c.toNat ≤ 57) : digC c = true := by unfold digC; exact decide_eq_true ⟨h, h2⟩
theorem digs3_no {l : List UInt8} {j : Nat} (hj : j < 3) (h : digC (l.getD j 0) = false) : digs3 l = false := by
  unfold digs3
  rcases (by omega : j = 0 ∨ j = 1 ∨ j = 2) with rfl | rfl | rfl
  · rw [h]; rfl
  · rw [h]; simp
  · rw [h]; simp
theorem digs3_yes {l : List UInt8} (h : ∀ j, j < 3 → digC (l.getD j 0) = true) : digs3 l = true := by
  unfold digs3
  rw [h 0 (by omega), h 1 (by omega), h 2 (by omega)]; rfl
theorem line_end {l : List UInt8} (h : endsB l = false) : lineR l = none := by unfold lineR; rw [h]; rfl
theorem line_dig {l : List UInt8} (h : digs3 l = false) : lineR l = none := by unfold lineR; rw [h]; simp
theorem line_code {l : List UInt8} (h : codeB (num3 l) = false) : lineR l = none := by unfold lineR; rw [h]; simp
theorem line_five {l : List UInt8} (h1 : endsB l = true) (h2 : digs3 l = true) (h3 : codeB (num3 l) = true) (h : l.length = 5) : lineR l = some (num3 l, false, []) := by
  unfold lineR; rw [h1, h2, h3, if_pos (by rfl), if_pos h]
theorem line_text {l : List UInt8} (h1 : endsB l = true) (h2 : digs3 l = true) (h3 : codeB (num3 l) = true) (h : l.length ≠ 5) : lineR l = if textB (textR l) && sepB (l.getD 3 0) then some (num3 l, decide ((l.getD 3 0).toNat = 45), textR l) else none := by
  unfold lineR; rw [h1, h2, h3, if_pos (by rfl), if_neg h]
theorem ends_len {l : List UInt8} (h : l.length < 5) : endsB l = false := by unfold endsB; rw [decide_eq_false (by omega)]; rfl
theorem ends_last {l : List UInt8} (h : ¬ (l.getD (l.length - 1) 0).toNat = 10) : endsB l = false := by unfold endsB; rw [decide_eq_false h]; simp
theorem ends_snd {l : List UInt8} (h : ¬ (l.getD (l.length - 2) 0).toNat = 13) : endsB l = false := by unfold endsB; rw [decide_eq_false h]; simp
theorem ends_yes {l : List UInt8} (h0 : 5 ≤ l.length) (h1 : (l.getD (l.length - 1) 0).toNat = 10) (h2 : (l.getD (l.length - 2) 0).toNat = 13) : endsB l = true := by unfold endsB; rw [decide_eq_true h0, decide_eq_true h1, decide_eq_true h2]; rfl
theorem mid_reads {w : World} {b o cc N M2 : Nat} {l : List UInt8} (hN : N = l.length) (h4 : 4 ≤ M2) (hM : M2 + 2 = N) (hcap : N ≤ cc) (hc : ∀ i, i < N → w.cell? ⟨b, o + i, none⟩ = some (.int .u8 ((l.getD i 0).toNat : Int))) :
    Reads w (.slice (some ⟨b, o + 4, none⟩) (M2 - 4) (cc - 4)) (textR l) := by
  have hl : (textR l).length = M2 - 4 := by unfold textR; rw [List.length_drop, List.length_take]; omega
  refine Or.inr ⟨b, o + 4, cc - 4, by rw [hl], by omega, fun i hi => ?_⟩
  rw [Nat.add_assoc, hc (4 + i) (by omega)]
  congr 3
  unfold textR
  simp only [List.getD_eq_getElem?_getD]
  rw [List.getElem?_drop, List.getElem?_take_of_lt (by omega)]
set_option maxHeartbeats 16000000 in
set_option maxRecDepth 100000 in
theorem rLine (v : Value) (l : List UInt8) (w : World) (hr : Reads w v l) (hl : l.length ≤ 9000000000000000000) : Calls Tryd.prog 30 #[v] w fun e w' => e = .returned (lineV (lineR l)) ∧ Below w.heap.size w w' := by
  obtain ⟨out, hout⟩ : ∃ out, out = lineR l := ⟨_, rfl⟩
  have HO := Lib.hid hout
  rw [← hout]
  clear hout
  have HNO : Hid (lineV none = .tuple #[.int .i64 0, .bool false, .string ⟨#[]⟩, .bool false]) := rfl
  obtain ⟨N, hN⟩ : ∃ N, N = l.length := ⟨_, rfl⟩
  by_cases h5 : N < 5
  · have HE : Hid (out = none) := by show _ = _; rw [HO.out]; exact line_end (ends_len (by omega))
    obtain ⟨A, cc, rfl⟩ := hr.form
    rw [← hN]
    have q5 : (N : Int) < 5 := by omega
    clear hr hN h5
    go_enter Tryd.func30, Tryd.ntmps30
    go_wp2
    ((try simp only [Exit.inBlock, Exit.then]); refine bodyPost_ret (results_tmp4 rfl _ _ _) rfl ?_)
    rw [HE.out, HNO.out]
    exact ⟨rfl, Below.refl _ _⟩
  · rcases hr with ⟨rfl, _⟩ | ⟨b, o, cc, rfl, hcap, hc⟩
    · simp at hN; omega
    rw [← hN] at hcap hc hl ⊢
    obtain ⟨M1, hM1⟩ : ∃ M1, M1 = N - 1 := ⟨_, rfl⟩
    obtain ⟨M2, hM2⟩ : ∃ M2, M2 = N - 2 := ⟨_, rfl⟩
    have HN := Lib.hid hN
    have HM1 := Lib.hid hM1
    have HM2 := Lib.hid hM2
    have q5 : ¬ (N : Int) < 5 := by omega
    have m1 : (N : Int) - 1 = (M1 : Int) := by omega
    have m2 : (N : Int) - 2 = (M2 : Int) := by omega
    have m3 : (M1 : Int) < (N : Int) := by omega
    have m4 : (M2 : Int) < (N : Int) := by omega
    have m5 : (0 : Int) ≤ (M1 : Int) := by omega
    have m6 : (0 : Int) ≤ (M2 : Int) := by omega
    have HC := Lib.hid hc
    have cell1 := hc M1 (by omega)
    have cell2 := hc M2 (by omega)
    have HL1 : Hid (∀ h : ¬ (l.getD M1 0).toNat = 10, out = none) := fun h => by
      rw [HO.out]
      exact line_end (ends_last (by rw [← HN.out, ← HM1.out]; exact h))
    have HL2 : Hid (∀ h : ¬ (l.getD M2 0).toNat = 13, out = none) := fun h => by
      rw [HO.out]
      exact line_end (ends_snd (by rw [← HN.out, ← HM2.out]; exact h))
    have HLY : Hid ((l.getD M1 0).toNat = 10 → (l.getD M2 0).toNat = 13 → endsB l = true) := fun h1 h2 => by
      have := HN.out
      have := HM1.out
      have := HM2.out
      exact ends_yes (by omega) (by rw [← HN.out, ← HM1.out]; exact h1) (by rw [← HN.out, ← HM2.out]; exact h2)
    have hb1 := (l.getD M1 0).toNat_lt
    have hb2 := (l.getD M2 0).toNat_lt
    generalize (l.getD M1 0).toNat = x1 at cell1 HL1 HLY hb1
    generalize (l.getD M2 0).toNat = x2 at cell2 HL2 HLY hb2
    clear hN hM1 hM2 hc
    by_cases e1 : x1 = 10
    · have f1 : ((x1 : Int) != 10) = false := by rw [bne_eq_false_iff_eq]; omega
      by_cases e2 : x2 = 13
      · have f2 : ((x2 : Int) != 13) = false := by rw [bne_eq_false_iff_eq]; omega
        have HEND : Hid (endsB l = true) := HLY.out e1 e2
        have hNb : ¬ N < 5 := h5
        clear HL1 HL2 HLY e1 e2
        go_enter Tryd.func30, Tryd.ntmps30
        go_wp2
        go_loop [7, 8] (fun cv iv => ∃ j : Nat, j ≤ 3 ∧ cv = .int .i64 ((dval l j : Nat) : Int) ∧ iv = .int .i64 (j : Int) ∧ Hid (∀ i, i < j → digC (l.getD i 0) = true) ∧ Hid (dval l j < 10 ^ j)) (fun _ iv => 3 - (intOf iv).toNat)
        case atStart => exact ⟨0, by omega, rfl, rfl, fun i hi => by omega, by show 0 < 10 ^ 0; decide⟩
        case round =>
          obtain ⟨j, hj, rfl, rfl, hd, hp⟩ := hrel
          clear cell1 cell2
          by_cases hlt : j < 3
          · have i0 : (0 : Int) ≤ (j : Int) := by omega
            have i1 : (j : Int) < 3 := by omega
            have i2 : (j : Int) < (N : Int) := by omega
            have hcell := HC.out j (by omega)
            have HNX : Hid (dval l (j + 1) = 10 * dval l j + ((l.getD j 0).toNat - 48)) := rfl
            obtain ⟨dn, hdn⟩ : ∃ dn, dn = dval l (j + 1) := ⟨_, rfl⟩
            have HDN := Lib.hid hdn
            rw [← hdn] at HNX
            clear hdn
            have hnb : dval l j ≤ 99 := by
              have := hp.out
              rcases (by omega : j = 0 ∨ j = 1 ∨ j = 2) with rfl | rfl | rfl <;> simp at this <;> omega
            have HNOT : Hid (digC (l.getD j 0) = false → out = none) := fun h => by rw [HO.out]; exact line_dig (digs3_no hlt h)
            have hxb := (l.getD j 0).toNat_lt
            have HDX : Hid (∀ u : Nat, u = (l.getD j 0).toNat → (u < 48 → digC (l.getD j 0) = false) ∧ (57 < u → digC (l.getD j 0) = false) ∧ (48 ≤ u → u ≤ 57 → digC (l.getD j 0) = true)) := fun u hu => ⟨fun h => digC_lo (by omega), fun h => digC_hi (by omega), fun h1 h2 => digC_yes (by omega) (by omega)⟩
            obtain ⟨x, hx⟩ : ∃ x, x = (l.getD j 0).toNat := ⟨_, rfl⟩
            have HDY := Lib.hid (HDX.out x hx)
            rw [← hx] at hcell HNX hxb
            clear hx HDX
            obtain ⟨dj, hdj⟩ : ∃ dj, dj = dval l j := ⟨_, rfl⟩
            rw [← hdj] at hp HNX hnb ⊢
            clear hdj
            by_cases g1 : x < 48
            · have k1 : (x : Int) < 48 := by omega
              have HE : Hid (out = none) := HNOT.out (HDY.out.1 g1)
              clear g1 HNOT HDY hd hp HNX
              go_wp2
              ((try simp only [Exit.inBlock, Exit.then]); refine bodyPost_ret (results_tmp4 rfl _ _ _) rfl ?_)
              rw [HE.out, HNO.out]
              exact ⟨rfl, Below.refl _ _⟩
            · have k1 : ¬ (x : Int) < 48 := by omega
              by_cases g2 : 57 < x
              · have k2 : (57 : Int) < (x : Int) := by omega
                have HE : Hid (out = none) := HNOT.out (HDY.out.2.1 g2)
                clear g1 g2 HNOT HDY hd hp HNX
                go_wp2
                ((try simp only [Exit.inBlock, Exit.then]); refine bodyPost_ret (results_tmp4 rfl _ _ _) rfl ?_)
                rw [HE.out, HNO.out]
                exact ⟨rfl, Below.refl _ _⟩
              · have k2 : ¬ (57 : Int) < (x : Int) := by omega
                have HY : Hid (digC (l.getD j 0) = true) := HDY.out.2.2 (by omega) (by omega)
                have HD2 : Hid (∀ i, i < j + 1 → digC (l.getD i 0) = true) := fun i hi => by
                  rcases Nat.lt_or_ge i j with h | h
                  · exact hd.out i h
                  · rw [show i = j by omega]; exact HY.out
                have HP2 : Hid (dn < 10 ^ (j + 1)) := by
                  show _ < _
                  have := hp.out
                  have := HNX.out
                  rw [Nat.pow_succ]
                  omega
                have HV : Hid (10 * (dj : Int) + (x : Int) - 48 = (dn : Int)) := by show _ = _; have := HNX.out; omega
                clear g1 g2 HNOT HDY hd hp
                go_wp2
                go_round
                case rel => exact ⟨j + 1, by omega, by rw [← HDN.out]; have := HV.out; go_num, by go_num, HD2, by rw [← HDN.out]; exact HP2⟩
                case measure => simp [intOf]; omega
          · obtain rfl : j = 3 := by omega
            have i1 : ¬ (3 : Int) < 3 := by omega
            have HDG : Hid (digs3 l = true) := digs3_yes hd.out
            have HNU := Lib.hid (dval3 l)
            obtain ⟨cd, hcd⟩ : ∃ cd, cd = dval l 3 := ⟨_, rfl⟩
            have HCD := Lib.hid hcd
            rw [← hcd] at HNU hp ⊢
            clear hcd hd hlt hj i1
            have hcb : cd < 1000 := hp.out
            have HCODE := Lib.hid (rCode (cd : Int) w)
            cases hcode : codeB (cd : Int) with
            | false =>
              have HE : Hid (out = none) := by show _ = _; rw [HO.out]; exact line_code (by rw [← HNU.out]; exact hcode)
              rw [hcode] at HCODE
              clear hcode
              go_wp2_with (first | (go_at_call 23; refine HCODE.out.mono ?_; rintro ee w1 ⟨rfl, rfl⟩; refine Hid.out ?_) | fail)
              refine Lib.hid ?_
              go_wp2
              ((try simp only [Exit.inBlock, Exit.then]); refine bodyPost_ret (results_tmp4 rfl _ _ _) rfl ?_)
              rw [HE.out, HNO.out]
              exact ⟨rfl, Below.refl _ _⟩
            | true =>
              have HCB : Hid (codeB (num3 l) = true) := by show _ = _; rw [← HNU.out]; exact hcode
              rw [hcode] at HCODE
              clear hcode
              by_cases h55 : N = 5
              · have k5 : ((N : Int) == 5) = true := by rw [beq_iff_eq]; omega
                have HE : Hid (lineV out = .tuple #[.int .i64 (cd : Int), .bool false, .string ⟨#[]⟩, .bool true]) := by
                  show _ = _
                  rw [HO.out, line_five HEND.out HDG.out HCB.out (by rw [← HN.out]; exact h55), ← HNU.out]; rfl
                clear h55
                go_wp2_with (first | (go_at_call 23; refine HCODE.out.mono ?_; rintro ee w1 ⟨rfl, rfl⟩; refine Hid.out ?_) | fail)
                refine Lib.hid ?_
                go_wp2
                ((try simp only [Exit.inBlock, Exit.then]); refine bodyPost_ret (results_tmp4 rfl _ _ _) rfl ?_)
                rw [HE.out]
                exact ⟨rfl, Below.refl _ _⟩
              · have k5 : ((N : Int) == 5) = false := by rw [beq_eq_false_iff_ne]; omega
                have k6 : (4 : Int) ≤ (M2 : Int) := by have := HM2.out; omega
                have k7 : (M2 : Int) ≤ (cc : Int) := by have := HM2.out; omega
                have k8 : M2 ≤ cc := by have := HM2.out; omega
                have k9 : (cc = 4) = False := eq_false (by omega)
                have hRD : Reads w (.slice (some ⟨b, o + 4, none⟩) (M2 - 4) (cc - 4)) (textR l) := mid_reads HN.out (by omega) (by have := HM2.out; omega) hcap HC.out
                have hcv := conv_reads hRD
                have HLN : Hid (out = if textB (textR l) && sepB (l.getD 3 0) then some (num3 l, decide ((l.getD 3 0).toNat = 45), textR l) else none) := by
                  show _ = _
                  rw [HO.out, line_text HEND.out HDG.out HCB.out (by rw [← HN.out]; exact h55)]
                have htl : (textR l).length ≤ 9000000000000000000 := by unfold textR; rw [List.length_drop, List.length_take]; have := HN.out; omega
                have HTX : Hid (∀ w1, Calls Tryd.prog 24 #[S (textR l)] w1 (AskEnd (textB (textR l)) w1)) := fun w1 => rText ⟨(textR l).toArray⟩ w1 (by rw [← str_len]; show (textR l).length ≤ _; omega)
                have cell3 := HC.out 3 (by omega)
                have HDW : Hid (∀ n, Below w.heap.size w (w.drewN n)) := fun n => ⟨rfl, rfl, rfl, Nat.le_refl _, fun _ _ => rfl⟩
                have k3 : (3 : Int) < (N : Int) := by omega
                rw [← HNU.out] at HLN
                generalize textB (textR l) = tb at HTX HLN
                generalize textR l = tx at hcv HTX HLN
                have hyb := (l.getD 3 0).toNat_lt
                have HLM : Hid (out = if tb && decide ((l.getD 3 0).toNat = 45 ∨ (l.getD 3 0).toNat = 32) then some (cd, decide ((l.getD 3 0).toNat = 45), tx) else none) := HLN.out
                generalize (l.getD 3 0).toNat = y at cell3 HLM hyb
                clear HLN h55 hRD htl
                cases tb with
                | false =>
                  have HE : Hid (out = none) := HLM.out
                  clear HLM
                  go_wp2_with (first | (go_at_call 23; refine HCODE.out.mono ?_; rintro ee w1 ⟨rfl, rfl⟩; refine Hid.out ?_) | fail)
                  refine Lib.hid ?_
                  go_wp2_with (first | (go_at_call 24; refine (HTX.out _).mono ?_; rintro ee w1 ⟨rfl, rfl⟩; refine Hid.out ?_) | fail)
                  refine Lib.hid ?_
                  go_wp2
                  ((try simp only [Exit.inBlock, Exit.then]); refine bodyPost_ret (results_tmp4 rfl _ _ _) rfl ?_)
                  rw [HE.out, HNO.out]
                  exact ⟨rfl, Below.refl _ _⟩
                | true =>
                  by_cases y1 : y = 45
                  · have u1 : ((y : Int) != 45) = false := by rw [bne_eq_false_iff_eq]; omega
                    have u2 : ((y : Int) == 45) = true := by rw [beq_iff_eq]; omega
                    have HE : Hid (lineV out = .tuple #[.int .i64 (cd : Int), .bool true, S tx, .bool true]) := by
                      show _ = _
                      rw [HLM.out, decide_eq_true (Or.inl y1), decide_eq_true y1]; rfl
                    clear HLM y1
                    go_wp2_with (first | (go_at_call 23; refine HCODE.out.mono ?_; rintro ee w1 ⟨rfl, rfl⟩; refine Hid.out ?_) | fail)
                    refine Lib.hid ?_
                    go_wp2_with (first | (go_at_call 24; refine (HTX.out _).mono ?_; rintro ee w1 ⟨rfl, rfl⟩; refine Hid.out ?_) | fail)
                    refine Lib.hid ?_
                    go_wp2
                    go_quiet (fail)
                    go_wp2
                    ((try simp only [Exit.inBlock, Exit.then]); refine bodyPost_ret (results_tmp4 rfl _ _ _) rfl ?_)
                    rw [HE.out]
                    exact ⟨rfl, HDW.out _⟩
                  · have u1 : ((y : Int) != 45) = true := by rw [bne_iff_ne]; omega
                    have u2 : ((y : Int) == 45) = false := by rw [beq_eq_false_iff_ne]; omega
                    by_cases y2 : y = 32
                    · have u3 : ((y : Int) != 32) = false := by rw [bne_eq_false_iff_eq]; omega
                      have HE : Hid (lineV out = .tuple #[.int .i64 (cd : Int), .bool false, S tx, .bool true]) := by
                        show _ = _
                        rw [HLM.out, decide_eq_true (Or.inr y2), decide_eq_false y1]; rfl
                      clear HLM y1 y2
                      go_wp2_with (first | (go_at_call 23; refine HCODE.out.mono ?_; rintro ee w1 ⟨rfl, rfl⟩; refine Hid.out ?_) | fail)
                      refine Lib.hid ?_
                      go_wp2_with (first | (go_at_call 24; refine (HTX.out _).mono ?_; rintro ee w1 ⟨rfl, rfl⟩; refine Hid.out ?_) | fail)
                      refine Lib.hid ?_
                      go_wp2
                      go_quiet (fail)
                      go_wp2
                      ((try simp only [Exit.inBlock, Exit.then]); refine bodyPost_ret (results_tmp4 rfl _ _ _) rfl ?_)
                      rw [HE.out]
                      exact ⟨rfl, HDW.out _⟩
                    · have u3 : ((y : Int) != 32) = true := by rw [bne_iff_ne]; omega
                      have HE : Hid (out = none) := by
                        show _ = _
                        rw [HLM.out, decide_eq_false (by omega)]; rfl
                      clear HLM y1 y2
                      go_wp2_with (first | (go_at_call 23; refine HCODE.out.mono ?_; rintro ee w1 ⟨rfl, rfl⟩; refine Hid.out ?_) | fail)
                      refine Lib.hid ?_
                      go_wp2_with (first | (go_at_call 24; refine (HTX.out _).mono ?_; rintro ee w1 ⟨rfl, rfl⟩; refine Hid.out ?_) | fail)
                      refine Lib.hid ?_
                      go_wp2
                      ((try simp only [Exit.inBlock, Exit.then]); refine bodyPost_ret (results_tmp4 rfl _ _ _) rfl ?_)
                      rw [HE.out, HNO.out]
                      exact ⟨rfl, Below.refl _ _⟩
      · have f2 : ((x2 : Int) != 13) = true := by rw [bne_iff_ne]; omega
        have HE : Hid (out = none) := HL2.out e2
        clear HL1 HL2 HLY e1 e2
        go_enter Tryd.func30, Tryd.ntmps30
        go_wp2
        ((try simp only [Exit.inBlock, Exit.then]); refine bodyPost_ret (results_tmp4 rfl _ _ _) rfl ?_)
        rw [HE.out, HNO.out]
        exact ⟨rfl, Below.refl _ _⟩
    · have f1 : ((x1 : Int) != 10) = true := by rw [bne_iff_ne]; omega
      have HE : Hid (out = none) := HL1.out e1
      clear HL1 HL2 HLY e1
      go_enter Tryd.func30, Tryd.ntmps30
      go_wp2
      ((try simp only [Exit.inBlock, Exit.then]); refine bodyPost_ret (results_tmp4 rfl _ _ _) rfl ?_)
      rw [HE.out, HNO.out]
      exact ⟨rfl, Below.refl _ _⟩
end Go.Proofs.YthkabehojmncmaaDoor.Reply
