/-
  REPLY, the laws: no two replies have the same bytes, and none's are a beginning of another one's.
-/
import Derived.Test.YthkabehojmncmaaDoorRepLaw2
namespace Go.Proofs.YthkabehojmncmaaDoor.Reply
open Go.RowKit Base
theorem same_true {c d : Int} {ls ks : List (List UInt8)} (h1 : c = d) (h2 : ls = ks) : sameB c d ls ks = true := by
  unfold sameB; rw [decide_eq_true h1, decide_eq_true h2]; rfl
theorem conv_drewN {w : World} {v : Value} {l : List UInt8} (h : Reads w v l) (n : Nat) : (convert 27 9 v).run Tryd.prog (w.drewN n) = .ok (S l) (w.drewN n) :=
  conv_reads (h.on ⟨rfl, rfl, rfl, Nat.le_refl _, fun _ _ => rfl⟩)
set_option maxHeartbeats 16000000 in
set_option maxRecDepth 100000 in
theorem wApart (c : Int) (lv : Value) (ls : List (List UInt8)) (d : Int) (kv : Value) (ks : List (List UInt8)) (w : World) (hv : Vars w) (hr : VReads w lv (ls.map S)) (hn : ls.length ≤ 9000000000000000000) (hl : ∀ k, (ls.getD k []).length ≤ 9000000000000000000) (hq : VReads w kv (ks.map S)) (hm : ks.length ≤ 9000000000000000000) (hk : ∀ k, (ks.getD k []).length ≤ 9000000000000000000) :
    Calls Tryd.prog 8 #[replyV c lv, replyV d kv] w fun e w' => e = .returned (.bool true) ∧ Below w.heap.size w w' := by
  obtain ⟨la, lc, rfl⟩ := vform hr
  obtain ⟨ka, kc, rfl⟩ := vform hq
  obtain ⟨w1, hw1⟩ : ∃ w1, w1 = w.alloc (.cells #[.int .i64 c, .slice la ls.length lc] 24) := ⟨_, rfl⟩
  obtain ⟨wA, hwA⟩ : ∃ wA, wA = w1.alloc (.cells #[.int .i64 d, .slice ka ks.length kc] 24) := ⟨_, rfl⟩
  have hs1 : w1.heap.size = w.heap.size + 1 := by rw [hw1]; exact Array.size_push _
  have hb1 : Below w.heap.size w w1 := by rw [hw1]; exact Below.alloc1 w _
  have hb2 : Below w1.heap.size w1 wA := by rw [hwA]; exact Below.alloc1 w1 _
  have HBA : Hid (Below w.heap.size w wA) := hb1.trans (hb2.mono hb1.size)
  have hx1 : BoxR w1 w.heap.size c (.slice la ls.length lc) := by rw [hw1]; exact BoxR.new w c _
  have HXA : Hid (BoxR wA w.heap.size c (.slice la ls.length lc)) := hx1.on hb2
  have HXB : Hid (BoxR wA (w.heap.size + 1) d (.slice ka ks.length kc)) := by show BoxR _ _ _ _; rw [← hs1, hwA]; exact BoxR.new w1 d _
  have HVA : Hid (Vars wA) := hv.on HBA.out
  have HRA : Hid (VReads wA (.slice la ls.length lc) (ls.map S)) := vreads_on hr HBA.out
  have HKA : Hid (VReads wA (.slice ka ks.length kc) (ks.map S)) := vreads_on hq HBA.out
  rw [hw1] at hwA
  have HWA := Lib.hid hwA
  have HAW : Hid (∀ w1, Vars w1 → Calls Tryd.prog 9 #[] w1 fun e w' => e = .returned (.bool true) ∧ Below w1.heap.size w1 w') := fun w1 h => wAwake w1 h
  have HPL : Hid (∀ w1, Vars w1 → VReads w1 (.slice la ls.length lc) (ls.map S) → Calls Tryd.prog 12 #[.agg #[.int .i64 c, .slice la ls.length lc]] w1 fun e w' => ∃ v, e = .returned (.tuple #[v, .int .i64 (printE c ls)]) ∧ Reads w' v (printQ c ls) ∧ Below w1.heap.size w1 w') := fun w1 h1 h2 => (pPrint c _ ls w1 h1 h2 (by omega) (fun k => Nat.le_trans (hl k) (by omega))).mono fun e w' ⟨v, e1, e2, e3⟩ => ⟨v, e1, e2.reads, e3⟩
  have HPK : Hid (∀ w1, Vars w1 → VReads w1 (.slice ka ks.length kc) (ks.map S) → Calls Tryd.prog 12 #[.agg #[.int .i64 d, .slice ka ks.length kc]] w1 fun e w' => ∃ v, e = .returned (.tuple #[v, .int .i64 (printE d ks)]) ∧ Reads w' v (printQ d ks) ∧ Below w1.heap.size w1 w') := fun w1 h1 h2 => (pPrint d _ ks w1 h1 h2 (by omega) (fun k => Nat.le_trans (hk k) (by omega))).mono fun e w' ⟨v, e1, e2, e3⟩ => ⟨v, e1, e2.reads, e3⟩
  have HSM0 : Hid (∀ w1, VReads w1 (.slice la ls.length lc) (ls.map S) → VReads w1 (.slice ka ks.length kc) (ks.map S) → Calls Tryd.prog 16 #[.agg #[.int .i64 c, .slice la ls.length lc], .agg #[.int .i64 d, .slice ka ks.length kc]] w1 fun e w' => e = .returned (.bool (sameB c d ls ks)) ∧ Below w1.heap.size w1 w') := fun w1 h1 h2 => rSame c d _ _ ls ks w1 h1 h2 (by omega) (by omega)
  obtain ⟨g, hg⟩ : ∃ g, g = w.heap.size + 1 := ⟨_, rfl⟩
  rw [← hg] at HXB
  have HAP : Hid (rightB c ls = true → rightB d ks = true → ¬ ((printQ d ks).length < (printQ c ls).length) → (printQ d ks).take (printQ c ls).length = printQ c ls → sameB c d ls ks = true ∧ (printQ c ls).length = (printQ d ks).length) := fun h1 h2 h3 h4 => by
    have r1 := codeB_rng (right_parts h1).1
    have r2 := codeB_rng (right_parts h2).1
    obtain ⟨n, rfl⟩ : ∃ n : Nat, c = n := ⟨c.toNat, by omega⟩
    obtain ⟨m, rfl⟩ : ∃ m : Nat, d = m := ⟨d.toNat, by omega⟩
    rw [(printQ_nat h1).1, (printQ_nat h2).1] at h4 ⊢
    obtain ⟨e1, e2, e3⟩ := apart h1 h2 (List.prefix_iff_eq_take.2 h4.symm)
    exact ⟨same_true (by rw [e1]) e2, e3⟩
  have HE1 : Hid (rightB c ls = false → printE c ls = 141) := printE_no
  have HE2 : Hid (rightB d ks = false → printE d ks = 141) := printE_no
  have HY1 : Hid (rightB c ls = true → printE c ls = 0) := fun h => by unfold printE; rw [if_pos h]
  have HY2 : Hid (rightB d ks = true → printE d ks = 0) := fun h => by unfold printE; rw [if_pos h]
  generalize printQ c ls = P at HPL HAP
  generalize printQ d ks = Q at HPK HAP
  generalize printE c ls = e1 at HPL HE1 HY1
  generalize printE d ks = e2 at HPK HE2 HY2
  generalize sameB c d ls ks = sb at HSM0 HAP
  clear hr hq hs1 hb1 hb2 hx1 hw1 w1 hwA hn hm hl hk hv
  go_enter Tryd.func8, Tryd.ntmps8
  go_upto_region 1 with fail
  rw [← HWA.out, ← hg]
  clear HWA hg
  go_wp2_with (first | (go_at_call 9; refine (HAW.out _ HVA.out).mono ?_; rintro ee w1 ⟨rfl, hb⟩; refine Hid.out ?_) | fail)
  refine Lib.hid ?_
  have HA1 : Hid (Below wA.heap.size wA w1) := hb
  clear hb
  obtain ⟨x0, x1⟩ := (HXA.out.on HA1.out).cells
  go_wp2_with (first | (go_at_call 12; refine (HPL.out _ (HVA.out.on HA1.out) (vreads_on HRA.out HA1.out)).mono ?_; rintro ee w2 ⟨u, rfl, hru, hb⟩; refine Hid.out ?_) | fail)
  refine Lib.hid ?_
  obtain ⟨ua, uc, rfl⟩ := hru.form
  have HA2 : Hid (Below wA.heap.size wA w2) := HA1.out.trans (hb.mono HA1.out.size)
  have HRU := Lib.hid hru
  clear hb x0 x1 hru
  obtain ⟨x0, x1⟩ := (HXB.out.on HA2.out).cells
  go_wp2_with (first | (go_at_call 12; refine (HPK.out _ (HVA.out.on HA2.out) (vreads_on HKA.out HA2.out)).mono ?_; rintro ee w3 ⟨v, rfl, hrv, hb⟩; refine Hid.out ?_) | fail)
  refine Lib.hid ?_
  obtain ⟨va, vc, rfl⟩ := hrv.form
  have HA3 : Hid (Below wA.heap.size wA w3) := HA2.out.trans (hb.mono HA2.out.size)
  have HRU3 : Hid (Reads w3 (.slice ua P.length uc) P) := HRU.out.on hb
  have HRV := Lib.hid hrv
  clear hb x0 x1 hrv HRU HPL HPK
  have HW3 : Hid (Below w.heap.size w w3) := HBA.out.trans (HA3.out.mono HBA.out.size)
  cases hrl : rightB c ls with
  | false =>
    obtain rfl := HE1.out hrl
    clear hrl HE1 HY1 HE2 HY2 HAP
    go_wp2
    go_ret
    exact ⟨rfl, HW3.out⟩
  | true =>
    obtain rfl := HY1.out hrl
    cases hrk : rightB d ks with
    | false =>
      obtain rfl := HE2.out hrk
      clear hrl hrk HE1 HY1 HE2 HY2 HAP
      go_wp2
      go_ret
      exact ⟨rfl, HW3.out⟩
    | true =>
      obtain rfl := HY2.out hrk
      have HAP2 := Lib.hid (HAP.out hrl hrk)
      clear hrl hrk HE1 HY1 HE2 HY2 HAP
      have HDW : Hid (∀ n, Below w3.heap.size w3 (w3.drewN n)) := fun n => ⟨rfl, rfl, rfl, Nat.le_refl _, fun _ _ => rfl⟩
      have hvp := (reads_len HRV.out).2
      by_cases hlen : Q.length < P.length
      · have ql : (Q.length : Int) < (P.length : Int) := by omega
        have qd : decide ((Q.length : Int) < (P.length : Int)) = true := decide_eq_true ql
        clear HAP2 hlen
        go_wp2
        go_quiet (fail)
        go_wp2
        go_ret
        exact ⟨rfl, HW3.out.trans ((HDW.out _).mono HW3.out.size)⟩
      · have ql : ¬ (Q.length : Int) < (P.length : Int) := by omega
        have qd : decide (Q.length < P.length) = false := decide_eq_false hlen
        have HTK : Hid (Reads w3 (.slice va P.length vc) (Q.take P.length)) := reads_take HRV.out (by omega)
        have hc1 := conv_drewN HTK.out
        have hc2 := conv_drewN HRU3.out
        have b0 : (0 : Int) ≤ (P.length : Int) := by omega
        have b1 : (P.length : Int) ≤ (vc : Int) := by omega
        have b2 : P.length ≤ vc := by omega
        have HAP3 := Lib.hid (HAP2.out hlen)
        obtain ⟨T, hT⟩ : ∃ T, T = Q.take P.length := ⟨_, rfl⟩
        rw [← hT] at HTK hc1 HAP3
        clear HAP2 hlen hT
        cases htp : T == P with
        | false =>
          have q3 : (T != P) = true := by rw [bne_iff_ne]; intro e; rw [e] at htp; simp at htp
          clear HAP3
          go_wp2
          go_quiet (fail)
          go_wp2
          go_ret
          exact ⟨rfl, HW3.out.trans ((HDW.out _).mono HW3.out.size)⟩
        | true =>
          have hte : T = P := eq_of_beq htp
          have q3 : (T != P) = false := by rw [bne_eq_false_iff_eq]; exact hte
          obtain ⟨hsb, hle⟩ := HAP3.out hte
          have HSM : Hid (∀ w1, VReads w1 (.slice la ls.length lc) (ls.map S) → VReads w1 (.slice ka ks.length kc) (ks.map S) → Calls Tryd.prog 16 #[.agg #[.int .i64 c, .slice la ls.length lc], .agg #[.int .i64 d, .slice ka ks.length kc]] w1 fun e w' => e = .returned (.bool true) ∧ Below w1.heap.size w1 w') := by rw [hsb] at HSM0; exact HSM0
          have qe : ((P.length : Int) == (Q.length : Int)) = true := by rw [beq_iff_eq]; omega
          clear HAP3 hte hsb hle HSM0
          go_wp2
          go_quiet (fail)
          go_upto_region 8 with fail
          obtain ⟨w4, hw4⟩ : ∃ w4, w4 = w3.drewN nq := ⟨_, rfl⟩
          rw [← hw4]
          have hb4 := HDW.out nq
          rw [← hw4] at hb4
          have HA4 : Hid (Below wA.heap.size wA w4) := HA3.out.trans (hb4.mono HA3.out.size)
          have HW4 : Hid (Below w.heap.size w w4) := HW3.out.trans (hb4.mono HW3.out.size)
          obtain ⟨x0, x1⟩ := (HXA.out.on HA4.out).cells
          obtain ⟨y0, y1⟩ := (HXB.out.on HA4.out).cells
          clear hw4 hb4 hc1 hc2
          go_wp2_with (first | (go_at_call 16; refine (HSM.out _ (vreads_on HRA.out HA4.out) (vreads_on HKA.out HA4.out)).mono ?_; rintro ee w5 ⟨rfl, hb⟩; refine Hid.out ?_) | fail)
          refine Lib.hid ?_
          have HW5 : Hid (Below w.heap.size w w5) := HW4.out.trans (hb.mono HW4.out.size)
          clear hb x0 x1 y0 y1
          go_wp2
          go_ret
          exact ⟨rfl, HW5.out⟩
end Go.Proofs.YthkabehojmncmaaDoor.Reply
