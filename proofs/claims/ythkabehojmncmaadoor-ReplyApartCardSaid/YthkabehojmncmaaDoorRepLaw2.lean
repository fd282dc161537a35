/-
  REPLY, the laws: what is read, printed and read again; what is printed is read again; no two are alike.
-/
import Derived.Test.YthkabehojmncmaaDoorRepLaw
namespace Go.Proofs.YthkabehojmncmaaDoor.Reply
open Go.RowKit Base
theorem printQ_nat {n : Nat} {ls : List (List UInt8)} (h : rightB n ls = true) : printQ (n : Int) ls = printB n ls ∧ printE (n : Int) ls = 0 := by
  unfold printQ printE
  rw [if_pos h, if_pos h]
  exact ⟨rfl, rfl⟩
theorem printE_no {c : Int} {ls : List (List UInt8)} (h : rightB c ls = false) : printE c ls = 141 := by unfold printE; rw [if_neg (by rw [h]; decide)]
theorem printB_len {n : Nat} {ls : List (List UInt8)} (h : rightB n ls = true) : (printB n ls).length ≤ 25600 := by
  obtain ⟨_, _, h3, h4⟩ := right_parts h
  have := outK_len n h4 ls.length
  unfold printB
  omega
theorem right_len50 {c : Int} {ls : List (List UInt8)} (h : rightB c ls = true) : ls.length ≤ 50 ∧ ∀ k, (ls.getD k []).length ≤ 506 := by
  obtain ⟨_, _, h3, h4⟩ := right_parts h
  exact ⟨h3, fun k => textB_len (all_get h4 k)⟩
theorem pPrintB {n : Nat} {ls : List (List UInt8)} (h : rightB n ls = true) (lv : Value) (w : World) (hv : Vars w) (hr : VReads w lv (ls.map S)) :
    Calls Tryd.prog 12 #[.agg #[.int .i64 (n : Int), lv]] w fun e w' => ∃ v, e = .returned (.tuple #[v, .int .i64 0]) ∧ Reads w' v (printB n ls) ∧ Below w.heap.size w w' := by
  obtain ⟨h1, h2⟩ := right_len50 h
  obtain ⟨q1, q2⟩ := printQ_nat h
  exact (pPrint (n : Int) lv ls w hv hr (by omega) (fun k => Nat.le_trans (h2 k) (by decide))).mono fun e w' ⟨v, e1, e2, e3⟩ => ⟨v, by rw [e1, q2], by rw [← q1]; exact e2.reads, e3⟩
set_option maxHeartbeats 8000000 in
set_option maxRecDepth 100000 in
theorem wSame (v : Value) (b : List UInt8) (w : World) (hv : Vars w) (hr : Reads w v b) (hl : b.length ≤ 8000000000000000000) :
    Calls Tryd.prog 7 #[v] w fun e w' => e = .returned (.bool true) ∧ Below w.heap.size w w' := by
  have HV := Lib.hid hv
  have HR := Lib.hid hr
  have HAW : Hid (∀ w1, Vars w1 → Calls Tryd.prog 9 #[] w1 fun e w' => e = .returned (.bool true) ∧ Below w1.heap.size w1 w') := fun w1 h => wAwake w1 h
  have HPR : Hid (∀ w1, Reads w1 v b → Calls Tryd.prog 14 #[v] w1 (ReadEnd (readR b) w1)) := fun w1 h => pRead v b w1 h hl
  have HOK : Hid (∀ c ls n, readR b = (c, ls, n, 0) → rightB c ls = true ∧ 1 ≤ n ∧ n ≤ b.length) := fun c ls n h => readR_ok h
  obtain ⟨N, hN⟩ : ∃ N, N = b.length := ⟨_, rfl⟩
  obtain ⟨A, cc, hvf⟩ := hr.form
  rw [← hN] at hvf HOK hl
  subst hvf
  clear hv hr hN
  cases hR : readR b with
  | mk c R1 =>
  obtain ⟨ls, n, z⟩ := R1
  rw [hR] at HPR HOK
  clear hR
  by_cases hz : z = 0
  · subst hz
    obtain ⟨hrt, hn1, hn2⟩ := HOK.out c ls n rfl
    have h50 := right_len50 hrt
    have HPP : Hid (∀ lv w1, Vars w1 → VReads w1 lv (ls.map S) → Calls Tryd.prog 12 #[.agg #[.int .i64 (c : Int), lv]] w1 fun e w' => ∃ v, e = .returned (.tuple #[v, .int .i64 0]) ∧ Reads w' v (printB c ls) ∧ Below w1.heap.size w1 w') := fun lv w1 h1 h2 => pPrintB hrt lv w1 h1 h2
    have hpl := printB_len hrt
    have hbk := back hrt []
    rw [List.append_nil] at hbk
    have HP2 : Hid (∀ u w1, Reads w1 u (printB c ls) → Calls Tryd.prog 14 #[u] w1 (ReadEnd (c, ls, (printB c ls).length, 0) w1)) := fun u w1 h => by
      rw [← hbk]; exact pRead u (printB c ls) w1 h (by omega)
    have HSM : Hid (∀ lv kv w1, VReads w1 lv (ls.map S) → VReads w1 kv (ls.map S) → Calls Tryd.prog 16 #[.agg #[.int .i64 (c : Int), lv], .agg #[.int .i64 (c : Int), kv]] w1 fun e w' => e = .returned (.bool true) ∧ Below w1.heap.size w1 w') := fun lv kv w1 h1 h2 => by
      have := rSame (c : Int) (c : Int) lv kv ls ls w1 h1 h2 (by have := h50.1; omega) (by have := h50.1; omega)
      rw [show sameB (c : Int) (c : Int) ls ls = true by unfold sameB; simp] at this
      exact this
    generalize printB c ls = P at HPP HP2 hpl
    have q1 : (1 : Int) ≤ (n : Int) := by omega
    have q2 : (n : Int) ≤ (N : Int) := by omega
    clear hbk h50 hrt HOK hn1 hn2
    go_enter Tryd.func7, Tryd.ntmps7
    go_wp2_with (first | (go_at_call 9; refine (HAW.out _ HV.out).mono ?_; rintro ee w1 ⟨rfl, hb⟩; refine Hid.out ?_) | fail)
    refine Lib.hid ?_
    have HB1 : Hid (Below w.heap.size w w1) := hb
    clear hb
    go_wp2_with (first | (go_at_call 14; refine (HPR.out _ (HR.out.on HB1.out)).mono ?_; rintro ee w2 ⟨lv, rfl, hrl, hb⟩; refine Hid.out ?_) | fail)
    refine Lib.hid ?_
    obtain ⟨la, lc, rfl⟩ := vform hrl
    have HB2 : Hid (Below w.heap.size w w2) := HB1.out.trans (hb.mono HB1.out.size)
    have HRL := Lib.hid hrl
    clear hb hrl
    go_upto_region 3 with fail
    obtain ⟨wB, hwB⟩ : ∃ wB, wB = w2.alloc (.cells #[.int .i64 (c : Int), .slice la ls.length lc] 24) := ⟨_, rfl⟩
    rw [← hwB]
    have hbb := Below.alloc1 w2 (.cells #[.int .i64 (c : Int), .slice la ls.length lc] 24)
    rw [← hwB] at hbb
    have HBB : Hid (Below w.heap.size w wB) := HB2.out.trans (hbb.mono HB2.out.size)
    have HX4 : Hid (BoxR wB w2.heap.size (c : Int) (.slice la ls.length lc)) := by show BoxR _ _ _ _; rw [hwB]; exact BoxR.new w2 _ _
    have HRL2 : Hid (VReads wB (.slice la ls.length lc) (ls.map S)) := vreads_on HRL.out hbb
    have HVB : Hid (Vars wB) := HV.out.on HBB.out
    obtain ⟨g4, hg4⟩ : ∃ g4, g4 = w2.heap.size := ⟨_, rfl⟩
    rw [← hg4] at HX4 ⊢
    clear hwB hbb hg4 HRL
    obtain ⟨x0, x1⟩ := HX4.out.cells
    go_wp2_with (first | (go_at_call 12; refine (HPP.out _ _ HVB.out HRL2.out).mono ?_; rintro ee w3 ⟨u, rfl, hru, hb⟩; refine Hid.out ?_) | fail)
    refine Lib.hid ?_
    obtain ⟨ua, uc, rfl⟩ := hru.form
    have HB3 : Hid (Below w.heap.size w w3) := HBB.out.trans (hb.mono HBB.out.size)
    have HX3 : Hid (BoxR w3 g4 (c : Int) (.slice la ls.length lc)) := HX4.out.on hb
    have HRL3 : Hid (VReads w3 (.slice la ls.length lc) (ls.map S)) := vreads_on HRL2.out hb
    have HRU := Lib.hid hru
    clear hb hru HX4 HRL2 x0 x1
    go_wp2_with (first | (go_at_call 14; refine (HP2.out _ _ HRU.out).mono ?_; rintro ee w4 ⟨kv, rfl, hrl, hb⟩; refine Hid.out ?_) | fail)
    refine Lib.hid ?_
    obtain ⟨ka, kc, rfl⟩ := vform hrl
    have HB4 : Hid (Below w.heap.size w w4) := HB3.out.trans (hb.mono HB3.out.size)
    have HX44 : Hid (BoxR w4 g4 (c : Int) (.slice la ls.length lc)) := HX3.out.on hb
    have HRL4 : Hid (VReads w4 (.slice la ls.length lc) (ls.map S)) := vreads_on HRL3.out hb
    have HRK := Lib.hid hrl
    clear hb hrl HX3 HRL3
    go_upto_region 7 with fail
    obtain ⟨wC, hwC⟩ : ∃ wC, wC = w4.alloc (.cells #[.int .i64 (c : Int), .slice ka ls.length kc] 24) := ⟨_, rfl⟩
    rw [← hwC]
    have hbb := Below.alloc1 w4 (.cells #[.int .i64 (c : Int), .slice ka ls.length kc] 24)
    rw [← hwC] at hbb
    have HBC : Hid (Below w.heap.size w wC) := HB4.out.trans (hbb.mono HB4.out.size)
    have hx4 : BoxR wC g4 (c : Int) (.slice la ls.length lc) := HX44.out.on hbb
    have hx7 : BoxR wC w4.heap.size (c : Int) (.slice ka ls.length kc) := by rw [hwC]; exact BoxR.new w4 _ _
    have HRL5 : Hid (VReads wC (.slice la ls.length lc) (ls.map S)) := vreads_on HRL4.out hbb
    have HRK5 : Hid (VReads wC (.slice ka ls.length kc) (ls.map S)) := vreads_on HRK.out hbb
    obtain ⟨g7, hg7⟩ : ∃ g7, g7 = w4.heap.size := ⟨_, rfl⟩
    rw [← hg7] at hx7 ⊢
    obtain ⟨x0, x1⟩ := hx4.cells
    obtain ⟨y0, y1⟩ := hx7.cells
    clear hwC hbb hg7 HRL4 HRK HX44 hx4 hx7
    go_wp2_with (first | (go_at_call 16; refine (HSM.out _ _ _ HRL5.out HRK5.out).mono ?_; rintro ee w5 ⟨rfl, hb⟩; refine Hid.out ?_) | fail)
    refine Lib.hid ?_
    have HB5 : Hid (Below w.heap.size w w5) := HBC.out.trans (hb.mono HBC.out.size)
    clear hb
    go_wp2
    go_ret
    exact ⟨by first | rfl | simp, HB5.out⟩
  · have qz : ((z : Int) != 0) = true := by rw [bne_iff_ne]; omega
    clear hz HOK
    go_enter Tryd.func7, Tryd.ntmps7
    go_wp2_with (first | (go_at_call 9; refine (HAW.out _ HV.out).mono ?_; rintro ee w1 ⟨rfl, hb⟩; refine Hid.out ?_) | fail)
    refine Lib.hid ?_
    have HB1 : Hid (Below w.heap.size w w1) := hb
    clear hb
    go_wp2_with (first | (go_at_call 14; refine (HPR.out _ (HR.out.on HB1.out)).mono ?_; rintro ee w2 ⟨lv, rfl, hrl, hb⟩; refine Hid.out ?_) | fail)
    refine Lib.hid ?_
    obtain ⟨la, lc, rfl⟩ := vform hrl
    have HB2 : Hid (Below w.heap.size w w2) := HB1.out.trans (hb.mono HB1.out.size)
    have HBF : Hid (Below w.heap.size w (w2.alloc (.cells #[.int .i64 (c : Int), .slice la ls.length lc] 24))) := HB2.out.trans ((Below.alloc1 w2 _).mono HB2.out.size)
    clear hb hrl
    go_wp2
    go_ret
    exact ⟨rfl, HBF.out⟩
end Go.Proofs.YthkabehojmncmaaDoor.Reply
