/-
  REPLY, the laws: a reply is printed; what is printed, what is read, classes.
-/
import Derived.Test.YthkabehojmncmaaDoorRepSame
import Derived.Test.YthkabehojmncmaaDoorRepReadR
import Derived.Test.YthkabehojmncmaaDoorRepStatR
import Derived.Deep.CutBlock
import Derived.Deep.DeepCutAuto
namespace Go.Proofs.YthkabehojmncmaaDoor.Reply
open Go.RowKit Base
theorem vreads_on {w w' : World} {v : Value} {xs : List Value} (h : VReads w v xs) (hb : Below w.heap.size w w') : VReads w' v xs := h.kept fun b _ hb' => hb.block b hb'
theorem ok_print : printQ 250 [[79, 107]] = [50, 53, 48, 32, 79, 107, 13, 10] := by decide +kernel
theorem ok_err : printE 250 [[79, 107]] = 0 := by decide +kernel
set_option maxHeartbeats 4000000 in
set_option maxRecDepth 100000 in
theorem wAwake (w : World) (hv : Vars w) : Calls Tryd.prog 9 #[] w fun e w' => e = .returned (.bool true) ∧ Below w.heap.size w w' := by
  have hba := Below.alloc1 w (.cells #[.string ⟨#[79, 107]⟩] 9)
  have hp := pPrint 250 (.slice (some ⟨w.heap.size, 0, none⟩) 1 1) [[79, 107]] (w.alloc (.cells #[.string ⟨#[79, 107]⟩] 9)) (hv.on hba) (vreads_one w _ _) (by decide) (fun k => by
    rcases k with _ | k
    · decide
    · simp)
  have HP : Hid (Calls Tryd.prog 12 #[.agg #[.int .i64 250, .slice (some ⟨w.heap.size, 0, none⟩) 1 1]] (w.alloc (.cells #[.string ⟨#[79, 107]⟩] 9)) fun e w' => ∃ v, e = .returned (.tuple #[v, .int .i64 0]) ∧ Reads w' v [50, 53, 48, 32, 79, 107, 13, 10] ∧ Below w.heap.size w w') := hp.mono fun e w' ⟨v, h1, h2, h3⟩ => ⟨v, by rw [h1, ok_err], by rw [← ok_print]; exact h2.reads, hba.trans (h3.mono hba.size)⟩
  clear hp hba hv
  go_enter Tryd.func9, Tryd.ntmps9
  go_wp2_with (first | (go_at_call 12; refine HP.out.mono ?_; rintro ee w1 ⟨v, rfl, hr, hb⟩; refine Hid.out ?_) | fail)
  refine Lib.hid ?_
  have hcv := conv_reads hr
  have HB := Lib.hid hb
  clear hr hb
  go_wp2
  go_ret
  exact ⟨rfl, HB.out⟩
set_option maxHeartbeats 8000000 in
set_option maxRecDepth 100000 in
theorem wPrints (c : Int) (lv : Value) (ls : List (List UInt8)) (w : World) (hv : Vars w) (hr : VReads w lv (ls.map S)) (hn : ls.length ≤ 9000000000000000000) (hl : ∀ k, (ls.getD k []).length ≤ 9000000000000000000) :
    Calls Tryd.prog 3 #[replyV c lv] w fun e w' => e = .returned (.bool true) ∧ Below w.heap.size w w' := by
  obtain ⟨wA, hwA⟩ : ∃ wA, wA = w.alloc (.cells #[.int .i64 c, lv] 24) := ⟨_, rfl⟩
  have HBA : Hid (Below w.heap.size w wA) := by show Below _ _ _; rw [hwA]; exact Below.alloc1 w _
  have HVA : Hid (Vars wA) := hv.on HBA.out
  have HXA : Hid (BoxR wA w.heap.size c lv) := by show BoxR _ _ _ _; rw [hwA]; exact BoxR.new w c lv
  have HRA : Hid (VReads wA lv (ls.map S)) := vreads_on hr HBA.out
  have HWA := Lib.hid hwA
  have HAW : Hid (∀ w1, Vars w1 → Calls Tryd.prog 9 #[] w1 fun e w' => e = .returned (.bool true) ∧ Below w1.heap.size w1 w') := fun w1 h => wAwake w1 h
  have HPR : Hid (∀ w1, VReads w1 lv (ls.map S) → Calls Tryd.prog 10 #[.agg #[.int .i64 c, lv]] w1 fun e w' => e = .returned (.bool (rightB c ls)) ∧ Below w1.heap.size w1 w') := fun w1 h => pRight c lv ls w1 h (by omega) (fun k => Nat.le_trans (hl k) (by omega))
  have HRR : Hid (∀ w1, VReads w1 lv (ls.map S) → Calls Tryd.prog 11 #[.agg #[.int .i64 c, lv]] w1 fun e w' => e = .returned (.bool (rightB c ls)) ∧ Below w1.heap.size w1 w') := fun w1 h => rRight c lv ls w1 h (by omega) (fun k => Nat.le_trans (hl k) (by omega))
  have HPP : Hid (∀ w1, Vars w1 → VReads w1 lv (ls.map S) → Calls Tryd.prog 12 #[.agg #[.int .i64 c, lv]] w1 fun e w' => ∃ v, e = .returned (.tuple #[v, .int .i64 (printE c ls)]) ∧ Reads w' v (printQ c ls) ∧ Below w1.heap.size w1 w') := fun w1 h1 h2 => (pPrint c lv ls w1 h1 h2 (by omega) (fun k => Nat.le_trans (hl k) (by omega))).mono fun e w' ⟨v, e1, e2, e3⟩ => ⟨v, e1, e2.reads, e3⟩
  have HRP : Hid (∀ w1, VReads w1 lv (ls.map S) → Calls Tryd.prog 13 #[.agg #[.int .i64 c, lv]] w1 fun e w' => ∃ v, e = .returned (.tuple #[v, .int .i64 (printE c ls)]) ∧ Reads w' v (printQ c ls) ∧ Below w1.heap.size w1 w') := fun w1 h2 => (rPrint c lv ls w1 h2 (by omega) (fun k => Nat.le_trans (hl k) (by omega))).mono fun e w' ⟨v, e1, e2, e3⟩ => ⟨v, e1, e2.reads, e3⟩
  generalize printE c ls = pe at HPP HRP
  generalize printQ c ls = pq at HPP HRP
  generalize rightB c ls = rb at HPR HRR
  clear hwA hv hr hn hl
  go_enter Tryd.func3, Tryd.ntmps3
  go_upto_region 1 with fail
  rw [← HWA.out]
  clear HWA
  go_wp2_with (first | (go_at_call 9; refine (HAW.out _ HVA.out).mono ?_; rintro ee w1 ⟨rfl, hb⟩; refine Hid.out ?_) | fail)
  refine Lib.hid ?_
  have HA1 : Hid (Below wA.heap.size wA w1) := hb
  clear hb
  obtain ⟨x0, x1⟩ := (HXA.out.on HA1.out).cells
  go_wp2_with (first | (go_at_call 10; refine (HPR.out _ (vreads_on HRA.out HA1.out)).mono ?_; rintro ee w2 ⟨rfl, hb⟩; refine Hid.out ?_) | fail)
  refine Lib.hid ?_
  have HA2 : Hid (Below wA.heap.size wA w2) := HA1.out.trans (hb.mono HA1.out.size)
  clear hb x0 x1
  obtain ⟨x0, x1⟩ := (HXA.out.on HA2.out).cells
  go_wp2_with (first | (go_at_call 11; refine (HRR.out _ (vreads_on HRA.out HA2.out)).mono ?_; rintro ee w3 ⟨rfl, hb⟩; refine Hid.out ?_) | fail)
  refine Lib.hid ?_
  have HA3 : Hid (Below wA.heap.size wA w3) := HA2.out.trans (hb.mono HA2.out.size)
  clear hb x0 x1
  obtain ⟨x0, x1⟩ := (HXA.out.on HA3.out).cells
  go_wp2_with (first | (go_at_call 12; refine (HPP.out _ (HVA.out.on HA3.out) (vreads_on HRA.out HA3.out)).mono ?_; rintro ee w4 ⟨v, rfl, hrv, hb⟩; refine Hid.out ?_) | fail)
  refine Lib.hid ?_
  have HA4 : Hid (Below wA.heap.size wA w4) := HA3.out.trans (hb.mono HA3.out.size)
  have HRV := Lib.hid hrv
  clear hb x0 x1 hrv
  obtain ⟨x0, x1⟩ := (HXA.out.on HA4.out).cells
  go_wp2_with (first | (go_at_call 13; refine (HRP.out _ (vreads_on HRA.out HA4.out)).mono ?_; rintro ee w5 ⟨u, rfl, hru, hb⟩; refine Hid.out ?_) | fail)
  refine Lib.hid ?_
  have HA5 : Hid (Below wA.heap.size wA w5) := HA4.out.trans (hb.mono HA4.out.size)
  have hcv := conv_reads (HRV.out.on hb)
  have hcu := conv_reads hru
  clear hb x0 x1 hru
  go_wp2
  go_ret
  exact ⟨by simp, HBA.out.trans (HA5.out.mono HBA.out.size)⟩
theorem vform {w : World} {lv : Value} {ls : List (List UInt8)} (h : VReads w lv (ls.map S)) : ∃ a c, lv = .slice a ls.length c := by
  obtain ⟨a, c, e, _⟩ := h.form
  exact ⟨a, c, by rw [e, List.length_map]⟩
theorem readK_len : ∀ (f : Nat) (l : List UInt8) (at_ c : Nat) (ls : List (List UInt8)), ls.length ≤ 50 → (readK f l at_ c ls).2.1.length ≤ 50
  | 0, _, _, _, _, _ => by simp [readK]
  | f + 1, l, at_, c, ls, hl => by
    rw [readK]
    split
    · simp
    · split
      · simp
      · split
        · simp
        · split
          · simp
          · rename_i h50
            split
            · exact readK_len f _ _ _ _ (by rw [List.length_append, List.length_singleton]; omega)
            · show (ls ++ _).length ≤ 50
              rw [List.length_append, List.length_singleton]; omega
theorem readR_len (l : List UInt8) : (readR l).2.1.length ≤ 50 := readK_len 51 l 0 0 [] (by simp)
set_option maxHeartbeats 8000000 in
set_option maxRecDepth 100000 in
theorem wReads (v : Value) (b : List UInt8) (w : World) (hv : Vars w) (hr : Reads w v b) (hl : b.length ≤ 8000000000000000000) :
    Calls Tryd.prog 4 #[v] w fun e w' => e = .returned (.bool true) ∧ Below w.heap.size w w' := by
  have HV := Lib.hid hv
  have HR := Lib.hid hr
  have HAW : Hid (∀ w1, Vars w1 → Calls Tryd.prog 9 #[] w1 fun e w' => e = .returned (.bool true) ∧ Below w1.heap.size w1 w') := fun w1 h => wAwake w1 h
  have HPR : Hid (∀ w1, Reads w1 v b → Calls Tryd.prog 14 #[v] w1 (ReadEnd (readR b) w1)) := fun w1 h => pRead v b w1 h hl
  have HRR : Hid (∀ w1, Reads w1 v b → Calls Tryd.prog 15 #[v] w1 (ReadEnd (readR b) w1)) := fun w1 h => rRead v b w1 h hl
  have h50 : (readR b).2.1.length ≤ 9000000000000000000 := Nat.le_trans (readR_len b) (by decide)
  generalize readR b = R at HPR HRR h50
  obtain ⟨c, ls, n, z⟩ := R
  dsimp only at h50
  have HSM : Hid (∀ lv kv w1, VReads w1 lv (ls.map S) → VReads w1 kv (ls.map S) → Calls Tryd.prog 16 #[.agg #[.int .i64 (c : Int), lv], .agg #[.int .i64 (c : Int), kv]] w1 fun e w' => e = .returned (.bool true) ∧ Below w1.heap.size w1 w') := fun lv kv w1 h1 h2 => by
    have := rSame (c : Int) (c : Int) lv kv ls ls w1 h1 h2 (by omega) (by omega)
    rw [show sameB (c : Int) (c : Int) ls ls = true by unfold sameB; simp] at this
    exact this
  clear hv hr h50 hl
  go_enter Tryd.func4, Tryd.ntmps4
  go_wp2_with (first | (go_at_call 9; refine (HAW.out _ HV.out).mono ?_; rintro ee w1 ⟨rfl, hb⟩; refine Hid.out ?_) | fail)
  refine Lib.hid ?_
  have HB1 : Hid (Below w.heap.size w w1) := hb
  clear hb
  go_wp2_with (first | (go_at_call 14; refine (HPR.out _ (HR.out.on HB1.out)).mono ?_; rintro ee w2 ⟨lv, rfl, hrl, hb⟩; refine Hid.out ?_) | fail)
  refine Lib.hid ?_
  obtain ⟨la, lc, rfl⟩ := vform hrl
  have HB2 : Hid (Below w.heap.size w w2) := HB1.out.trans (hb.mono HB1.out.size)
  have HRL := Lib.hid hrl
  clear hb hrl
  go_upto_region 3 with fail
  obtain ⟨wB, hwB⟩ : ∃ wB, wB = w2.alloc (.cells #[.int .i64 (c : Int), .slice la ls.length lc] 24) := ⟨_, rfl⟩
  rw [← hwB]
  have hbb := Below.alloc1 w2 (.cells #[.int .i64 (c : Int), .slice la ls.length lc] 24)
  rw [← hwB] at hbb
  have HBB : Hid (Below w.heap.size w wB) := HB2.out.trans (hbb.mono HB2.out.size)
  have HX4 : Hid (BoxR wB w2.heap.size (c : Int) (.slice la ls.length lc)) := by show BoxR _ _ _ _; rw [hwB]; exact BoxR.new w2 _ _
  have HRL2 : Hid (VReads wB (.slice la ls.length lc) (ls.map S)) := vreads_on HRL.out hbb
  obtain ⟨g4, hg4⟩ : ∃ g4, g4 = w2.heap.size := ⟨_, rfl⟩
  rw [← hg4] at HX4 ⊢
  clear hwB hbb hg4 HRL
  go_wp2_with (first | (go_at_call 15; refine (HRR.out _ (HR.out.on HBB.out)).mono ?_; rintro ee w3 ⟨kv, rfl, hrl, hb⟩; refine Hid.out ?_) | fail)
  refine Lib.hid ?_
  obtain ⟨ka, kc, rfl⟩ := vform hrl
  have HB3 : Hid (Below w.heap.size w w3) := HBB.out.trans (hb.mono HBB.out.size)
  have HX43 : Hid (BoxR w3 g4 (c : Int) (.slice la ls.length lc)) := HX4.out.on hb
  have HRL3 : Hid (VReads w3 (.slice la ls.length lc) (ls.map S)) := vreads_on HRL2.out hb
  have HRK := Lib.hid hrl
  clear hb hrl HX4 HRL2
  go_upto_region 4 with fail
  obtain ⟨wC, hwC⟩ : ∃ wC, wC = w3.alloc (.cells #[.int .i64 (c : Int), .slice ka ls.length kc] 24) := ⟨_, rfl⟩
  rw [← hwC]
  have hbb := Below.alloc1 w3 (.cells #[.int .i64 (c : Int), .slice ka ls.length kc] 24)
  rw [← hwC] at hbb
  have HBC : Hid (Below w.heap.size w wC) := HB3.out.trans (hbb.mono HB3.out.size)
  have hx4 : BoxR wC g4 (c : Int) (.slice la ls.length lc) := HX43.out.on hbb
  have hx7 : BoxR wC w3.heap.size (c : Int) (.slice ka ls.length kc) := by rw [hwC]; exact BoxR.new w3 _ _
  have HRL4 : Hid (VReads wC (.slice la ls.length lc) (ls.map S)) := vreads_on HRL3.out hbb
  have HRK4 : Hid (VReads wC (.slice ka ls.length kc) (ls.map S)) := vreads_on HRK.out hbb
  obtain ⟨g7, hg7⟩ : ∃ g7, g7 = w3.heap.size := ⟨_, rfl⟩
  rw [← hg7] at hx7 ⊢
  obtain ⟨x0, x1⟩ := hx4.cells
  obtain ⟨y0, y1⟩ := hx7.cells
  clear hwC hbb hg7 HRL3 HRK HX43 hx4 hx7
  go_wp2_with (first | (go_at_call 16; refine (HSM.out _ _ _ HRL4.out HRK4.out).mono ?_; rintro ee w4 ⟨rfl, hb⟩; refine Hid.out ?_) | fail)
  refine Lib.hid ?_
  have HB4 : Hid (Below w.heap.size w w4) := HBC.out.trans (hb.mono HBC.out.size)
  clear hb
  go_wp2
  go_ret
  exact ⟨by simp, HB4.out⟩
theorem stat_quad (o : Stat) : ∃ (a b c : Int) (d : Bool), statV o = .tuple #[.int .i64 a, .int .i64 b, .int .i64 c, .bool d] := by
  cases o with
  | none => exact ⟨0, 0, 0, false, rfl⟩
  | some o => exact ⟨_, _, _, true, rfl⟩
set_option maxHeartbeats 8000000 in
set_option maxRecDepth 100000 in
theorem wClasses (c : Int) (s : ByteArray) (w : World) (hv : Vars w) (hs : s.size ≤ 9000000000000000000) :
    Calls Tryd.prog 5 #[.int .i64 c, .string s] w fun e w' => e = .returned (.bool true) ∧ Below w.heap.size w w' := by
  have HAW : Hid (Calls Tryd.prog 9 #[] w fun e w' => e = .returned (.bool true) ∧ Below w.heap.size w w') := wAwake w hv
  have HPC : Hid (∀ w1, Calls Tryd.prog 17 #[.int .i64 c] w1 fun e w' => e = .returned (.int .i64 (classB c)) ∧ w1 = w') := fun w1 => pClass c w1
  have HRC : Hid (∀ w1, Calls Tryd.prog 18 #[.int .i64 c] w1 fun e w' => e = .returned (.int .i64 (classB c)) ∧ w1 = w') := fun w1 => rClass c w1
  have HPS : Hid (∀ w1, Calls Tryd.prog 19 #[.string s] w1 fun e w' => e = .returned (statV (statR s.data.toList)) ∧ Below w1.heap.size w1 w') := fun w1 => by rw [← stat_same]; exact pStatus s w1 (by omega)
  have HRS : Hid (∀ w1, Calls Tryd.prog 20 #[.string s] w1 fun e w' => e = .returned (statV (statR s.data.toList)) ∧ w1 = w') := fun w1 => rStatus s w1 (by omega)
  obtain ⟨a, b, d, f, hst⟩ := stat_quad (statR s.data.toList)
  rw [hst] at HPS HRS
  generalize classB c = z at HPC HRC
  clear hv hst
  go_enter Tryd.func5, Tryd.ntmps5
  go_wp2_with (first | (go_at_call 9; refine HAW.out.mono ?_; rintro ee w1 ⟨rfl, hb⟩; refine Hid.out ?_) | fail)
  refine Lib.hid ?_
  have HB1 : Hid (Below w.heap.size w w1) := hb
  clear hb HAW
  go_wp2_with (first | (go_at_call 17; refine (HPC.out _).mono ?_; rintro ee w2 ⟨rfl, rfl⟩; refine Hid.out ?_) | fail)
  refine Lib.hid ?_
  go_wp2_with (first | (go_at_call 18; refine (HRC.out _).mono ?_; rintro ee w2 ⟨rfl, rfl⟩; refine Hid.out ?_) | fail)
  refine Lib.hid ?_
  go_wp2_with (first | (go_at_call 19; refine (HPS.out _).mono ?_; rintro ee w2 ⟨rfl, hb⟩; refine Hid.out ?_) | fail)
  refine Lib.hid ?_
  have HB2 : Hid (Below w.heap.size w w2) := HB1.out.trans (hb.mono HB1.out.size)
  clear hb
  go_wp2_with (first | (go_at_call 20; refine (HRS.out _).mono ?_; rintro ee w3 ⟨rfl, rfl⟩; refine Hid.out ?_) | fail)
  refine Lib.hid ?_
  go_wp2
  go_ret
  exact ⟨by simp, HB2.out⟩
end Go.Proofs.YthkabehojmncmaaDoor.Reply
