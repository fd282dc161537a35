/-
  REPLY, the laws: what is printed is read again, whatever stands behind it; each beginning is too short.
-/
import Derived.Test.YthkabehojmncmaaDoorRepLaw2
namespace Go.Proofs.YthkabehojmncmaaDoor.Reply
open Go.RowKit Base
set_option maxHeartbeats 16000000 in
set_option maxRecDepth 100000 in
theorem wBack (c : Int) (lv : Value) (ls : List (List UInt8)) (mv : Value) (mb : List UInt8) (cut : Int) (w : World) (hv : Vars w) (hr : VReads w lv (ls.map S)) (hn : ls.length ≤ 9000000000000000000) (hl : ∀ k, (ls.getD k []).length ≤ 9000000000000000000) (hm : Reads w mv mb) (hml : mb.length ≤ 140737488351232) :
    Calls Tryd.prog 6 #[replyV c lv, mv, .int .i64 cut] w fun e w' => e = .returned (.bool true) ∧ Below w.heap.size w w' := by
  obtain ⟨la, lc, rfl⟩ := vform hr
  obtain ⟨wA, hwA⟩ : ∃ wA, wA = w.alloc (.cells #[.int .i64 c, .slice la ls.length lc] 24) := ⟨_, rfl⟩
  have HBA : Hid (Below w.heap.size w wA) := by show Below _ _ _; rw [hwA]; exact Below.alloc1 w _
  have HVA : Hid (Vars wA) := hv.on HBA.out
  have HXA : Hid (BoxR wA w.heap.size c (.slice la ls.length lc)) := by show BoxR _ _ _ _; rw [hwA]; exact BoxR.new w c _
  have HRA : Hid (VReads wA (.slice la ls.length lc) (ls.map S)) := vreads_on hr HBA.out
  have HMA : Hid (Reads wA mv mb) := hm.on HBA.out
  have HWA := Lib.hid hwA
  have HAW : Hid (∀ w1, Vars w1 → Calls Tryd.prog 9 #[] w1 fun e w' => e = .returned (.bool true) ∧ Below w1.heap.size w1 w') := fun w1 h => wAwake w1 h
  have HRR : Hid (∀ w1, VReads w1 (.slice la ls.length lc) (ls.map S) → Calls Tryd.prog 11 #[.agg #[.int .i64 c, .slice la ls.length lc]] w1 fun e w' => e = .returned (.bool (rightB c ls)) ∧ Below w1.heap.size w1 w') := fun w1 h => rRight c _ ls w1 h (by omega) (fun k => Nat.le_trans (hl k) (by omega))
  have HPP0 : Hid (∀ w1, Vars w1 → VReads w1 (.slice la ls.length lc) (ls.map S) → Calls Tryd.prog 12 #[.agg #[.int .i64 c, .slice la ls.length lc]] w1 (PrintEnd c ls w1)) := fun w1 h1 h2 => pPrint c _ ls w1 h1 h2 (by omega) (fun k => Nat.le_trans (hl k) (by omega))
  clear hwA hv hr hn hm
  obtain ⟨g, hg⟩ : ∃ g, g = w.heap.size := ⟨_, rfl⟩
  rw [← hg] at HXA
  cases hrt : rightB c ls with
  | false =>
    have HPP : Hid (∀ w1, Vars w1 → VReads w1 (.slice la ls.length lc) (ls.map S) → Calls Tryd.prog 12 #[.agg #[.int .i64 c, .slice la ls.length lc]] w1 fun e w' => (∃ v, e = .returned (.tuple #[v, .int .i64 141])) ∧ Below w1.heap.size w1 w') := fun w1 h1 h2 => (HPP0.out w1 h1 h2).mono fun e w' ⟨v, e1, _, e3⟩ => ⟨⟨v, by rw [e1, printE_no hrt]⟩, e3⟩
    rw [hrt] at HRR
    clear HPP0 hrt hl
    go_enter Tryd.func6, Tryd.ntmps6
    go_upto_region 1 with fail
    rw [← HWA.out, ← hg]
    clear HWA hg
    go_wp2_with (first | (go_at_call 9; refine (HAW.out _ HVA.out).mono ?_; rintro ee w1 ⟨rfl, hb⟩; refine Hid.out ?_) | fail)
    refine Lib.hid ?_
    have HA1 : Hid (Below wA.heap.size wA w1) := hb
    clear hb
    obtain ⟨x0, x1⟩ := (HXA.out.on HA1.out).cells
    go_wp2_with (first | (go_at_call 11; refine (HRR.out _ (vreads_on HRA.out HA1.out)).mono ?_; rintro ee w2 ⟨rfl, hb⟩; refine Hid.out ?_) | fail)
    refine Lib.hid ?_
    have HA2 : Hid (Below wA.heap.size wA w2) := HA1.out.trans (hb.mono HA1.out.size)
    clear hb x0 x1
    obtain ⟨x0, x1⟩ := (HXA.out.on HA2.out).cells
    go_wp2_with (first | (go_at_call 12; refine (HPP.out _ (HVA.out.on HA2.out) (vreads_on HRA.out HA2.out)).mono ?_; rintro ee w3 ⟨⟨u, rfl⟩, hb⟩; refine Hid.out ?_) | fail)
    refine Lib.hid ?_
    have HA3 : Hid (Below wA.heap.size wA w3) := HA2.out.trans (hb.mono HA2.out.size)
    clear hb x0 x1
    go_wp2
    go_ret
    exact ⟨by first | rfl | simp, HBA.out.trans (HA3.out.mono HBA.out.size)⟩
  | true =>
    have hcr := codeB_rng (right_parts hrt).1
    obtain ⟨n, rfl⟩ : ∃ n : Nat, c = n := ⟨c.toNat, by omega⟩
    have hpl := printB_len hrt
    have HPP : Hid (∀ w1, Vars w1 → VReads w1 (.slice la ls.length lc) (ls.map S) → Calls Tryd.prog 12 #[.agg #[.int .i64 (n : Int), .slice la ls.length lc]] w1 fun e w' => ∃ v, e = .returned (.tuple #[v, .int .i64 0]) ∧ Reads w' v (printB n ls) ∧ Below w1.heap.size w1 w') := fun w1 h1 h2 => pPrintB hrt _ w1 h1 h2
    have HRD : Hid (∀ v w1, Reads w1 v (printB n ls ++ mb) → Calls Tryd.prog 14 #[v] w1 (ReadEnd (n, ls, (printB n ls).length, 0) w1)) := fun v w1 h => by
      rw [← back hrt mb]; exact pRead v _ w1 h (by rw [List.length_append]; omega)
    have HTN : Hid (∀ (k : Nat) v w1, k < (printB n ls).length → Reads w1 v ((printB n ls).take k) → Calls Tryd.prog 14 #[v] w1 (ReadEnd (0, [], 0, 140) w1)) := fun k v w1 hk h => by
      rw [← torn hrt hk]; exact pRead v _ w1 h (by rw [List.length_take]; omega)
    have h50 := (right_len50 hrt).1
    have HSM : Hid (∀ lv kv w1, VReads w1 lv (ls.map S) → VReads w1 kv (ls.map S) → Calls Tryd.prog 16 #[.agg #[.int .i64 (n : Int), lv], .agg #[.int .i64 (n : Int), kv]] w1 fun e w' => e = .returned (.bool true) ∧ Below w1.heap.size w1 w') := fun lv kv w1 h1 h2 => by
      have := rSame (n : Int) (n : Int) lv kv ls ls w1 h1 h2 (by omega) (by omega)
      rw [show sameB (n : Int) (n : Int) ls ls = true by unfold sameB; simp] at this
      exact this
    rw [hrt] at HRR
    generalize printB n ls = P at HPP HRD HTN hpl
    clear HPP0 hrt hcr h50 hl
    go_enter Tryd.func6, Tryd.ntmps6
    go_upto_region 1 with fail
    rw [← HWA.out, ← hg]
    clear HWA hg
    go_wp2_with (first | (go_at_call 9; refine (HAW.out _ HVA.out).mono ?_; rintro ee w1 ⟨rfl, hb⟩; refine Hid.out ?_) | fail)
    refine Lib.hid ?_
    have HA1 : Hid (Below wA.heap.size wA w1) := hb
    clear hb
    obtain ⟨x0, x1⟩ := (HXA.out.on HA1.out).cells
    go_wp2_with (first | (go_at_call 11; refine (HRR.out _ (vreads_on HRA.out HA1.out)).mono ?_; rintro ee w2 ⟨rfl, hb⟩; refine Hid.out ?_) | fail)
    refine Lib.hid ?_
    have HA2 : Hid (Below wA.heap.size wA w2) := HA1.out.trans (hb.mono HA1.out.size)
    clear hb x0 x1
    obtain ⟨x0, x1⟩ := (HXA.out.on HA2.out).cells
    go_wp2_with (first | (go_at_call 12; refine (HPP.out _ (HVA.out.on HA2.out) (vreads_on HRA.out HA2.out)).mono ?_; rintro ee w3 ⟨u, rfl, hru, hb⟩; refine Hid.out ?_) | fail)
    refine Lib.hid ?_
    obtain ⟨ua, uc, rfl⟩ := hru.form
    have HA3 : Hid (Below wA.heap.size wA w3) := HA2.out.trans (hb.mono HA2.out.size)
    have HRU := Lib.hid hru
    clear hb x0 x1 hru
    go_wp2_with (at_builtin; go_must (refine wp_append_reads _ rfl _ _ rfl w3.heap.size _ _ [] P rfl rfl (owns_new w3) (HRU.out.on (Below.alloc1 w3 _)) (by simp; omega) (Below.alloc1 w3 _).size ?_); intro v4 w4 own4 b4; refine Hid.out ?_)
    refine Lib.hid ?_
    have HB4 : Hid (Below w3.heap.size w3 w4) := (Below.alloc1 w3 _).trans b4
    have HO4 : Hid (Owns w4 w3.heap.size v4 P) := own4
    have HA4 : Hid (Below wA.heap.size wA w4) := HA3.out.trans (HB4.out.mono HA3.out.size)
    clear own4 b4
    go_wp2_with (at_builtin; go_must (refine wp_append_reads _ rfl _ _ rfl w3.heap.size v4 mv P mb rfl rfl HO4.out (HMA.out.on HA4.out) (by omega) HB4.out.size ?_); intro v5 w5 own5 b5; refine Hid.out ?_)
    refine Lib.hid ?_
    have HB5 : Hid (Below w3.heap.size w3 w5) := HB4.out.trans b5
    have HO5 : Hid (Reads w5 v5 (P ++ mb)) := own5.reads
    have HA5 : Hid (Below wA.heap.size wA w5) := HA3.out.trans (HB5.out.mono HA3.out.size)
    clear own5 b5 HO4 HA4 HB4
    go_wp2_with (first | (go_at_call 14; refine (HRD.out _ _ HO5.out).mono ?_; rintro ee w6 ⟨kv, rfl, hrk, hb⟩; refine Hid.out ?_) | fail)
    refine Lib.hid ?_
    obtain ⟨ka, kc, rfl⟩ := vform hrk
    have HB6 : Hid (Below w3.heap.size w3 w6) := HB5.out.trans (hb.mono HB5.out.size)
    have HA6 : Hid (Below wA.heap.size wA w6) := HA5.out.trans (hb.mono HA5.out.size)
    have HRK := Lib.hid hrk
    clear hb hrk HO5 HB5 HA5
    go_upto_region 8 with fail
    obtain ⟨wC, hwC⟩ : ∃ wC, wC = w6.alloc (.cells #[.int .i64 (n : Int), .slice ka ls.length kc] 24) := ⟨_, rfl⟩
    rw [← hwC]
    have hbb := Below.alloc1 w6 (.cells #[.int .i64 (n : Int), .slice ka ls.length kc] 24)
    rw [← hwC] at hbb
    have HBC : Hid (Below w3.heap.size w3 wC) := HB6.out.trans (hbb.mono HB6.out.size)
    have HAC : Hid (Below wA.heap.size wA wC) := HA6.out.trans (hbb.mono HA6.out.size)
    have hx7 : BoxR wC w6.heap.size (n : Int) (.slice ka ls.length kc) := by rw [hwC]; exact BoxR.new w6 _ _
    have HRK5 : Hid (VReads wC (.slice ka ls.length kc) (ls.map S)) := vreads_on HRK.out hbb
    obtain ⟨g7, hg7⟩ : ∃ g7, g7 = w6.heap.size := ⟨_, rfl⟩
    rw [← hg7] at hx7 ⊢
    obtain ⟨x0, x1⟩ := (HXA.out.on HAC.out).cells
    obtain ⟨y0, y1⟩ := hx7.cells
    clear hwC hbb hg7 HRK hx7 HB6 HA6
    go_wp2_with (first | (go_at_call 16; refine (HSM.out _ _ _ HRK5.out (vreads_on HRA.out HAC.out)).mono ?_; rintro ee w7 ⟨rfl, hb⟩; refine Hid.out ?_) | fail)
    refine Lib.hid ?_
    have HB7 : Hid (Below w3.heap.size w3 w7) := HBC.out.trans (hb.mono HBC.out.size)
    have HA7 : Hid (Below wA.heap.size wA w7) := HAC.out.trans (hb.mono HAC.out.size)
    clear hb x0 x1 y0 y1
    have HW7 : Hid (Below w.heap.size w w7) := HBA.out.trans (HA7.out.mono HBA.out.size)
    by_cases hc0 : cut < 0
    · go_wp2
      go_ret
      exact ⟨rfl, HW7.out⟩
    · by_cases hc1 : (P.length : Int) ≤ cut
      · go_wp2
        go_ret
        exact ⟨rfl, HW7.out⟩
      · obtain ⟨k, rfl⟩ : ∃ k : Nat, cut = k := ⟨cut.toNat, by omega⟩
        have k0 : (0 : Int) ≤ (k : Int) := by omega
        have hup := (reads_len HRU.out).2
        have k1 : (k : Int) ≤ (uc : Int) := by omega
        have k2 : k ≤ uc := by omega
        have HTK : Hid (Reads w7 (.slice ua k uc) (P.take k)) := reads_take (HRU.out.on HB7.out) (by omega)
        have HT2 : Hid (Calls Tryd.prog 14 #[.slice ua k uc] w7 (ReadEnd (0, [], 0, 140) w7)) := HTN.out k _ w7 (by omega) HTK.out
        go_wp2_with (first | (go_at_call 14; refine HT2.out.mono ?_; rintro ee w8 ⟨zv, rfl, hrz, hb⟩; refine Hid.out ?_) | fail)
        refine Lib.hid ?_
        obtain ⟨za, zc, rfl⟩ := vform hrz
        have HW8 : Hid (Below w.heap.size w (w8.alloc (.cells #[.int .i64 0, .slice za 0 zc] 24))) := (HW7.out.trans (hb.mono HW7.out.size)).trans ((Below.alloc1 w8 _).mono (Nat.le_trans HW7.out.size hb.size))
        clear hb hrz
        go_wp2
        go_ret
        exact ⟨rfl, HW8.out⟩
end Go.Proofs.YthkabehojmncmaaDoor.Reply
