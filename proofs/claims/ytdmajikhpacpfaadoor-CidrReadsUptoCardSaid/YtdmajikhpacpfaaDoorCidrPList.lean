/-
  CIDR, the program: several ranges as text: the walk.
-/
import Derived.Test.YtdmajikhpacpfaaDoorCidrPLst
namespace Go.Proofs.YtdmajikhpacpfaaDoor.Cidr
open Go.RowKit Go.Shelf Base
attribute [local go_sem] Oper.semAt_some
theorem results_list {w : World} {tmps : Array Value} {b c : Nat} {v u : Value} (h1 : tmps.getD 2 undef = .pointer (some ⟨b, 0, none⟩)) (h2 : tmps.getD 3 undef = .pointer (some ⟨c, 0, none⟩)) (hb : w.cell? ⟨b, 0, none⟩ = some v) (hc : w.cell? ⟨c, 0, none⟩ = some u) :
    (results Tryd.f13 tmps).run Tryd.prog w = .ok (.tuple #[v, u]) w := by
  unfold results
  rw [Tryd.results13]
  rw [Array.getD_eq_getD_getElem?] at h1 h2
  simp [h1, h2, hb, hc, asAddr, go_sem]
set_option maxHeartbeats 4000000 in
set_option maxRecDepth 100000 in
theorem pList (s : ByteArray) (w : World) (hs : s.size ≤ 9223372036854775807) (he : Env w) (hT : Utf w) : Calls Tryd.prog 13 #[.string s] w (ListEnd (listN s) w) := by
  obtain ⟨n0, hn0⟩ : ∃ n0, n0 = w.heap.size := ⟨_, rfl⟩
  have HS0 := Lib.hid (fun wx => pSeq0 s wx)
  have HE := Lib.hid he
  have HT := Lib.hid hT
  have HSS := Lib.hid hs
  have HN0 := Lib.hid hn0
  obtain ⟨wx, hwx⟩ : ∃ wx, wx = (((w.alloc (.cells #[.slice none 0 0] 29)).alloc (.cells #[.int .i64 0] 26)).alloc (.cells #[.slice none 0 0] 29)).alloc (.cells #[.int .i64 0] 26) := ⟨_, rfl⟩
  have HX : Hid (Boxed wx n0 29 (.slice none 0 0) ∧ Boxed wx (n0 + 1) 26 (.int .i64 0) ∧ Boxed wx (n0 + 2) 29 (.slice none 0 0) ∧ Boxed wx (n0 + 3) 26 (.int .i64 0) ∧ wx.heap.size = n0 + 4 ∧ Below n0 w wx) := by
    have b1 := Boxed.new w 29 (.slice none 0 0)
    have b2 := Boxed.new (w.alloc (.cells #[.slice none 0 0] 29)) 26 (.int .i64 0)
    have b3 := Boxed.new ((w.alloc (.cells #[.slice none 0 0] 29)).alloc (.cells #[.int .i64 0] 26)) 29 (.slice none 0 0)
    have b4 := Boxed.new (((w.alloc (.cells #[.slice none 0 0] 29)).alloc (.cells #[.int .i64 0] 26)).alloc (.cells #[.slice none 0 0] 29)) 26 (.int .i64 0)
    have s1 : (w.alloc (.cells #[.slice none 0 0] 29)).heap.size = n0 + 1 := by simp [hn0]
    have s2 : ((w.alloc (.cells #[.slice none 0 0] 29)).alloc (.cells #[.int .i64 0] 26)).heap.size = n0 + 2 := by simp [hn0]
    have s3 : (((w.alloc (.cells #[.slice none 0 0] 29)).alloc (.cells #[.int .i64 0] 26)).alloc (.cells #[.slice none 0 0] 29)).heap.size = n0 + 3 := by simp [hn0]
    rw [← hn0] at b1
    rw [s1] at b2
    rw [s2] at b3
    rw [s3] at b4
    show _ ∧ _
    rw [hwx]
    refine ⟨((b1.alloc _).alloc _).alloc _, (b2.alloc _).alloc _, b3.alloc _, b4, by simp [hn0], ?_⟩
    exact ((((Below.refl n0 w).alloc (by omega) _).alloc (by rw [s1]; omega) _).alloc (by rw [s2]; omega) _).alloc (by rw [s3]; omega) _
  have hsz := HX.out.2.2.2.2.1
  have K0 := HS0.out wx
  rw [hsz] at K0
  have HK0 := Lib.hid K0
  clear he hT hs K0 HS0 hsz hn0
  refine (callsIn_wide (n := 5)).1 ?_
  refine callsIn_of_wp_marks Tryd.func13 rfl trivial ?_ rfl
  simp only [Tryd.ntmps13, List.size_toArray, List.length_cons, List.length_nil, Nat.reduceAdd, Nat.reduceSub, Array.replicate_succ, Array.replicate_zero, List.push_toArray, List.append_toArray, List.nil_append, List.cons_append]
  gi_wp2
  refine ⟨trivial, ?_⟩
  rw [← hwx, ← HN0.out]
  have hn0 := HN0.out
  refine (callsIn_wide.2 HK0.out).mono ?_
  rintro e W1 ⟨rfl, hq1, hq2, hq3, hq4⟩
  have hw1 : Below n0 w W1 := HX.out.2.2.2.2.2.trans (hq4.mono (by omega))
  have HQ := Lib.hid hq4
  have x1 := HX.out.1
  have x2 := HX.out.2.1
  have x3 := HX.out.2.2.1
  have x4 := HX.out.2.2.2.1
  have hI0 : LI w n0 [] W1 := ⟨Nat.zero_le _, (hq4.block n0 (by omega)).trans x1, (hq4.block (n0 + 1) (by omega)).trans x2, ⟨.slice none 0 0, (hq4.block (n0 + 2) (by omega)).trans x3, ⟨World.ownsRow_nil _ _ _ _, fun m h => by cases h⟩⟩, (hq4.block (n0 + 3) (by omega)).trans x4, hw1, by omega⟩
  clear hwx HX HK0 HQ x1 x2 x3 x4 hq4 hn0
  gi_wp2
  refine wpIn_rangeFunc_ownG rfl (by omega) (gf := 53) (lb := #[.pointer (some ⟨n0 + 4, 0, none⟩), .pointer (some ⟨n0 + 5, 0, none⟩)]) rfl trivial (enters_of Tryd.func53 (by kernel_rfl) rfl)
    (seq_stops 4 (by omega) (n0 + 4) (n0 + 5) s w W1 HT.out HSS.out (by rw [← HN0.out]; exact hw1) hq1 hq2)
    (fun h1 h2 => ⟨h1.1.trans h2.1, h2.2.1.trans h1.2.1, h2.2.2.trans h1.2.2⟩)
    (fun W l o o' hl ho _ _ => ⟨⟨rfl, rfl, rfl, by simp, fun k hk => World.putObj_heap_other (by have := HN0.out; omega)⟩, World.putObj_heap_other (by omega), World.putObj_heap_other (by omega)⟩)
    (Below.refl _ _) (fun _ => rfl) (LI w n0) (LX w n0) (LI.own (by omega) (by rw [← HN0.out]; exact Nat.le_refl _)) (fun c => LX.own (by omega) (by rw [← HN0.out]; exact Nat.le_refl _) c) hI0
    (fun x => { tmps := #[.string s, undef, .pointer (some ⟨n0, 0, none⟩), .pointer (some ⟨n0 + 1, 0, none⟩), .pointer (some ⟨n0 + 2, 0, none⟩), .pointer (some ⟨n0 + 3, 0, none⟩), .string ⟨x.1.toArray⟩, undef, undef, .string s, .func (.func 53) #[] #[.pointer (some ⟨n0 + 4, 0, none⟩), .pointer (some ⟨n0 + 5, 0, none⟩)], .string ⟨x.1.toArray⟩, undef, undef, undef, undef, undef, undef, undef, undef, undef, undef, undef, undef, undef, undef, undef, undef, undef, undef, undef], defers := [] }) ?assign ?body ?done ?stop
  case assign =>
    intro l x W K hK
    gi_wp2
    exact hK
  case body =>
    rintro l pre x W hI hlt
    obtain ⟨v, hv, hown⟩ := hI.b4
    obtain ⟨oa, oc, rfl, hoc⟩ := hown.form
    rw [nets_len] at hv hown hoc
    have c4 := hv.cell
    have f4 := hv.frozen
    have c2 := hI.b2.cell
    have f2 := hI.b2.frozen
    have c3 := hI.b3.cell
    have f3 := hI.b3.frozen
    have c5 := hI.b5.cell
    have f5 := hI.b5.frozen
    have HI := Lib.hid hI
    by_cases h200 : pre.length = 200
    · have e1 : ((pre.length : Int) == 200) = true := by rw [h200]; rfl
      have HF : Hid (KeepsFrom W1.heap.size W ((W.setCell ⟨n0, 0, none⟩ (.slice none 0 0)).setCell ⟨n0 + 1, 0, none⟩ (.int .i64 71)) ∧ LX w n0 .ret (pre ++ [x]) ((W.setCell ⟨n0, 0, none⟩ (.slice none 0 0)).setCell ⟨n0 + 1, 0, none⟩ (.int .i64 71))) :=
        ⟨((KeepsOthers.setCell _ _ _).trans (KeepsOthers.setCell _ _ _)).from _, ⟨rfl, by rw [List.length_append, h200]; exact Nat.le_refl _, (Boxed.set _ hI.b2).other (by omega) _, Boxed.set _ (hI.b3.other (by omega) _),
          (hI.below.setCell (p := ⟨n0, 0, none⟩) (Nat.le_refl _) _).setCell (p := ⟨n0 + 1, 0, none⟩) (by simp) _⟩⟩
      clear hI hv hown h200 c5 f5 hoc
      gi_wp2
      exact HF.out
    · have e1 : ((pre.length : Int) == 200) = false := by rw [beq_eq_false_iff_ne]; omega
      have hlen : pre.length + 1 ≤ 200 := by have := hI.len; omega
      have HP0 := addr_any (pParse ⟨x.1.toArray⟩ W (by rw [arr_size]; exact x.2) (HE.out.on (by rw [← HN0.out]; exact hI.below)))
      obtain ⟨nx, hnx⟩ : ∃ nx, nx = (parseW x.1).getD zeroN := ⟨_, rfl⟩
      obtain ⟨cx, hcx⟩ : ∃ cx : Int, cx = if (parseW x.1).isSome = true then 0 else 70 := ⟨_, rfl⟩
      rw [show parseN ⟨x.1.toArray⟩ = parseW x.1 from rfl, ← hnx, ← hcx] at HP0
      have HP := Lib.hid HP0
      have HNX := Lib.hid hnx
      have HCX := Lib.hid hcx
      have HV := Lib.hid hv
      have HOWN := Lib.hid hown
      clear HP0 hI hv hown h200 hnx hcx c2 f2 c3 f3 c5 f5
      gi_wp2
      refine ⟨trivial, ?_⟩
      refine (CallsIn.inRound l (callsIn_wide.2 HP.out)).mono ?_
      rintro e w2 ⟨ha, rfl, b2⟩
      have HA := Lib.hid ha
      have HTH := Lib.hid (there_net (NetAt.new w2 zeroN) rfl HA.out)
      have HC := Lib.hid (size25c HA.out)
      have HS := Lib.hid (size25_of HA.out)
      have HB2 := Lib.hid b2
      clear ha b2 HP c4 f4
      gi_wp2_with (first | (refine wpListIn_store_mid rfl 25 (.tmp 7) (.tmp 18) rfl w2.heap.size 0 (netC nx) rfl rfl HTH.out HC.out (netC_all _) ?_; generalize hw3 : World.setCells _ _ _ _ = w3; refine Hid.out ?_) | fail)
      refine Lib.hid ?_
      obtain ⟨hn3, hb3⟩ := net_new HA.out hw3
      have hsz := HI.out.size
      have h6 : n0 + 6 ≤ w2.heap.size := Nat.le_trans hsz HB2.out.size
      have S3 : St n0 W w3 := (St.below HB2.out).trans (St.below hb3)
      have h63 : n0 + 6 ≤ w3.heap.size := Nat.le_trans h6 hb3.size
      have v3 : Boxed w3 (n0 + 2) 29 (.slice oa pre.length oc) := (hb3.block _ (by omega)).trans ((HB2.out.block _ (by omega)).trans HV.out)
      have r3 : Boxed w3 (n0 + 3) 26 (.int .i64 (wrongOf pre)) := (hb3.block _ (by omega)).trans ((HB2.out.block _ (by omega)).trans HI.out.b5)
      have o3 : OwnsN w3 (n0 + 6) (.slice oa pre.length oc) (netsOf pre) := (HOWN.out.on HB2.out).on hb3
      have HN3 := Lib.hid hn3
      have HS3 := Lib.hid S3
      have H63 := Lib.hid h63
      have HV3 := Lib.hid v3
      have HR3 := Lib.hid r3
      have HO3 := Lib.hid o3
      have c5 := r3.cell
      have f5 := r3.frozen
      have hbx : w2.heap.size < w3.heap.size := heap_lt hn3
      have HBX := Lib.hid hbx
      have HBX6 := Lib.hid h6
      clear hw3 hn3 hb3 h6 S3 h63 v3 r3 o3 hsz HB2 hbx
      cases hok : allOk pre with
      | true =>
        have hwr : wrongOf pre = 0 := by unfold wrongOf; rw [if_pos hok]
        rw [hwr] at c5 HR3
        have HWR : Hid (wrongOf (pre ++ [x]) = cx) := by
          show _ = _
          unfold wrongOf
          rw [ok_snoc, hok, HCX.out, Bool.true_and]
        clear hok hwr
        have SB : St n0 W (w3.setCell ⟨n0 + 3, 0, none⟩ (.int .i64 cx)) := HS3.out.trans (St.set (Or.inr rfl) HR3.out)
        have vB : Boxed (w3.setCell ⟨n0 + 3, 0, none⟩ (.int .i64 cx)) (n0 + 2) 29 (.slice oa pre.length oc) := HV3.out.other (by omega) _
        have rB : Boxed (w3.setCell ⟨n0 + 3, 0, none⟩ (.int .i64 cx)) (n0 + 3) 26 (.int .i64 cx) := Boxed.set _ HR3.out
        have oB : OwnsN (w3.setCell ⟨n0 + 3, 0, none⟩ (.int .i64 cx)) (n0 + 6) (.slice oa pre.length oc) (netsOf pre) := HO3.out.same fun g hg _ => setCell_block (by omega)
        have nB : NetAt (w3.setCell ⟨n0 + 3, 0, none⟩ (.int .i64 cx)) w2.heap.size nx := (setCell_block (by have := HBX6.out; omega)).trans HN3.out
        have zB : (w3.setCell ⟨n0 + 3, 0, none⟩ (.int .i64 cx)).heap.size = w3.heap.size := by simp [World.setCell]
        have c6 := vB.cell
        have HSB := Lib.hid SB
        have HVB := Lib.hid vB
        have HRB := Lib.hid rB
        have HNB := Lib.hid nB
        have hnw := NetAt.new (w3.setCell ⟨n0 + 3, 0, none⟩ (.int .i64 cx)) nx
        rw [zB] at hnw
        have HNW := Lib.hid hnw
        have FN := Lib.hid (fold_net HA.out)
        have HB4 := Lib.hid (Below.alloc1 (w3.setCell ⟨n0 + 3, 0, none⟩ (.int .i64 cx)) (.cells (netC nx) 25))
        have HOW4 := Lib.hid (oB.on HB4.out)
        have H6B : Hid (n0 + 6 ≤ (w3.setCell ⟨n0 + 3, 0, none⟩ (.int .i64 cx)).heap.size) := by show _ ≤ _; rw [zB]; exact H63.out
        have hll : (netsOf pre).length ≤ 1000 := by rw [nets_len]; omega
        have HLL := Lib.hid hll
        have HWX := Lib.hid zB
        have ha16 := HA.out
        clear SB vB rB oB nB zB hll hnw
        gi_wp2_with (first | (refine wpListIn_load_mid rfl 25 (.tmp 7) rfl w2.heap.size 0 rfl (netL nx) _ HNB.out.range0 Tryd.underlying25 rfl HS.out ?_) | (gi_at_builtin; simp only [FN.out]; go_must (refine wpIn_append_net _ rfl _ _ rfl (n0 + 6) (.slice oa pre.length oc) (netsOf pre) nx w3.heap.size 1 rfl rfl HOW4.out HNW.out HA.out HLL.out (Nat.le_trans H6B.out HB4.out.size) ?_); intro v5 w5 o5 g5; refine Hid.out ?_) | fail)
        refine Lib.hid ?_
        have hrow := HOW4.out.row
        obtain ⟨va, vc, hv5, _⟩ := o5.form
        obtain ⟨k5, hk5⟩ : ∃ k5, k5 = (netsOf pre ++ [nx]).length := ⟨_, rfl⟩
        rw [← hk5] at hv5
        subst hv5
        have S5 : St n0 W w5 := (HSB.out.trans (St.below HB4.out)).trans (St.grown g5 hrow)
        have v5b : Boxed w5 (n0 + 2) 29 (.slice oa pre.length oc) := (HVB.out.alloc _).kept g5 (fun e => by have := (hrow _ e.symm).1; omega)
        have r5b : Boxed w5 (n0 + 3) 26 (.int .i64 cx) := (HRB.out.alloc _).kept g5 (fun e => by have := (hrow _ e.symm).1; omega)
        have c7 := v5b.cell
        have f7 := v5b.frozen
        have S7 : St n0 W (w5.setCell ⟨n0 + 2, 0, none⟩ (.slice va k5 vc)) := S5.trans (St.set (Or.inl rfl) v5b)
        have hsw := HI.out.size
        have HF : Hid (KeepsFrom (n0 + 4 + 2) W (w5.setCell ⟨n0 + 2, 0, none⟩ (.slice va k5 vc)) ∧ KpS w (n0 + 4) (n0 + 5) W (w5.setCell ⟨n0 + 2, 0, none⟩ (.slice va k5 vc)) ∧ LI w n0 (pre ++ [x]) (w5.setCell ⟨n0 + 2, 0, none⟩ (.slice va k5 vc))) :=
          ⟨⟨S7.size, fun k o _ hk ho => S7.keep k o hk ho⟩, ⟨by rw [← HN0.out]; exact S7.bel HN0.out.symm HI.out.below, S7.old _ (by omega) (by omega) (by omega) (by omega), S7.old _ (by omega) (by omega) (by omega) (by omega)⟩,
            ⟨by rw [List.length_append]; show pre.length + 1 ≤ 200; omega, (S7.old n0 (by omega) (by omega) (by omega) (by omega)).trans HI.out.b2, (S7.old (n0 + 1) (by omega) (by omega) (by omega) (by omega)).trans HI.out.b3,
              ⟨_, Boxed.set _ v5b, by rw [nets_snoc, ← HNX.out]; exact o5.same fun g hg _ => setCell_block (by omega)⟩, by rw [HWR.out]; exact r5b.other (by omega) _, HI.out.below.trans (S7.bel HN0.out.symm HI.out.below), Nat.le_trans hsw S7.size⟩⟩
        clear hrow o5 g5 hk5 S5 v5b r5b S7 hsw
        gi_wp2
        exact HF.out
      | false =>
        have hwr : wrongOf pre = 70 := by unfold wrongOf; rw [hok]; rfl
        rw [hwr] at c5 HR3
        have HWR : Hid (wrongOf (pre ++ [x]) = 70) := by
          show _ = _
          unfold wrongOf
          rw [ok_snoc, hok, Bool.false_and]; rfl
        clear hok hwr
        have SB : St n0 W w3 := HS3.out
        have vB : Boxed w3 (n0 + 2) 29 (.slice oa pre.length oc) := HV3.out
        have rB : Boxed w3 (n0 + 3) 26 (.int .i64 70) := HR3.out
        have oB : OwnsN w3 (n0 + 6) (.slice oa pre.length oc) (netsOf pre) := HO3.out
        have nB : NetAt w3 w2.heap.size nx := HN3.out
        have zB : w3.heap.size = w3.heap.size := rfl
        have c6 := vB.cell
        have HSB := Lib.hid SB
        have HVB := Lib.hid vB
        have HRB := Lib.hid rB
        have HNB := Lib.hid nB
        have hnw := NetAt.new w3 nx
        rw [zB] at hnw
        have HNW := Lib.hid hnw
        have FN := Lib.hid (fold_net HA.out)
        have HB4 := Lib.hid (Below.alloc1 w3 (.cells (netC nx) 25))
        have HOW4 := Lib.hid (oB.on HB4.out)
        have H6B : Hid (n0 + 6 ≤ w3.heap.size) := by show _ ≤ _; rw [zB]; exact H63.out
        have hll : (netsOf pre).length ≤ 1000 := by rw [nets_len]; omega
        have HLL := Lib.hid hll
        have HWX := Lib.hid zB
        have ha16 := HA.out
        clear SB vB rB oB nB zB hll hnw
        gi_wp2_with (first | (refine wpListIn_load_mid rfl 25 (.tmp 7) rfl w2.heap.size 0 rfl (netL nx) _ HNB.out.range0 Tryd.underlying25 rfl HS.out ?_) | (gi_at_builtin; simp only [FN.out]; go_must (refine wpIn_append_net _ rfl _ _ rfl (n0 + 6) (.slice oa pre.length oc) (netsOf pre) nx w3.heap.size 1 rfl rfl HOW4.out HNW.out HA.out HLL.out (Nat.le_trans H6B.out HB4.out.size) ?_); intro v5 w5 o5 g5; refine Hid.out ?_) | fail)
        refine Lib.hid ?_
        have hrow := HOW4.out.row
        obtain ⟨va, vc, hv5, _⟩ := o5.form
        obtain ⟨k5, hk5⟩ : ∃ k5, k5 = (netsOf pre ++ [nx]).length := ⟨_, rfl⟩
        rw [← hk5] at hv5
        subst hv5
        have S5 : St n0 W w5 := (HSB.out.trans (St.below HB4.out)).trans (St.grown g5 hrow)
        have v5b : Boxed w5 (n0 + 2) 29 (.slice oa pre.length oc) := (HVB.out.alloc _).kept g5 (fun e => by have := (hrow _ e.symm).1; omega)
        have r5b : Boxed w5 (n0 + 3) 26 (.int .i64 70) := (HRB.out.alloc _).kept g5 (fun e => by have := (hrow _ e.symm).1; omega)
        have c7 := v5b.cell
        have f7 := v5b.frozen
        have S7 : St n0 W (w5.setCell ⟨n0 + 2, 0, none⟩ (.slice va k5 vc)) := S5.trans (St.set (Or.inl rfl) v5b)
        have hsw := HI.out.size
        have HF : Hid (KeepsFrom (n0 + 4 + 2) W (w5.setCell ⟨n0 + 2, 0, none⟩ (.slice va k5 vc)) ∧ KpS w (n0 + 4) (n0 + 5) W (w5.setCell ⟨n0 + 2, 0, none⟩ (.slice va k5 vc)) ∧ LI w n0 (pre ++ [x]) (w5.setCell ⟨n0 + 2, 0, none⟩ (.slice va k5 vc))) :=
          ⟨⟨S7.size, fun k o _ hk ho => S7.keep k o hk ho⟩, ⟨by rw [← HN0.out]; exact S7.bel HN0.out.symm HI.out.below, S7.old _ (by omega) (by omega) (by omega) (by omega), S7.old _ (by omega) (by omega) (by omega) (by omega)⟩,
            ⟨by rw [List.length_append]; show pre.length + 1 ≤ 200; omega, (S7.old n0 (by omega) (by omega) (by omega) (by omega)).trans HI.out.b2, (S7.old (n0 + 1) (by omega) (by omega) (by omega) (by omega)).trans HI.out.b3,
              ⟨_, Boxed.set _ v5b, by rw [nets_snoc, ← HNX.out]; exact o5.same fun g hg _ => setCell_block (by omega)⟩, by rw [HWR.out]; exact r5b.other (by omega) _, HI.out.below.trans (S7.bel HN0.out.symm HI.out.below), Nat.le_trans hsw S7.size⟩⟩
        clear hrow o5 g5 hk5 S5 v5b r5b S7 hsw
        gi_wp2
        exact HF.out
  case done =>
    rintro D ys W hD hys hI hK
    obtain ⟨v, hv, hown⟩ := hI.b4
    obtain ⟨oa, oc, rfl, hoc⟩ := hown.form
    rw [nets_len] at hv hown hoc
    have c4 := hv.cell
    have c2 := hI.b2.cell
    have f2 := hI.b2.frozen
    have c3 := hI.b3.cell
    have f3 := hI.b3.frozen
    have c5 := hI.b5.cell
    have HI := Lib.hid hI
    have HL := Lib.hid (list_of hys hI.len)
    cases hok : allOk ys with
    | true =>
      have hwr : wrongOf ys = 0 := by unfold wrongOf; rw [if_pos hok]
      rw [hwr] at c5
      rw [hok] at HL
      have hK2 : ((W.setCell ⟨n0, 0, none⟩ (.slice oa ys.length oc)).setCell ⟨n0 + 1, 0, none⟩ (.int .i64 0)).heap[D]? = some (.deferred (some [])) := (KeepsOthers.setCell _ _ _).same D _ ((KeepsOthers.setCell _ _ _).same D _ hK rfl) rfl
      gi_wp2
      refine ⟨by simp, .inl ⟨_, _, rfl, run_takeDeferred hK2, ?_⟩⟩
      have hbl : Below n0 w ((W.setCell ⟨n0, 0, none⟩ (.slice oa ys.length oc)).setCell ⟨n0 + 1, 0, none⟩ (.int .i64 0)) := (HI.out.below.setCell (p := ⟨n0, 0, none⟩) (Nat.le_refl _) _).setCell (p := ⟨n0 + 1, 0, none⟩) (by simp) _
      have q2 : Boxed ((W.setCell ⟨n0, 0, none⟩ (.slice oa ys.length oc)).setCell ⟨n0 + 1, 0, none⟩ (.int .i64 0)) n0 29 (.slice oa ys.length oc) := (Boxed.set _ HI.out.b2).other (by omega) _
      have q3 : Boxed ((W.setCell ⟨n0, 0, none⟩ (.slice oa ys.length oc)).setCell ⟨n0 + 1, 0, none⟩ (.int .i64 0)) (n0 + 1) 26 (.int .i64 0) := Boxed.set _ (HI.out.b3.other (by omega) _)
      have o3 : OwnsN ((W.setCell ⟨n0, 0, none⟩ (.slice oa ys.length oc)).setCell ⟨n0 + 1, 0, none⟩ (.int .i64 0)) (n0 + 6) (.slice oa ys.length oc) (netsOf ys) := hown.same fun g hg _ => (setCell_block (by omega)).trans (setCell_block (by omega))
      generalize ((W.setCell ⟨n0, 0, none⟩ (.slice oa ys.length oc)).setCell ⟨n0 + 1, 0, none⟩ (.int .i64 0)) = WZ at hK2 hbl q2 q3 o3 ⊢
      have hg := grownBy_putObj' WZ D (.deferred none)
      have hrr : ∀ r, some D = some r → ∃ o : Obj, WZ.heap[r]? = some o ∧ o.isCells = false := fun r e => by cases e; exact ⟨_, hK2, rfl⟩
      have hbz : Below w.heap.size w (WZ.putObj D (.deferred none)) := by rw [← HN0.out]; exact below_grown (B := n0) hbl hg (fun r e => by cases e; omega) (Nat.le_refl _) (by rw [← HN0.out]; exact Nat.le_refl _)
      exact ⟨_, results_list rfl rfl (boxed_grown q2 hg hrr).cell (boxed_grown q3 hg hrr).cell, hbz, Or.inr ⟨netsOf ys, _, HL.out, rfl, (o3.grown hg hrr).mono (by rw [← HN0.out]; omega)⟩⟩
    | false =>
      have hwr : wrongOf ys = 70 := by unfold wrongOf; rw [hok]; rfl
      rw [hwr] at c5
      rw [hok] at HL
      have c5d : W.drew.cell? ⟨n0 + 3, 0, none⟩ = some (.int .i64 70) := c5
      have hK2 : ((W.setCell ⟨n0, 0, none⟩ (.slice none 0 0)).setCell ⟨n0 + 1, 0, none⟩ (.int .i64 70)).heap[D]? = some (.deferred (some [])) := (KeepsOthers.setCell _ _ _).same D _ ((KeepsOthers.setCell _ _ _).same D _ hK rfl) rfl
      gi_wp2
      refine wpIn_wide.2 ?_
      go_region
      gi_wp2
      have hK3 : ((W.setCell ⟨n0, 0, none⟩ (.slice none 0 0)).setCell ⟨n0 + 1, 0, none⟩ (.int .i64 70)).drew.heap[D]? = some (.deferred (some [])) := hK2
      refine ⟨by simp, .inl ⟨_, _, rfl, run_takeDeferred hK3, ?_⟩⟩
      have hbl : Below n0 w ((W.setCell ⟨n0, 0, none⟩ (.slice none 0 0)).setCell ⟨n0 + 1, 0, none⟩ (.int .i64 70)).drew := ((HI.out.below.setCell (p := ⟨n0, 0, none⟩) (Nat.le_refl _) _).setCell (p := ⟨n0 + 1, 0, none⟩) (by simp) _).trans (Below.refl _ _).drew
      have q2 : Boxed ((W.setCell ⟨n0, 0, none⟩ (.slice none 0 0)).setCell ⟨n0 + 1, 0, none⟩ (.int .i64 70)).drew n0 29 (.slice none 0 0) := (Boxed.set _ HI.out.b2).other (by omega) _
      have q3 : Boxed ((W.setCell ⟨n0, 0, none⟩ (.slice none 0 0)).setCell ⟨n0 + 1, 0, none⟩ (.int .i64 70)).drew (n0 + 1) 26 (.int .i64 70) := Boxed.set _ (HI.out.b3.other (by omega) _)
      generalize ((W.setCell ⟨n0, 0, none⟩ (.slice none 0 0)).setCell ⟨n0 + 1, 0, none⟩ (.int .i64 70)).drew = WZ at hK3 hbl q2 q3 ⊢
      have hg := grownBy_putObj' WZ D (.deferred none)
      have hrr : ∀ r, some D = some r → ∃ o : Obj, WZ.heap[r]? = some o ∧ o.isCells = false := fun r e => by cases e; exact ⟨_, hK3, rfl⟩
      have hbz : Below w.heap.size w (WZ.putObj D (.deferred none)) := by rw [← HN0.out]; exact below_grown (B := n0) hbl hg (fun r e => by cases e; omega) (Nat.le_refl _) (by rw [← HN0.out]; exact Nat.le_refl _)
      exact ⟨_, results_list rfl rfl (boxed_grown q2 hg hrr).cell (boxed_grown q3 hg hrr).cell, hbz, Or.inl ⟨70, HL.out, rfl⟩⟩
  case stop =>
    rintro D c pre W hD hp hX hK
    obtain rfl := hX.ret
    have HX := Lib.hid hX
    have HL := Lib.hid (list_many hp hX.len)
    gi_wp2
    refine ⟨by simp, .inl ⟨_, _, rfl, run_takeDeferred hK, ?_⟩⟩
    have hg := grownBy_putObj' W D (.deferred none)
    have hrr : ∀ r, some D = some r → ∃ o : Obj, W.heap[r]? = some o ∧ o.isCells = false := fun r e => by cases e; exact ⟨_, hK, rfl⟩
    have hbz : Below w.heap.size w (W.putObj D (.deferred none)) := by rw [← HN0.out]; exact below_grown (B := n0) HX.out.below hg (fun r e => by cases e; omega) (Nat.le_refl _) (by rw [← HN0.out]; exact Nat.le_refl _)
    exact ⟨_, results_list rfl rfl (boxed_grown HX.out.b2 hg hrr).cell (boxed_grown HX.out.b3 hg hrr).cell, hbz, Or.inl ⟨71, HL.out, rfl⟩⟩
end Go.Proofs.YtdmajikhpacpfaaDoor.Cidr
