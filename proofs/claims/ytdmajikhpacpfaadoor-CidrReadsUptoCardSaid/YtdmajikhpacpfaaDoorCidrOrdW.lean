/-
  CIDR: to lie within is an order: the statement's walk.
-/
import Derived.Test.YtdmajikhpacpfaaDoorCidrShown
import Derived.Test.YtdmajikhpacpfaaDoorCidrPMath
namespace Go.Proofs.YtdmajikhpacpfaaDoor.Cidr
open Go.RowKit Base
theorem exec_eqlNet {ρ : Operand → Value} {o : Oper} {s t : Operand} {r : TypeId} {x y : NetM} (ho : o.op = .binOp .eql 25 s t r) (hs : ρ s = netV x) (ht : ρ t = netV y) (hx : x.a.length = 16) (hy : y.a.length = 16) (w : World) :
    (execOp ρ o).run Tryd.prog w = .ok (.value (.bool (decide (x = y)))) w := by
  unfold execOp
  simp only [ho, hs, ht, Sem.run_bind, run_eqGuard_agg w _ _ _ _ _ _ guard25, Result.andThen_ok, run_eqlNet x y hx hy w, Sem.run_pure]
theorem wpList_eql_g {ops : Array Oper} {rest : List Oper} {op : Oper} {a : Act} {w : World} {Q : Exit → Act → World → Prop} (hgd : Region.wanted op (yielded ops a.tmps) = true) (s t : Operand) (r : TypeId) (ho : op.op = .binOp .eql 25 s t r)
    (x y : NetM) (hs : a.eval s = netV x) (ht : a.eval t = netV y) (hx : x.a.length = 16) (hy : y.a.length = 16)
    (h : wpList Tryd.prog ops Q rest (a.put op.dst (.bool (decide (x = y)))) w) : wpList Tryd.prog ops Q (op :: rest) a w := by
  show (if Region.wanted op (yielded ops a.tmps) then _ else _)
  rw [if_pos hgd]
  refine Or.inl ?_
  unfold Oper.wp
  rw [exec_eqlNet ho hs ht hx hy w]
  exact h
/-! ### The order -/
theorem within_iff {n i : NetM} : withinN n i = true ↔ rightN n = true ∧ rightN i = true ∧ n.six = i.six ∧ i.bits ≤ n.bits ∧ ∀ j, j < i.bits.toNat → bitA n.a j = bitA i.a j := by
  unfold withinN
  rw [Bool.and_eq_true, Bool.and_eq_true, Bool.and_eq_true, Bool.and_eq_true, eqFrom_iff, decide_eq_true_iff, beq_iff_eq]
theorem right_zero {n : NetM} (h : rightN n = true) : ∀ j, n.bits.toNat ≤ j → j < 128 → bitA n.a j = 0 := by
  unfold rightN at h
  rw [Bool.and_eq_true, zeroFrom_iff] at h
  exact h.2
theorem within_self (n : NetM) : withinN n n = rightN n := by
  rw [Bool.eq_iff_iff, within_iff]
  exact ⟨fun h => h.1, fun h => ⟨h, h, rfl, by omega, fun _ _ => rfl⟩⟩
theorem within_anti {n i : NetM} (hn : n.a.length = 16) (hi : i.a.length = 16) (h1 : withinN n i = true) (h2 : withinN i n = true) : n = i := by
  obtain ⟨r1, r2, h3, h4, h5⟩ := within_iff.1 h1
  obtain ⟨_, _, _, h6, _⟩ := within_iff.1 h2
  have hb : n.bits = i.bits := by omega
  have ha : n.a = i.a := (addr_ext hn hi).2 fun j hj => by
    by_cases hlt : j < i.bits.toNat
    · exact h5 j hlt
    · rw [right_zero r1 j (by omega) hj, right_zero r2 j (by omega) hj]
  obtain ⟨a, b, c⟩ := n
  obtain ⟨d, e, f⟩ := i
  simp only at h3 hb ha
  rw [h3, hb, ha]
theorem within_trans {a b c : NetM} (h1 : withinN a b = true) (h2 : withinN b c = true) : withinN a c = true := by
  obtain ⟨r1, r2, h3, h4, h5⟩ := within_iff.1 h1
  obtain ⟨_, r3, h6, h7, h8⟩ := within_iff.1 h2
  have b1 := (rightN_bits r3).1
  exact within_iff.2 ⟨r1, r3, h3.trans h6, by omega, fun j hj => (h5 j (by omega)).trans (h8 j hj)⟩
set_option maxHeartbeats 4000000 in
set_option maxRecDepth 100000 in
theorem orders_law (a b c : NetM) (ha : a.a.length = 16) (hb : b.a.length = 16) (hc : c.a.length = 16) (w : World) (he : EnvS w) : Calls Tryd.prog 7 #[netV a, netV b, netV c] w fun e w' => e = .returned (.bool true) ∧ Below w.heap.size w w' := by
  have HS1 := Lib.hid (size25_of ha)
  have HS2 := Lib.hid (size25_of hb)
  have HS3 := Lib.hid (size25_of hc)
  have HA := Lib.hid ha
  have HB := Lib.hid hb
  have HR := Lib.hid (fun wx => pRight a ha wx)
  have HAA := Lib.hid (fun wx => pWithin a a ha ha wx)
  have HAB := Lib.hid (fun wx => pWithin a b ha hb wx)
  have HBA := Lib.hid (fun wx => pWithin b a hb ha wx)
  have HBC := Lib.hid (fun wx => pWithin b c hb hc wx)
  have HAC := Lib.hid (fun wx => pWithin a c ha hc wx)
  have HSH := Lib.hid (fun wx hx => shown_any wx hx)
  have hself := within_self a
  rw [hself] at HAA
  have hanti := fun h1 h2 => within_anti ha hb h1 h2
  have htrans := fun h1 h2 => within_trans (a := a) (b := b) (c := c) h1 h2
  generalize rightN a = ra at HR HAA
  generalize withinN a b = ab at HAB hanti htrans
  generalize withinN b a = ba at HBA hanti
  generalize withinN b c = bc at HBC htrans
  generalize withinN a c = ac at HAC htrans
  have HN1 := Lib.hid (NetAt.new w a)
  have HB1 := Lib.hid (Below.alloc1 w (.cells (netC a) 25))
  have HN2 := Lib.hid (NetAt.new (w.alloc (.cells (netC a) 25)) b)
  have HB2 := Lib.hid (Below.alloc1 (w.alloc (.cells (netC a) 25)) (.cells (netC b) 25))
  have HN3 := Lib.hid (NetAt.new ((w.alloc (.cells (netC a) 25)).alloc (.cells (netC b) 25)) c)
  have HB3 := Lib.hid (Below.alloc1 ((w.alloc (.cells (netC a) 25)).alloc (.cells (netC b) 25)) (.cells (netC c) 25))
  have hsz1 : (w.alloc (.cells (netC a) 25)).heap.size = w.heap.size + 1 := by simp
  have hsz2 : ((w.alloc (.cells (netC a) 25)).alloc (.cells (netC b) 25)).heap.size = w.heap.size + 1 + 1 := by simp
  rw [hsz1] at HN2
  rw [hsz2] at HN3
  have HBW : Hid (Below w.heap.size w (((w.alloc (.cells (netC a) 25)).alloc (.cells (netC b) 25)).alloc (.cells (netC c) 25))) := (HB1.out.trans (HB2.out.mono (by simp))).trans (HB3.out.mono (by simp; omega))
  have HX1 : Hid (NetAt (((w.alloc (.cells (netC a) 25)).alloc (.cells (netC b) 25)).alloc (.cells (netC c) 25)) w.heap.size a) := (HN1.out.on HB2.out).on HB3.out
  have HX2 : Hid (NetAt (((w.alloc (.cells (netC a) 25)).alloc (.cells (netC b) 25)).alloc (.cells (netC c) 25)) (w.heap.size + 1) b) := HN2.out.on HB3.out
  have HX3 := HN3
  have HE := Lib.hid he
  clear HN1 HN2 HN3 HB1 HB2 HB3 hsz1 hsz2 he ha hb hc hself
  have HAN := Lib.hid hanti
  have HTR := Lib.hid htrans
  clear hanti htrans
  go_enter Tryd.func7, Tryd.ntmps7
  go_wp2_with (first | (go_at_call 8; refine (HSH.out _ (HE.out.on HBW.out)).mono ?_; rintro e w1 ⟨rfl, b1⟩; refine Hid.out ?_) | fail)
  refine Lib.hid ?_
  replace HX1 := Lib.hid (HX1.out.on b1)
  replace HX2 := Lib.hid (HX2.out.on b1)
  replace HX3 := Lib.hid (HX3.out.on b1)
  have HBW1 : Hid (Below w.heap.size w w1) := HBW.out.trans (b1.mono HBW.out.size)
  clear b1
  go_wp2_with (first | (refine wpList_load_mid rfl 25 (.tmp 3) rfl w.heap.size 0 rfl (netL a) _ HX1.out.range0 Tryd.underlying25 rfl HS1.out ?_) | (go_at_call 18; refine (HR.out _).mono ?_; rintro e w2 ⟨rfl, b1⟩; refine Hid.out ?_) | fail)
  refine Lib.hid ?_
  replace HX1 := Lib.hid (HX1.out.on b1)
  replace HX2 := Lib.hid (HX2.out.on b1)
  replace HX3 := Lib.hid (HX3.out.on b1)
  have HBW2 : Hid (Below w.heap.size w w2) := HBW1.out.trans (b1.mono HBW1.out.size)
  clear b1
  go_wp2_with (first | (refine wpList_load_mid rfl 25 (.tmp 3) rfl w.heap.size 0 rfl (netL a) _ HX1.out.range0 Tryd.underlying25 rfl HS1.out ?_) | (go_at_call 20; refine (HAA.out _).mono ?_; rintro e w3 ⟨rfl, b1⟩; refine Hid.out ?_) | fail)
  refine Lib.hid ?_
  replace HX1 := Lib.hid (HX1.out.on b1)
  replace HX2 := Lib.hid (HX2.out.on b1)
  replace HX3 := Lib.hid (HX3.out.on b1)
  have HBW3 : Hid (Below w.heap.size w w3) := HBW2.out.trans (b1.mono HBW2.out.size)
  clear b1
  go_wp2_with (first | (refine wpList_load_mid rfl 25 (.tmp 3) rfl w.heap.size 0 rfl (netL a) _ HX1.out.range0 Tryd.underlying25 rfl HS1.out ?_) | (refine wpList_load_mid rfl 25 (.tmp 4) rfl (w.heap.size + 1) 0 rfl (netL b) _ HX2.out.range0 Tryd.underlying25 rfl HS2.out ?_) | (go_at_call 20; refine (HAB.out _).mono ?_; rintro e w4 ⟨rfl, b1⟩; refine Hid.out ?_) | fail)
  refine Lib.hid ?_
  replace HX1 := Lib.hid (HX1.out.on b1)
  replace HX2 := Lib.hid (HX2.out.on b1)
  replace HX3 := Lib.hid (HX3.out.on b1)
  have HBW4 : Hid (Below w.heap.size w w4) := HBW3.out.trans (b1.mono HBW3.out.size)
  clear b1
  go_wp2_with (first | (refine wpList_load_mid rfl 25 (.tmp 4) rfl (w.heap.size + 1) 0 rfl (netL b) _ HX2.out.range0 Tryd.underlying25 rfl HS2.out ?_) | (refine wpList_load_mid rfl 25 (.tmp 3) rfl w.heap.size 0 rfl (netL a) _ HX1.out.range0 Tryd.underlying25 rfl HS1.out ?_) | (go_at_call 20; refine (HBA.out _).mono ?_; rintro e w5 ⟨rfl, b1⟩; refine Hid.out ?_) | fail)
  refine Lib.hid ?_
  replace HX1 := Lib.hid (HX1.out.on b1)
  replace HX2 := Lib.hid (HX2.out.on b1)
  replace HX3 := Lib.hid (HX3.out.on b1)
  have HBW5 : Hid (Below w.heap.size w w5) := HBW4.out.trans (b1.mono HBW4.out.size)
  clear b1
  go_wp2_with (first | (refine wpList_load_mid rfl 25 (.tmp 4) rfl (w.heap.size + 1) 0 rfl (netL b) _ HX2.out.range0 Tryd.underlying25 rfl HS2.out ?_) | (refine wpList_load_mid rfl 25 (.tmp 5) rfl (w.heap.size + 1 + 1) 0 rfl (netL c) _ HX3.out.range0 Tryd.underlying25 rfl HS3.out ?_) | (go_at_call 20; refine (HBC.out _).mono ?_; rintro e w6 ⟨rfl, b1⟩; refine Hid.out ?_) | fail)
  refine Lib.hid ?_
  replace HX1 := Lib.hid (HX1.out.on b1)
  replace HX2 := Lib.hid (HX2.out.on b1)
  replace HX3 := Lib.hid (HX3.out.on b1)
  have HBW6 : Hid (Below w.heap.size w w6) := HBW5.out.trans (b1.mono HBW5.out.size)
  clear b1
  go_wp2_with (first | (refine wpList_load_mid rfl 25 (.tmp 3) rfl w.heap.size 0 rfl (netL a) _ HX1.out.range0 Tryd.underlying25 rfl HS1.out ?_) | (refine wpList_load_mid rfl 25 (.tmp 5) rfl (w.heap.size + 1 + 1) 0 rfl (netL c) _ HX3.out.range0 Tryd.underlying25 rfl HS3.out ?_) | (go_at_call 20; refine (HAC.out _).mono ?_; rintro e w7 ⟨rfl, b1⟩; refine Hid.out ?_) | fail)
  refine Lib.hid ?_
  replace HX1 := Lib.hid (HX1.out.on b1)
  replace HX2 := Lib.hid (HX2.out.on b1)
  replace HX3 := Lib.hid (HX3.out.on b1)
  have HBW7 : Hid (Below w.heap.size w w7) := HBW6.out.trans (b1.mono HBW6.out.size)
  clear b1
  have hra : (ra == ra) = true := by simp
  cases ab with
  | false =>
    go_wp2
    go_ret
    exact ⟨by simp, HBW7.out⟩
  | true =>
    cases bc with
    | true =>
      have hac : ac = true := HTR.out rfl rfl
      subst hac
      cases ba with
      | false =>
        go_wp2
        go_ret
        exact ⟨by simp, HBW7.out⟩
      | true =>
        have hab : a = b := HAN.out rfl rfl
        have hdc : decide (a = b) = true := by simp [hab]
        clear hab
        go_wp2_with (first | (refine wpList_load_g (by rfl) 25 (.tmp 3) rfl w.heap.size 0 rfl (netL a) _ HX1.out.range0 Tryd.underlying25 rfl HS1.out ?_) | (refine wpList_load_g (by rfl) 25 (.tmp 4) rfl (w.heap.size + 1) 0 rfl (netL b) _ HX2.out.range0 Tryd.underlying25 rfl HS2.out ?_) | (refine wpList_eql_g (by rfl) (.tmp 46) (.tmp 47) 25 rfl a b rfl rfl HA.out HB.out ?_; rw [hdc]) | fail)
        go_ret
        exact ⟨by simp, HBW7.out⟩
    | false =>
      cases ba with
      | false =>
        go_wp2
        go_ret
        exact ⟨by simp, HBW7.out⟩
      | true =>
        have hab : a = b := HAN.out rfl rfl
        have hdc : decide (a = b) = true := by simp [hab]
        clear hab
        go_wp2_with (first | (refine wpList_load_g (by rfl) 25 (.tmp 3) rfl w.heap.size 0 rfl (netL a) _ HX1.out.range0 Tryd.underlying25 rfl HS1.out ?_) | (refine wpList_load_g (by rfl) 25 (.tmp 4) rfl (w.heap.size + 1) 0 rfl (netL b) _ HX2.out.range0 Tryd.underlying25 rfl HS2.out ?_) | (refine wpList_eql_g (by rfl) (.tmp 46) (.tmp 47) 25 rfl a b rfl rfl HA.out HB.out ?_; rw [hdc]) | fail)
        go_ret
        exact ⟨by simp, HBW7.out⟩
end Go.Proofs.YtdmajikhpacpfaaDoor.Cidr
