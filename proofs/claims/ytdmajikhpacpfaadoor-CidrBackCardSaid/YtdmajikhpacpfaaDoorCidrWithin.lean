/-
  CIDR, the given answers: whether a range lies in another one.
-/
import Derived.Test.YtdmajikhpacpfaaDoorCidrNet
import Derived.Deep.RegionHeld3
namespace Go.Proofs.YtdmajikhpacpfaaDoor.Cidr
open Go.RowKit Base
def eqF (a b : List UInt8) : Nat → Nat → Bool
  | 0, _ => true
  | n + 1, k => bitA a k == bitA b k && eqF a b n (k + 1)
/-- Are the bits from k up to m the same? -/
def eqFrom (a b : List UInt8) (m k : Nat) : Bool := eqF a b (m - k) k
theorem eqFrom_step (a b : List UInt8) {m k : Nat} (h : k < m) : eqFrom a b m k = (bitA a k == bitA b k && eqFrom a b m (k + 1)) := by
  unfold eqFrom
  rw [show m - k = (m - (k + 1)) + 1 by omega, eqF]
theorem eqFrom_end (a b : List UInt8) {m k : Nat} (h : m ≤ k) : eqFrom a b m k = true := by
  unfold eqFrom
  rw [show m - k = 0 by omega, eqF]
/-- Does n lie in i? -/
def withinN (n i : NetM) : Bool := rightN n && (rightN i && (n.six == i.six && (decide (i.bits ≤ n.bits) && eqFrom n.a i.a i.bits.toNat 0)))
theorem rightN_bits {n : NetM} (h : rightN n = true) : 0 ≤ n.bits ∧ n.bits ≤ 128 := by
  unfold rightN at h
  rw [Bool.and_eq_true, decide_eq_true_iff] at h
  have : sizeN n.six ≤ 128 := by unfold sizeN; split <;> omega
  omega
def TwoS (wr : World) (b1 b2 : Nat) (a b : List UInt8) (w' : World) : Prop := Below wr.heap.size wr w' ∧ w'.rangeAt b1 2 (a.map B8) ∧ w'.rangeAt b2 2 (b.map B8)
theorem rangeAt_on {w w' : World} {b o : Nat} {cs : List Value} (h : w.rangeAt b o cs) (hb : Below w.heap.size w w') : w'.rangeAt b o cs := fun j v hv => (hb.cell (p := ⟨b, o + j, none⟩) (cell_lt (h j v hv))).trans (h j v hv)
theorem two_keep {wr w1 w2 : World} {b1 b2 : Nat} {a b : List UInt8} (h : TwoS wr b1 b2 a b w1) (hb : Below w1.heap.size w1 w2) : TwoS wr b1 b2 a b w2 := ⟨h.1.trans (hb.mono h.1.size), rangeAt_on h.2.1 hb, rangeAt_on h.2.2 hb⟩
theorem two_drew {wr : World} {b1 b2 : Nat} {n i : NetM} (h1 : NetAt wr b1 n) (h2 : NetAt wr b2 i) : TwoS wr b1 b2 n.a i.a wr.drew := by
  have hb : Below wr.heap.size wr wr.drew := ⟨rfl, rfl, rfl, Nat.le_refl _, fun _ _ => rfl⟩
  exact ⟨hb, rangeAt_on h1.range hb, rangeAt_on h2.range hb⟩
set_option maxHeartbeats 4000000 in
set_option maxRecDepth 100000 in
set_option linter.unusedSimpArgs false in
theorem rWithin (n i : NetM) (ha : n.a.length = 16) (hai : i.a.length = 16) (w : World) : Calls Tryd.prog 22 #[netV n, netV i] w (AnsB (withinN n i) w) := by
  have HA := Lib.hid ha
  have HAI := Lib.hid hai
  obtain ⟨W, hW⟩ : ∃ W, W = withinN n i := ⟨_, rfl⟩
  rw [← hW]
  unfold withinN at hW
  have hn0 := NetAt.new w n
  have hn1 := NetAt.on hn0 (Below.alloc1 _ (.cells (netC i) 25))
  have hi1 : NetAt ((w.alloc (.cells (netC n) 25)).alloc (.cells (netC i) 25)) (w.heap.size + 1) i := by
    have := NetAt.new (w.alloc (.cells (netC n) 25)) i
    rwa [show (w.alloc (.cells (netC n) 25)).heap.size = w.heap.size + 1 by simp] at this
  have HN := Lib.hid hn1
  have HI := Lib.hid hi1
  have HB0 : Hid (Below w.heap.size w ((w.alloc (.cells (netC n) 25)).alloc (.cells (netC i) 25))) := (Below.alloc1 _ _).trans ((Below.alloc1 _ _).mono (by simp))
  have HS := Lib.hid (size25_of ha)
  have HSI := Lib.hid (size25_of hai)
  have HR1 := Lib.hid (fun wr => rRight n HA.out wr)
  have HR2 := Lib.hid (fun wr => rRight i HAI.out wr)
  have HBITS := Lib.hid (fun h => rightN_bits (n := i) h)
  generalize rightN n = r1 at hW HR1
  generalize rightN i = r2 at hW HR2 HBITS
  have HW := Lib.hid hW
  clear hW hn0 hn1 hi1 ha hai
  go_enter Tryd.func22, Tryd.ntmps22
  go_wp2_with (first | (refine wpList_load_mid rfl 25 (.tmp 2) rfl w.heap.size 0 rfl (.bool n.six :: .int .i64 n.bits :: n.a.map B8) _ HN.out.range0 Tryd.underlying25 rfl HS.out ?_) | (go_at_call 19; refine (HR1.out _).mono ?_; rintro e w2 ⟨rfl, b2⟩; refine Hid.out ?_) | fail)
  refine Lib.hid ?_
  have HN2 := Lib.hid (HN.out.on b2)
  have HI2 := Lib.hid (HI.out.on b2)
  have HB2 := Lib.hid (HB0.out.trans (b2.mono HB0.out.size))
  clear b2
  go_wp2_with (first | (refine wpList_load_mid rfl 25 (.tmp 3) rfl (w.heap.size + 1) 0 rfl (.bool i.six :: .int .i64 i.bits :: i.a.map B8) _ HI2.out.range0 Tryd.underlying25 rfl HSI.out ?_) | (go_at_call 19; refine (HR2.out _).mono ?_; rintro e w3 ⟨rfl, b3⟩; refine Hid.out ?_) | fail)
  refine Lib.hid ?_
  have hn3 := HN2.out.on b3
  have hi3 := HI2.out.on b3
  have HN3 := Lib.hid hn3
  have HI3 := Lib.hid hi3
  have HB3 := Lib.hid (HB2.out.trans (b3.mono HB2.out.size))
  have k1 := hn3.six
  have k2 := hn3.bits
  have k3 := hi3.six
  have k4 := hi3.bits
  clear b3 hn3 hi3
  cases r1 with
  | false =>
    have HW2 : Hid (W = false) := HW.out
    go_wp2
    go_ret
    exact ⟨ret_bool HW2.out.symm, HB3.out⟩
  | true =>
    cases r2 with
    | false =>
      have HW2 : Hid (W = false) := HW.out
      go_wp2
      go_ret
      exact ⟨ret_bool HW2.out.symm, HB3.out⟩
    | true =>
      have HBT := Lib.hid (HBITS.out rfl)
      have HW1 : Hid (W = (n.six == i.six && (decide (i.bits ≤ n.bits) && eqFrom n.a i.a i.bits.toNat 0))) := HW.out
      by_cases h6 : n.six = i.six
      · have e6 : (n.six == i.six) = true := by rw [h6]; simp
        by_cases hb : i.bits ≤ n.bits
        · have eb : ¬ n.bits < i.bits := by omega
          obtain ⟨m, hm⟩ := Int.eq_ofNat_of_zero_le HBT.out.1
          have HM : Hid (m ≤ 128) := by show m ≤ 128; have := HBT.out.2; omega
          have HW2 : Hid (W = eqFrom n.a i.a m 0) := by
            have := HW1.out
            rw [e6, decide_eq_true hb, hm] at this
            exact this
          rw [hm] at k4 eb
          have HIB : Hid (NetAt w3 (w.heap.size + 1) i ∧ i.bits = (m : Int)) := ⟨HI3.out, hm⟩
          clear h6 hb HW HW1 HBT hm
          go_wp2
          go_loopw [7] (fun x wr => ∃ k : Nat, k ≤ m ∧ x = .int .i64 k ∧ NetAt wr w.heap.size n ∧ NetAt wr (w.heap.size + 1) i ∧ Below w.heap.size w wr ∧ Hid (W = eqFrom n.a i.a m k)) (fun x _ => m - (intOf x).toNat)
          case atStart => exact ⟨0, Nat.zero_le _, rfl, HN3.out, HI3.out, HB3.out, HW2.out⟩
          case round =>
            obtain ⟨k, hk, rfl, hat, hat2, hbw, hz⟩ := hrel
            have q4 := hat2.bits
            rw [HIB.out.2] at q4
            by_cases hlt : k < m
            · have hm2 := HM.out
              have HZ := Lib.hid (hz.out.trans (eqFrom_step n.a i.a hlt))
              have HBIT1 := Lib.hid (fun wx => rBit n.a HA.out k (by omega) wx)
              have HBIT2 := Lib.hid (fun wx => rBit i.a HAI.out k (by omega) wx)
              have HAT := Lib.hid hat
              have HAT2 := Lib.hid hat2
              have HBW := Lib.hid hbw
              have HTW := Lib.hid (two_drew hat hat2)
              have i1 : (k : Int) < (m : Int) := by omega
              have u23 := Tryd.underlying23
              have z1 := size23_of HA.out
              have z2 := size23_of HAI.out
              clear hz hat hat2 hbw
              generalize bitA n.a k = x1 at HBIT1 HZ
              generalize bitA i.a k = x2 at HBIT2 HZ
              have hx0 : (x1 == x2) = true ∨ ((x1 == x2) = false ∧ ((x1 : Int) == (x2 : Int)) = false) := by
                by_cases hx : x1 = x2
                · left; rw [hx]; simp
                · right; exact ⟨by rw [beq_eq_false_iff_ne]; exact hx, by rw [beq_eq_false_iff_ne]; omega⟩
              rcases hx0 with hx | ⟨hx, hxi⟩
              · obtain rfl : x1 = x2 := by simpa using hx
                have HZ2 : Hid (W = eqFrom n.a i.a m (k + 1)) := by have := HZ.out; rw [hx, Bool.true_and] at this; exact this
                clear HZ hx
                go_wp2
                refine wp_region_noPanic ?_
                refine wp_region_held_drew (S := (fun w' => Below wr.heap.size wr w' ∧ w'.rangeAt w.heap.size 2 (n.a.map B8) ∧ w'.rangeAt (w.heap.size + 1) 2 (i.a.map B8))) (by kernel_rfl) HTW.out (fun hHeld => ?_)
                refine wpAnyH_take (i := 0) (v := ?va1) rfl (by kernel_rfl) (by kernel_rfl) (by kernel_rfl) (fun _ _ _ h => h) (Or.inl ⟨by rfl, ?hya1⟩) (by assumption) ?resta1
                case hya1 => (intro w hSw; (try dsimp only at hSw); go_simp; try with_reducible rfl)
                (try simp only [Act.put, List.getElem_toArray, List.getElem_cons_succ, List.getElem_cons_zero, List.setIfInBounds_toArray, List.set_cons_zero, List.set_cons_succ])
                refine wpAnyH_take (i := 1) rfl (by kernel_rfl) (by kernel_rfl) (by kernel_rfl) (fun _ _ _ h => h) (yieldsIf_load_mid (by rfl) 23 (.tmp 38) rfl w.heap.size 2 rfl (n.a.map B8) _ (fun w' h => h.2.1) u23 rfl z1) (by assumption) ?_
                (try simp only [Act.put, List.getElem_toArray, List.getElem_cons_succ, List.getElem_cons_zero, List.setIfInBounds_toArray, List.set_cons_zero, List.set_cons_succ])
                refine wpAnyH_take (i := 2) (v := ?va3) rfl (by kernel_rfl) (by kernel_rfl) (by kernel_rfl) (fun _ _ _ h => h) (Or.inl ⟨by rfl, ?hya3⟩) (by assumption) ?resta3
                case hya3 => (intro w hSw; (try dsimp only at hSw); go_simp; try with_reducible rfl)
                (try simp only [Act.put, List.getElem_toArray, List.getElem_cons_succ, List.getElem_cons_zero, List.setIfInBounds_toArray, List.set_cons_zero, List.set_cons_succ])
                refine wpAnyH_take (i := 4) (v := ?va4) rfl (by kernel_rfl) (by kernel_rfl) (by kernel_rfl) (fun _ _ _ h => h) (Or.inl ⟨by rfl, ?hya4⟩) (by assumption) ?resta4
                case hya4 => (intro w hSw; (try dsimp only at hSw); go_simp; try with_reducible rfl)
                (try simp only [Act.put, List.getElem_toArray, List.getElem_cons_succ, List.getElem_cons_zero, List.setIfInBounds_toArray, List.set_cons_zero, List.set_cons_succ])
                refine wpAnyH_take (i := 5) rfl (by kernel_rfl) (by kernel_rfl) (by kernel_rfl) (fun _ _ _ h => h) (yieldsIf_load_mid (by rfl) 23 (.tmp 42) rfl (w.heap.size + 1) 2 rfl (i.a.map B8) _ (fun w' h => h.2.2) u23 rfl z2) (by assumption) ?_
                (try simp only [Act.put, List.getElem_toArray, List.getElem_cons_succ, List.getElem_cons_zero, List.setIfInBounds_toArray, List.set_cons_zero, List.set_cons_succ])
                refine wpAnyH_take (i := 6) (v := ?va6) rfl (by kernel_rfl) (by kernel_rfl) (by kernel_rfl) (fun _ _ _ h => h) (Or.inl ⟨by rfl, ?hya6⟩) (by assumption) ?resta6
                case hya6 => (intro w hSw; (try dsimp only at hSw); go_simp; try with_reducible rfl)
                (try simp only [Act.put, List.getElem_toArray, List.getElem_cons_succ, List.getElem_cons_zero, List.setIfInBounds_toArray, List.set_cons_zero, List.set_cons_succ])
                refine wpAnyH_ready (rs := [3]) (by kernel_rfl) (by simp) ?_
                refine AllReadyH.cons rfl (fun K hK => ?_) AllReadyH.nil
                go_simp
                go_wp2_with (go_at_call 44; refine (HBIT1.out _).mono ?_; rintro e wn1 ⟨rfl, hb1⟩)
                refine hK.out _ _ (two_keep (by assumption) hb1) (fun hHeld => ?_)
                clear hK K
                (try simp only [Act.put, List.getElem_toArray, List.getElem_cons_succ, List.getElem_cons_zero, List.setIfInBounds_toArray, List.set_cons_zero, List.set_cons_succ])
                refine wpAnyH_ready (rs := [7]) (by kernel_rfl) (by simp) ?_
                refine AllReadyH.cons rfl (fun K hK => ?_) AllReadyH.nil
                go_simp
                go_wp2_with (go_at_call 44; refine (HBIT2.out _).mono ?_; rintro e wn2 ⟨rfl, hb2⟩)
                refine hK.out _ _ (two_keep (by assumption) hb2) (fun hHeld => ?_)
                clear hK K
                (try simp only [Act.put, List.getElem_toArray, List.getElem_cons_succ, List.getElem_cons_zero, List.setIfInBounds_toArray, List.set_cons_zero, List.set_cons_succ])
                refine wpAnyH_take (i := 8) (v := ?va9) rfl (by kernel_rfl) (by kernel_rfl) (by kernel_rfl) (fun _ _ _ h => h) (Or.inl ⟨by rfl, ?hya9⟩) (by assumption) ?resta9
                case hya9 => (intro w hSw; (try dsimp only at hSw); go_simp; try with_reducible rfl)
                (try simp only [Act.put, List.getElem_toArray, List.getElem_cons_succ, List.getElem_cons_zero, List.setIfInBounds_toArray, List.set_cons_zero, List.set_cons_succ])
                refine wpAnyH_done (by kernel_rfl) ?_ _
                refine NoPanic.normal ?_
                go_wp2
                go_roundw
                case rel => exact ⟨k + 1, by omega, by go_num, HAT.out.on (And.left (by assumption)), HAT2.out.on (And.left (by assumption)), HBW.out.trans (Below.mono (And.left (by assumption)) HBW.out.size), HZ2.out⟩
                case measure => simp [intOf]; omega
              · have HZ2 : Hid (W = false) := by have := HZ.out; rw [hx, Bool.false_and] at this; exact this
                clear HZ hx
                go_wp2
                refine wp_region_noPanic ?_
                refine wp_region_held_drew (S := (fun w' => Below wr.heap.size wr w' ∧ w'.rangeAt w.heap.size 2 (n.a.map B8) ∧ w'.rangeAt (w.heap.size + 1) 2 (i.a.map B8))) (by kernel_rfl) HTW.out (fun hHeld => ?_)
                refine wpAnyH_take (i := 0) (v := ?vb1) rfl (by kernel_rfl) (by kernel_rfl) (by kernel_rfl) (fun _ _ _ h => h) (Or.inl ⟨by rfl, ?hyb1⟩) (by assumption) ?restb1
                case hyb1 => (intro w hSw; (try dsimp only at hSw); go_simp; try with_reducible rfl)
                (try simp only [Act.put, List.getElem_toArray, List.getElem_cons_succ, List.getElem_cons_zero, List.setIfInBounds_toArray, List.set_cons_zero, List.set_cons_succ])
                refine wpAnyH_take (i := 1) rfl (by kernel_rfl) (by kernel_rfl) (by kernel_rfl) (fun _ _ _ h => h) (yieldsIf_load_mid (by rfl) 23 (.tmp 38) rfl w.heap.size 2 rfl (n.a.map B8) _ (fun w' h => h.2.1) u23 rfl z1) (by assumption) ?_
                (try simp only [Act.put, List.getElem_toArray, List.getElem_cons_succ, List.getElem_cons_zero, List.setIfInBounds_toArray, List.set_cons_zero, List.set_cons_succ])
                refine wpAnyH_take (i := 2) (v := ?vb3) rfl (by kernel_rfl) (by kernel_rfl) (by kernel_rfl) (fun _ _ _ h => h) (Or.inl ⟨by rfl, ?hyb3⟩) (by assumption) ?restb3
                case hyb3 => (intro w hSw; (try dsimp only at hSw); go_simp; try with_reducible rfl)
                (try simp only [Act.put, List.getElem_toArray, List.getElem_cons_succ, List.getElem_cons_zero, List.setIfInBounds_toArray, List.set_cons_zero, List.set_cons_succ])
                refine wpAnyH_take (i := 4) (v := ?vb4) rfl (by kernel_rfl) (by kernel_rfl) (by kernel_rfl) (fun _ _ _ h => h) (Or.inl ⟨by rfl, ?hyb4⟩) (by assumption) ?restb4
                case hyb4 => (intro w hSw; (try dsimp only at hSw); go_simp; try with_reducible rfl)
                (try simp only [Act.put, List.getElem_toArray, List.getElem_cons_succ, List.getElem_cons_zero, List.setIfInBounds_toArray, List.set_cons_zero, List.set_cons_succ])
                refine wpAnyH_take (i := 5) rfl (by kernel_rfl) (by kernel_rfl) (by kernel_rfl) (fun _ _ _ h => h) (yieldsIf_load_mid (by rfl) 23 (.tmp 42) rfl (w.heap.size + 1) 2 rfl (i.a.map B8) _ (fun w' h => h.2.2) u23 rfl z2) (by assumption) ?_
                (try simp only [Act.put, List.getElem_toArray, List.getElem_cons_succ, List.getElem_cons_zero, List.setIfInBounds_toArray, List.set_cons_zero, List.set_cons_succ])
                refine wpAnyH_take (i := 6) (v := ?vb6) rfl (by kernel_rfl) (by kernel_rfl) (by kernel_rfl) (fun _ _ _ h => h) (Or.inl ⟨by rfl, ?hyb6⟩) (by assumption) ?restb6
                case hyb6 => (intro w hSw; (try dsimp only at hSw); go_simp; try with_reducible rfl)
                (try simp only [Act.put, List.getElem_toArray, List.getElem_cons_succ, List.getElem_cons_zero, List.setIfInBounds_toArray, List.set_cons_zero, List.set_cons_succ])
                refine wpAnyH_ready (rs := [3]) (by kernel_rfl) (by simp) ?_
                refine AllReadyH.cons rfl (fun K hK => ?_) AllReadyH.nil
                go_simp
                go_wp2_with (go_at_call 44; refine (HBIT1.out _).mono ?_; rintro e wn1 ⟨rfl, hb1⟩)
                refine hK.out _ _ (two_keep (by assumption) hb1) (fun hHeld => ?_)
                clear hK K
                (try simp only [Act.put, List.getElem_toArray, List.getElem_cons_succ, List.getElem_cons_zero, List.setIfInBounds_toArray, List.set_cons_zero, List.set_cons_succ])
                refine wpAnyH_ready (rs := [7]) (by kernel_rfl) (by simp) ?_
                refine AllReadyH.cons rfl (fun K hK => ?_) AllReadyH.nil
                go_simp
                go_wp2_with (go_at_call 44; refine (HBIT2.out _).mono ?_; rintro e wn2 ⟨rfl, hb2⟩)
                refine hK.out _ _ (two_keep (by assumption) hb2) (fun hHeld => ?_)
                clear hK K
                (try simp only [Act.put, List.getElem_toArray, List.getElem_cons_succ, List.getElem_cons_zero, List.setIfInBounds_toArray, List.set_cons_zero, List.set_cons_succ])
                refine wpAnyH_take (i := 8) (v := ?vb9) rfl (by kernel_rfl) (by kernel_rfl) (by kernel_rfl) (fun _ _ _ h => h) (Or.inl ⟨by rfl, ?hyb9⟩) (by assumption) ?restb9
                case hyb9 => (intro w hSw; (try dsimp only at hSw); go_simp; try with_reducible rfl)
                (try simp only [Act.put, List.getElem_toArray, List.getElem_cons_succ, List.getElem_cons_zero, List.setIfInBounds_toArray, List.set_cons_zero, List.set_cons_succ])
                refine wpAnyH_done (by kernel_rfl) ?_ _
                refine NoPanic.normal ?_
                go_wp2
                go_ret
                exact ⟨ret_bool HZ2.out.symm, HBW.out.trans (Below.mono (And.left (by assumption)) HBW.out.size)⟩
            · have HZ2 : Hid (W = true) := hz.out.trans (eqFrom_end n.a i.a (by omega))
              have HBW := Lib.hid hbw
              have i1 : ¬ (k : Int) < (m : Int) := by omega
              clear hz hat hat2 hbw
              go_wp2
              go_ret
              exact ⟨ret_bool HZ2.out.symm, HBW.out⟩
        · have eb : n.bits < i.bits := by omega
          have HW2 : Hid (W = false) := by
            have := HW1.out
            rw [decide_eq_false hb, Bool.false_and, Bool.and_false] at this
            exact this
          clear h6 hb HW HW1
          go_wp2
          go_ret
          exact ⟨ret_bool HW2.out.symm, HB3.out⟩
      · have e6 : (n.six == i.six) = false := by rw [beq_eq_false_iff_ne]; exact h6
        have HW2 : Hid (W = false) := by
          have := HW1.out
          rw [e6, Bool.false_and] at this
          exact this
        clear h6 HW HW1
        go_wp2
        go_ret
        exact ⟨ret_bool HW2.out.symm, HB3.out⟩
end Go.Proofs.YtdmajikhpacpfaaDoor.Cidr
