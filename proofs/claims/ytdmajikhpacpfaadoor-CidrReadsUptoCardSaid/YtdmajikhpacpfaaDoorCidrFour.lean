/-
  CIDR, the given answers: an address of IPv4.
-/
import Derived.Test.YtdmajikhpacpfaaDoorCidrG2
import Derived.Test.YtdmajikhpacpfaaDoorCidrG1
namespace Go.Proofs.YtdmajikhpacpfaaDoor.Cidr
open Go.RowKit Base
def byteN (p : List UInt8) : Option Nat := match decN p with | some x => if x ≤ 255 then some x else none | none => none
/-- The bytes of four numbers with '.' between them. -/
def fourB (l : List UInt8) : Option (List Nat) := if (splitB 46 l).length = 4 then mapO byteN (splitB 46 l) else none
def addr4 (ns : List Nat) : List UInt8 := ns.map UInt8.ofNat ++ List.replicate (16 - ns.length) 0
def fourN (l : List UInt8) : Option NetM := (fourB l).map fun ns => ⟨false, 32, addr4 ns⟩
theorem byteN_le {p : List UInt8} {n : Nat} (h : byteN p = some n) : n ≤ 255 ∧ decN p = some n := by
  unfold byteN at h
  cases hd : decN p with
  | none => rw [hd] at h; cases h
  | some x =>
    rw [hd] at h
    simp only at h
    split at h
    · cases h; exact ⟨by assumption, rfl⟩
    · cases h
theorem byteN_none {p : List UInt8} (h : byteN p = none) : decN p = none ∨ ∃ x, decN p = some x ∧ 255 < x := by
  unfold byteN at h
  cases hd : decN p with
  | none => exact Or.inl rfl
  | some x =>
    rw [hd] at h
    simp only at h
    split at h
    · cases h
    · exact Or.inr ⟨x, rfl, by omega⟩
theorem addr4_len {ns : List Nat} (h : ns.length ≤ 16) : (addr4 ns).length = 16 := by unfold addr4; simp; omega
theorem addr4_set {ns : List Nat} (h : ns.length < 16) (x : Nat) : (addr4 ns).set ns.length (UInt8.ofNat x) = addr4 (ns ++ [x]) := by
  unfold addr4
  rw [List.set_append_right _ _ (by simp), List.length_map, Nat.sub_self, List.length_append, List.length_singleton, show 16 - ns.length = (16 - (ns.length + 1)) + 1 by omega, List.replicate_succ]
  simp
def NetEnd (o : Option NetM) (w : World) (e : Ending) (w' : World) : Prop :=
  Below w.heap.size w w' ∧ ((o = none ∧ ∃ n : NetM, n.a.length = 16 ∧ e = .returned (.tuple #[netV n, .bool false])) ∨ ∃ n : NetM, o = some n ∧ n.a.length = 16 ∧ e = .returned (.tuple #[netV n, .bool true]))
set_option maxHeartbeats 4000000 in
set_option maxRecDepth 100000 in
theorem rFour (s : ByteArray) (w : World) (hs : s.size ≤ 4294967280) : Calls Tryd.prog 28 #[.string s] w (NetEnd (fourN s.data.toList) w) := by
  obtain ⟨o, ho⟩ : ∃ o, o = fourN s.data.toList := ⟨_, rfl⟩
  rw [← ho]
  unfold fourN fourB at ho
  have HSP := Lib.hid (fun w => rSplit s 46 w hs)
  obtain ⟨ps, hps⟩ : ∃ ps, ps = splitB 46 s.data.toList := ⟨_, rfl⟩
  rw [← hps] at ho HSP
  have HO := Lib.hid ho
  have HB0 := Lib.hid (Below.alloc1 w (.cells (netC zeroN) 25))
  have HN0 := Lib.hid (NetAt.new w zeroN)
  clear ho hps
  go_enter Tryd.func28, Tryd.ntmps28
  go_wp2_with (go_at_call 32; refine (HSP.out _).mono ?_; rintro e w1 ⟨v1, rfl, o1, b1⟩; refine Hid.out ?_)
  refine Lib.hid ?_
  obtain ⟨pa, pc, rfl, _⟩ := o1.form
  have HP := Lib.hid o1
  have HB1 : Hid (Below w.heap.size w w1) := HB0.out.trans (b1.mono HB0.out.size)
  have HN1 : Hid (NetAt w1 w.heap.size zeroN) := HN0.out.on b1
  have HL1 : Hid (w.heap.size < w1.heap.size) := heap_lt HN1.out
  clear o1 b1
  have HT := Lib.hid (there_of (NetAt.new w1 zeroN) (n := (netC (⟨false, 32, List.replicate 16 0⟩ : NetM)).size) (by decide))
  have HZ := Lib.hid (size25c (n := ⟨false, 32, List.replicate 16 0⟩) rfl)
  have HPUT := Lib.hid (fun w2 => @net_put _ w2 _ _ (NetAt.new w1 zeroN) rfl ⟨false, 32, List.replicate 16 0⟩ rfl)
  go_wp2_with (first | (refine wpList_store_mid rfl 25 (.tmp 5) (.tmp 11) rfl w1.heap.size 0 (netC (⟨false, 32, List.replicate 16 0⟩ : NetM)) rfl rfl HT.out HZ.out (netC_all _) ?_; generalize hw2 : World.setCells _ _ _ _ = w2; refine Hid.out ?_) | fail)
  refine Lib.hid ?_
  obtain ⟨hn2, hk2, hz2⟩ := HPUT.out w2 hw2
  have HN2 := Lib.hid hn2
  have HZ2 : Hid (w2.heap.size = w1.heap.size + 1) := by show _ = _; rw [hz2]; simp
  have HB2 : Hid (Below w1.heap.size w1 w2) := (Below.alloc1 _ _).trans (hk2.below (Nat.le_refl _) (by simp))
  clear hw2 hn2 hk2 hz2 HPUT HT HZ
  by_cases h4 : ps.length = 4
  · have e1 : ((ps.length : Int) != 4) = false := by rw [h4]; rfl
    have HO4 : Hid (o = (mapO byteN ps).map fun ns => ⟨false, 32, addr4 ns⟩) := by have := HO.out; rw [if_pos h4] at this; exact this
    have HP4 := Lib.hid h4
    clear HO h4
    obtain ⟨R, hR⟩ : ∃ R : Value → World → Prop, R = fun i wr => ∃ ns : List Nat, ns.length ≤ 4 ∧ i = .int .i64 (ns.length : Int) ∧ NetAt wr w1.heap.size ⟨false, 32, addr4 ns⟩ ∧ Below w1.heap.size w1 wr ∧ Hid (mapO byteN (ps.take ns.length) = some ns) := ⟨_, rfl⟩
    have HR := Lib.hid hR
    clear hR
    go_wp2
    go_loopw [6] (fun i wr => R i wr) (fun i _ => 4 - (intOf i).toNat)
    case atStart => rw [HR.out]; exact ⟨[], by simp, rfl, HN2.out, HB2.out, rfl⟩
    case round =>
      rw [HR.out] at hrel
      obtain ⟨ns, hk, rfl, hat, hbw, hm⟩ := hrel
      have h4 := HP4.out
      have HAT := Lib.hid hat
      have HBW := Lib.hid hbw
      have HAL := Lib.hid (addr4_len (ns := ns) (by omega))
      have HN0r : Hid (NetAt wr w.heap.size zeroN) := HN1.out.on hbw
      have HBF : Hid (Below w.heap.size w wr) := HB1.out.trans (hbw.mono HB1.out.size)
      have HS := Lib.hid (size25_of (n := ⟨false, 32, addr4 ns⟩) HAL.out)
      have HT := Lib.hid (there_of HN0r.out (n := (netC (⟨false, 32, addr4 ns⟩ : NetM)).size) (by rw [netC_size HAL.out]; decide))
      have HSC := Lib.hid (size25c (n := ⟨false, 32, addr4 ns⟩) HAL.out)
      have HPUT := Lib.hid (fun w2 => @net_put _ w2 _ _ HN0r.out rfl ⟨false, 32, addr4 ns⟩ HAL.out)
      by_cases hlt : ns.length < 4
      · have hltp : ns.length < ps.length := by omega
        have hx : ps[ns.length]? = some (ps[ns.length]) := List.getElem?_eq_getElem hltp
        have HX := Lib.hid hx
        obtain ⟨pb, rfl, hcell⟩ := (HP.out.on hbw).cell hx
        generalize ps[ns.length] = x at hcell HX
        have HG := Lib.hid (rDecimal ⟨x.toArray⟩ wr)
        have i1 : (ns.length : Int) < 4 := by omega
        have i0' : (0 : Int) ≤ (ns.length : Int) := by omega
        have i2 : (ns.length : Int) < (ps.length : Int) := by omega
        rw [show (⟨x.toArray⟩ : ByteArray).data.toList = x from rfl] at HG
        clear hx hat hbw h4
        cases hgx : byteN x with
        | none =>
          have HNO : Hid (o = none) := by have := HO4.out; rw [mapO_none byteN hgx (List.mem_of_getElem? HX.out)] at this; exact this
          rcases byteN_none hgx with hd | ⟨z, hd, hz⟩
          · rw [hd] at HG
            clear hgx hd hm
            go_wp2_with (go_at_call 33; refine HG.out.mono ?_; rintro e w2 ⟨rfl, rfl⟩; refine Hid.out ?_)
            refine Lib.hid ?_
            go_wp2_with (first | (refine wpList_load_mid rfl 25 (.tmp 5) rfl w1.heap.size 0 rfl (netL (⟨false, 32, addr4 ns⟩ : NetM)) _ HAT.out.range0 Tryd.underlying25 rfl HS.out ?_) | (refine wpList_store_mid rfl 25 (.tmp 2) (.tmp 34) rfl w.heap.size 0 (netC (⟨false, 32, addr4 ns⟩ : NetM)) rfl rfl HT.out HSC.out (netC_all _) ?_; generalize hwf : World.setCells _ _ _ _ = wf; refine Hid.out ?_) | fail)
            refine Lib.hid ?_
            obtain ⟨hnf, hkf, hzf⟩ := HPUT.out wf hwf
            have HNF := Lib.hid hnf
            have HKF := Lib.hid hkf
            clear hnf hkf hzf hwf
            go_wp2
            exact bodyPost_ret (results_net Tryd.results28 rfl rfl HNF.out HAL.out) rfl ⟨HBF.out.trans (HKF.out.below (Nat.le_refl _) (Nat.lt_of_lt_of_le HL1.out (by have := HBW.out.size; omega))), Or.inl ⟨HNO.out, _, HAL.out, rfl⟩⟩
          · rw [hd] at HG
            have hz5 : (255 : Int) < (z : Int) := by omega
            clear hgx hd hm
            go_wp2_with (go_at_call 33; refine HG.out.mono ?_; rintro e w2 ⟨rfl, rfl⟩; refine Hid.out ?_)
            refine Lib.hid ?_
            go_wp2_with (first | (refine wpList_load_mid rfl 25 (.tmp 5) rfl w1.heap.size 0 rfl (netL (⟨false, 32, addr4 ns⟩ : NetM)) _ HAT.out.range0 Tryd.underlying25 rfl HS.out ?_) | (refine wpList_store_mid rfl 25 (.tmp 2) (.tmp 34) rfl w.heap.size 0 (netC (⟨false, 32, addr4 ns⟩ : NetM)) rfl rfl HT.out HSC.out (netC_all _) ?_; generalize hwf : World.setCells _ _ _ _ = wf; refine Hid.out ?_) | fail)
            refine Lib.hid ?_
            obtain ⟨hnf, hkf, hzf⟩ := HPUT.out wf hwf
            have HNF := Lib.hid hnf
            have HKF := Lib.hid hkf
            clear hnf hkf hzf hwf
            go_wp2
            exact bodyPost_ret (results_net Tryd.results28 rfl rfl HNF.out HAL.out) rfl ⟨HBF.out.trans (HKF.out.below (Nat.le_refl _) (Nat.lt_of_lt_of_le HL1.out (by have := HBW.out.size; omega))), Or.inl ⟨HNO.out, _, HAL.out, rfl⟩⟩
        | some z =>
          obtain ⟨hz5, hd⟩ := byteN_le hgx
          rw [hd] at HG
          have HM2 : Hid (mapO byteN (ps.take (ns ++ [z]).length) = some (ns ++ [z])) := by
            show _ = _
            rw [List.length_append, List.length_singleton, List.take_succ_eq_append_getElem hltp, show ps[ns.length] = x by have := HX.out; rw [List.getElem?_eq_getElem hltp] at this; exact Option.some.inj this]
            exact mapO_snoc byteN x _ hm.out hgx
          have hz6 : ¬ (255 : Int) < (z : Int) := by omega
          obtain ⟨c1, c2⟩ := HAT.out.cellA (k := ns.length) (by rw [HAL.out]; omega)
          have HSET : Hid (NetAt (wr.setCell ⟨w1.heap.size, 2 + ns.length, none⟩ (.int .u8 (z : Int))) w1.heap.size ⟨false, 32, addr4 (ns ++ [z])⟩) := by
            have := HAT.out.setA ns.length (UInt8.ofNat z)
            rw [show B8 (UInt8.ofNat z) = Value.int .u8 (z : Int) by simp [B8]; omega] at this
            show NetAt _ _ _
            rw [← addr4_set (by omega)]
            exact this
          have HBS : Hid (Below w1.heap.size w1 (wr.setCell ⟨w1.heap.size, 2 + ns.length, none⟩ (.int .u8 (z : Int)))) := HBW.out.trans ((KeepX.set w1.heap.size wr (2 + ns.length) _).below (Nat.le_refl _) (heap_lt HAT.out))
          clear hgx hd hm
          go_wp2_with (go_at_call 33; refine HG.out.mono ?_; rintro e w2 ⟨rfl, rfl⟩; refine Hid.out ?_)
          refine Lib.hid ?_
          go_wp2
          go_roundw
          case rel => rw [HR.out]; exact ⟨ns ++ [z], by (simp; try omega), by simp, HSET.out, HBS.out, HM2.out⟩
          case measure => simp [intOf]; omega
      · have HYES : Hid (o = some ⟨false, 32, addr4 ns⟩) := by
          have h1 := hm.out
          rw [List.take_of_length_le (by omega)] at h1
          have := HO4.out
          rw [h1] at this
          exact this
        have i1 : ¬ (ns.length : Int) < 4 := by omega
        clear hm hat hbw h4
        go_wp2_with (first | (refine wpList_load_mid rfl 25 (.tmp 5) rfl w1.heap.size 0 rfl (netL (⟨false, 32, addr4 ns⟩ : NetM)) _ HAT.out.range0 Tryd.underlying25 rfl HS.out ?_) | (refine wpList_store_mid rfl 25 (.tmp 2) (.tmp 40) rfl w.heap.size 0 (netC (⟨false, 32, addr4 ns⟩ : NetM)) rfl rfl HT.out HSC.out (netC_all _) ?_; generalize hwf : World.setCells _ _ _ _ = wf; refine Hid.out ?_) | fail)
        refine Lib.hid ?_
        obtain ⟨hnf, hkf, hzf⟩ := HPUT.out wf hwf
        have HNF := Lib.hid hnf
        have HKF := Lib.hid hkf
        clear hnf hkf hzf hwf
        go_wp2
        exact bodyPost_ret (results_net Tryd.results28 rfl rfl HNF.out HAL.out) rfl ⟨HBF.out.trans (HKF.out.below (Nat.le_refl _) (Nat.lt_of_lt_of_le HL1.out (by have := HBW.out.size; omega))), Or.inr ⟨_, HYES.out, HAL.out, rfl⟩⟩
  · have e1 : ((ps.length : Int) != 4) = true := by rw [bne_iff_ne]; omega
    have HNO : Hid (o = none) := by have := HO.out; rw [if_neg h4] at this; exact this
    have HN0r : Hid (NetAt w2 w.heap.size zeroN) := HN1.out.on HB2.out
    have HBF : Hid (Below w.heap.size w w2) := HB1.out.trans (HB2.out.mono HB1.out.size)
    have HT := Lib.hid (there_of HN0r.out (n := (netC (⟨false, 32, List.replicate 16 0⟩ : NetM)).size) (by decide))
    have HSC := Lib.hid (size25c (n := ⟨false, 32, List.replicate 16 0⟩) rfl)
    have HS := Lib.hid (size25_of (n := ⟨false, 32, List.replicate 16 0⟩) rfl)
    have HPUT := Lib.hid (fun w2 => @net_put _ w2 _ _ HN0r.out rfl ⟨false, 32, List.replicate 16 0⟩ rfl)
    clear h4 HO
    go_wp2_with (first | (refine wpList_load_mid rfl 25 (.tmp 5) rfl w1.heap.size 0 rfl (netL (⟨false, 32, List.replicate 16 0⟩ : NetM)) _ HN2.out.range0 Tryd.underlying25 rfl HS.out ?_) | (refine wpList_store_mid rfl 25 (.tmp 2) (.tmp 15) rfl w.heap.size 0 (netC (⟨false, 32, List.replicate 16 0⟩ : NetM)) rfl rfl HT.out HSC.out (netC_all _) ?_; generalize hwf : World.setCells _ _ _ _ = wf; refine Hid.out ?_) | fail)
    refine Lib.hid ?_
    obtain ⟨hnf, hkf, hzf⟩ := HPUT.out wf hwf
    have HNF := Lib.hid hnf
    have HKF := Lib.hid hkf
    clear hnf hkf hzf hwf
    go_wp2
    exact bodyPost_ret (results_net Tryd.results28 rfl rfl HNF.out rfl) rfl ⟨HBF.out.trans (HKF.out.below (Nat.le_refl _) (Nat.lt_of_lt_of_le HL1.out (by have := HB2.out.size; omega))), Or.inl ⟨HNO.out, _, rfl, rfl⟩⟩
end Go.Proofs.YtdmajikhpacpfaaDoor.Cidr
