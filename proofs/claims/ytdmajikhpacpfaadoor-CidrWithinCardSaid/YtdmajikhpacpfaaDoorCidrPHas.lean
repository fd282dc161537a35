/-
  CIDR, the program: whether an address lies in one of several ranges.
-/
import Derived.Test.YtdmajikhpacpfaaDoorCidrPWithin
import Derived.Test.YtdmajikhpacpfaaDoorCidrG2
namespace Go.Proofs.YtdmajikhpacpfaaDoor.Cidr
open Go.RowKit Base
theorem makeFn (fn : Fn) (first cap : Array Value) (w : World) : (Instr.makeFunc fn first cap).run Tryd.prog w = .ok (.func fn first cap) w := rfl
abbrev hasF (p : Nat) : Value := .func (.func 46) #[] #[.pointer (some ⟨p, 0, none⟩)]
set_option maxHeartbeats 4000000 in
set_option maxRecDepth 100000 in
theorem pHasCl (n x : NetM) (ha : n.a.length = 16) (hx : x.a.length = 16) (p : Nat) (w : World) (hat : NetAt w p n) : Calls Tryd.prog 46 #[netV x, .pointer (some ⟨p, 0, none⟩)] w (AnsB (withinN n x) w) := by
  have HS := Lib.hid (size25_of ha)
  have HSX := Lib.hid (size25_of hx)
  have HN := Lib.hid (hat.on (Below.alloc1 w (.cells (netC x) 25)))
  have HX := Lib.hid (NetAt.new w x)
  have HB := Lib.hid (Below.alloc1 w (.cells (netC x) 25))
  have HW := Lib.hid (fun wx => pWithin n x ha hx wx)
  generalize withinN n x = y at HW
  clear hat ha hx
  go_enter Tryd.func46, Tryd.ntmps46
  go_wp2_with (first | (refine wpList_load_mid rfl 25 (.tmp 1) rfl p 0 rfl (netL n) _ HN.out.range0 Tryd.underlying25 rfl HS.out ?_) | (refine wpList_load_mid rfl 25 (.tmp 2) rfl w.heap.size 0 rfl (netL x) _ HX.out.range0 Tryd.underlying25 rfl HSX.out ?_) | (go_at_call 20; refine (HW.out _).mono ?_; rintro e w2 ⟨rfl, b2⟩; refine Hid.out ?_) | fail)
  refine Lib.hid ?_
  have HB2 : Hid (Below w.heap.size w w2) := HB.out.trans (b2.mono HB.out.size)
  clear b2
  go_wp2
  go_ret
  exact ⟨rfl, HB2.out⟩
set_option maxHeartbeats 4000000 in
set_option maxRecDepth 100000 in
theorem pIndexF (A : Option Addr) (c : Nat) (ns : List NetM) (n : NetM) (ha : n.a.length = 16) (p : Nat) (w : World) (hat : NetAt w p n) (hns : Nets w A ns) (hnl : ns.length ≤ 9223372036854775807) :
    Calls Tryd.prog 60 #[.slice A ns.length c, hasF p] w fun e w' => ∃ r : Int, e = .returned (.int .i64 r) ∧ decide (0 ≤ r) = hasN ns n ∧ Below w.heap.size w w' := by
  have HNL := Lib.hid hnl
  have HA := Lib.hid ha
  have HAT := Lib.hid hat
  have HNS := Lib.hid hns
  obtain ⟨R, hR⟩ : ∃ R, R = hasN ns n := ⟨_, rfl⟩
  rw [← hR]
  have HR := Lib.hid hR
  clear hns hR hnl hat ha
  go_enter Tryd.func60, Tryd.ntmps60
  go_wp2
  go_loopw [8] (fun x wr => ∃ k : Nat, k ≤ ns.length ∧ x = .int .i64 k ∧ NetAt wr p n ∧ Nets wr A ns ∧ Below w.heap.size w wr ∧ Hid (R = hasN (ns.drop k) n)) (fun x _ => ns.length - (intOf x).toNat)
  case atStart => exact ⟨0, Nat.zero_le _, rfl, HAT.out, HNS.out, Below.refl _ _, HR.out⟩
  case round =>
    obtain ⟨k, hk, rfl, hat, hnets, hbw, hz⟩ := hrel
    have hnl := HNL.out
    by_cases hlt : k < ns.length
    · have hx := List.getElem?_eq_getElem hlt
      have hdrop : ns.drop k = ns[k] :: ns.drop (k + 1) := by rw [List.getElem_cons_drop]
      obtain ⟨hxa, b, o, rfl, hrg⟩ := hnets k _ hx
      generalize ns[k] = x at hx hdrop hxa hrg
      have HCL := Lib.hid (pHasCl n x HA.out hxa p wr hat)
      have HZ : Hid (R = (withinN n x || hasN (ns.drop (k + 1)) n)) := by
        have := hz.out
        rw [hdrop] at this
        exact this
      have HRG := Lib.hid hrg
      have HAT2 := Lib.hid hat
      have HNT := Lib.hid hnets
      have HBW := Lib.hid hbw
      have i1 : (k : Int) < (ns.length : Int) := by omega
      have i0 : (0 : Int) ≤ (k : Int) := by omega
      have HSX := Lib.hid (size25_of hxa)
      clear hz hat hnets hbw hrg hdrop
      generalize withinN n x = y at HCL HZ
      go_wp2_with (first | (refine wpList_load_mid rfl 25 (.tmp 14) rfl b (o + k * 18) rfl (netL x) _ HRG.out Tryd.underlying25 rfl HSX.out ?_) | (go_at_call 46; refine HCL.out.mono ?_; rintro e w2 ⟨rfl, b2⟩; refine Hid.out ?_) | fail)
      refine Lib.hid ?_
      have HB2 := Lib.hid b2
      clear b2
      cases y with
      | true =>
        have HZ2 : Hid (R = true) := HZ.out
        go_wp2
        go_ret
        exact ⟨(k : Int), rfl, by rw [HZ2.out]; exact decide_eq_true i0, HBW.out.trans (HB2.out.mono HBW.out.size)⟩
      | false =>
        have HZ2 : Hid (R = hasN (ns.drop (k + 1)) n) := HZ.out
        go_wp2
        go_roundw
        case rel => exact ⟨k + 1, by omega, by go_num, HAT2.out.on HB2.out, HNT.out.on HB2.out, HBW.out.trans (HB2.out.mono HBW.out.size), HZ2.out⟩
        case measure => simp [intOf]; omega
    · have HZ2 : Hid (R = false) := by
        have := hz.out
        rw [List.drop_eq_nil_of_le (by omega)] at this
        exact this
      have HBW := Lib.hid hbw
      have i1 : ¬ (k : Int) < (ns.length : Int) := by omega
      clear hz hat hnets hbw
      go_wp2
      go_ret
      exact ⟨-1, rfl, by rw [HZ2.out]; rfl, HBW.out⟩
set_option maxHeartbeats 4000000 in
set_option maxRecDepth 100000 in
theorem pHas (A : Option Addr) (c : Nat) (ns : List NetM) (n : NetM) (ha : n.a.length = 16) (w : World) (hns : Nets w A ns) (hnl : ns.length ≤ 9223372036854775807) : Calls Tryd.prog 21 #[.slice A ns.length c, netV n] w (AnsB (hasN ns n) w) := by
  have HB := Lib.hid (Below.alloc1 w (.cells (netC n) 25))
  have HI := Lib.hid (pIndexF A c ns n ha w.heap.size _ (NetAt.new w n) (hns.on HB.out) hnl)
  have hmf := makeFn
  generalize hasN ns n = R at HI
  have HC : Hid (Calls Tryd.prog 45 #[.slice A ns.length c, hasF w.heap.size] (w.alloc (.cells (netC n) 25)) fun e w' => e = .returned (.bool R) ∧ Below w.heap.size (w.alloc (.cells (netC n) 25)) w') := by
    have HI2 := HI
    clear HI hns
    show Calls _ _ _ _ _
    go_enter Tryd.func45, Tryd.ntmps45
    go_wp2_with (first | (go_at_call 60; refine HI2.out.mono ?_; rintro e w2 ⟨r, rfl, hr, b2⟩; refine Hid.out ?_) | fail)
    refine Lib.hid ?_
    have HR := Lib.hid hr
    have HB2 := Lib.hid b2
    clear hr b2
    go_wp2
    go_ret
    exact ⟨by rw [← HR.out]; rfl, HB2.out.mono (by simp)⟩
  clear HI
  go_enter Tryd.func21, Tryd.ntmps21
  go_wp2_with (first | (go_at_call 45; refine HC.out.mono ?_; rintro e w2 ⟨rfl, b2⟩; refine Hid.out ?_) | fail)
  refine Lib.hid ?_
  have HB2 := Lib.hid (HB.out.trans b2)
  clear b2
  go_wp2
  go_ret
  exact ⟨rfl, HB2.out⟩
end Go.Proofs.YtdmajikhpacpfaaDoor.Cidr
