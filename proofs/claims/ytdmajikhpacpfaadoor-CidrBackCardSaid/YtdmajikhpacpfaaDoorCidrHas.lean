/-
  CIDR, the given answers: whether an address lies in one of several ranges.
-/
import Derived.Test.YtdmajikhpacpfaaDoorCidrWithin
import Derived.Test.YtdmajikhpacpfaaDoorCidrBox
namespace Go.Proofs.YtdmajikhpacpfaaDoor.Cidr
open Go.RowKit Base

/-- A slice of ranges that came in. -/
def Nets (w : World) (A : Option Addr) (ns : List NetM) : Prop := ∀ (j : Nat) (n : NetM), ns[j]? = some n → n.a.length = 16 ∧ ∃ b o, A = some ⟨b, o, none⟩ ∧ w.rangeAt b (o + j * 18) (netL n)
theorem Nets.on {w w' : World} {A : Option Addr} {ns : List NetM} (h : Nets w A ns) (hb : Below w.heap.size w w') : Nets w' A ns := fun j n hj => by
  obtain ⟨h1, b, o, h2, h3⟩ := h j n hj
  exact ⟨h1, b, o, h2, rangeAt_on h3 hb⟩
def hasN (l : List NetM) (n : NetM) : Bool := l.any fun x => withinN n x
theorem has_keep {wr w1 w2 : World} {b1 o1 b2 o2 : Nat} {l1 l2 : List Value} (h : Below wr.heap.size wr w1 ∧ w1.rangeAt b1 o1 l1 ∧ w1.rangeAt b2 o2 l2) (hb : Below w1.heap.size w1 w2) : Below wr.heap.size wr w2 ∧ w2.rangeAt b1 o1 l1 ∧ w2.rangeAt b2 o2 l2 := ⟨h.1.trans (hb.mono h.1.size), rangeAt_on h.2.1 hb, rangeAt_on h.2.2 hb⟩
theorem has_drew {wr : World} {b1 o1 b2 o2 : Nat} {l1 l2 : List Value} (h1 : wr.rangeAt b1 o1 l1) (h2 : wr.rangeAt b2 o2 l2) : Below wr.heap.size wr wr.drew ∧ wr.drew.rangeAt b1 o1 l1 ∧ wr.drew.rangeAt b2 o2 l2 := by
  have hb : Below wr.heap.size wr wr.drew := ⟨rfl, rfl, rfl, Nat.le_refl _, fun _ _ => rfl⟩
  exact ⟨hb, rangeAt_on h1 hb, rangeAt_on h2 hb⟩
set_option maxHeartbeats 4000000 in
set_option maxRecDepth 100000 in
set_option linter.unusedSimpArgs false in
theorem rHas (A : Option Addr) (c : Nat) (ns : List NetM) (n : NetM) (ha : n.a.length = 16) (w : World) (hns : Nets w A ns) (hnl : ns.length ≤ 9223372036854775807) : Calls Tryd.prog 23 #[.slice A ns.length c, netV n] w (AnsB (hasN ns n) w) := by
  have HA := Lib.hid ha
  have HN := Lib.hid (NetAt.new w n)
  have HNL := Lib.hid hnl
  have HNS := Lib.hid (hns.on (Below.alloc1 w (.cells (netC n) 25)))
  obtain ⟨R, hR⟩ : ∃ R, R = hasN ns n := ⟨_, rfl⟩
  rw [← hR]
  have HR := Lib.hid hR
  clear hns hR hnl
  go_enter Tryd.func23, Tryd.ntmps23
  go_wp2
  go_loopw [5] (fun x wr => ∃ k : Nat, k ≤ ns.length ∧ x = .int .i64 k ∧ NetAt wr w.heap.size n ∧ Nets wr A ns ∧ Below w.heap.size w wr ∧ Hid (R = hasN (ns.drop k) n)) (fun x _ => ns.length - (intOf x).toNat)
  case atStart => exact ⟨0, Nat.zero_le _, rfl, HN.out, HNS.out, Below.alloc1 _ _, HR.out⟩
  case round =>
    obtain ⟨k, hk, rfl, hat, hnets, hbw, hz⟩ := hrel
    have hnl := HNL.out
    by_cases hlt : k < ns.length
    · have hx := List.getElem?_eq_getElem hlt
      have hdrop : ns.drop k = ns[k] :: ns.drop (k + 1) := by rw [List.getElem_cons_drop]
      obtain ⟨hxa, b, o, rfl, hrg⟩ := hnets k _ hx
      generalize ns[k] = x at hx hdrop hxa hrg
      have HWI := Lib.hid (fun wx => rWithin n x HA.out hxa wx)
      have HZ : Hid (R = (withinN n x || hasN (ns.drop (k + 1)) n)) := by
        have := hz.out
        rw [hdrop] at this
        exact this
      have HST := Lib.hid (has_drew hat.range0 hrg)
      have HAT := Lib.hid hat
      have HNT := Lib.hid hnets
      have HBW := Lib.hid hbw
      have i1 : (k : Int) < (ns.length : Int) := by omega
      have i0 : (0 : Int) ≤ (k : Int) := by omega
      have u25 := Tryd.underlying25
      have z1 := size25_of HA.out
      have z2 := size25_of hxa
      clear hz hat hnets hbw hrg hdrop
      generalize withinN n x = y at HWI HZ
      go_wp2
      refine wp_region_noPanic ?_
      refine wp_region_held_drew (S := (fun w' => Below wr.heap.size wr w' ∧ w'.rangeAt w.heap.size 0 (netL n) ∧ w'.rangeAt b (o + k * 18) (netL x))) (by kernel_rfl) HST.out (fun hHeld => ?_)
      refine wpAnyH_take (i := 0) rfl (by kernel_rfl) (by kernel_rfl) (by kernel_rfl) (fun _ _ _ h => h) (yieldsIf_load_mid (by rfl) 25 (.tmp 3) rfl w.heap.size 0 rfl (netL n) _ (fun w' h => h.2.1) u25 rfl z1) (by assumption) ?_
      (try simp only [Act.put, List.getElem_toArray, List.getElem_cons_succ, List.getElem_cons_zero, List.setIfInBounds_toArray, List.set_cons_zero, List.set_cons_succ])
      refine wpAnyH_take (i := 1) (v := ?va2) rfl (by kernel_rfl) (by kernel_rfl) (by kernel_rfl) (fun _ _ _ h => h) (Or.inl ⟨by rfl, ?hya2⟩) (by assumption) ?resta2
      case hya2 => (intro w hSw; (try dsimp only at hSw); go_simp; try with_reducible rfl)
      (try simp only [Act.put, List.getElem_toArray, List.getElem_cons_succ, List.getElem_cons_zero, List.setIfInBounds_toArray, List.set_cons_zero, List.set_cons_succ])
      refine wpAnyH_take (i := 2) (v := ?va3) rfl (by kernel_rfl) (by kernel_rfl) (by kernel_rfl) (fun _ _ _ h => h) (Or.inl ⟨by rfl, ?hya3⟩) (by assumption) ?resta3
      case hya3 => (intro w hSw; (try dsimp only at hSw); go_simp; try with_reducible rfl)
      (try simp only [Act.put, List.getElem_toArray, List.getElem_cons_succ, List.getElem_cons_zero, List.setIfInBounds_toArray, List.set_cons_zero, List.set_cons_succ])
      refine wpAnyH_take (i := 3) (v := ?va4) rfl (by kernel_rfl) (by kernel_rfl) (by kernel_rfl) (fun _ _ _ h => h) (Or.inl ⟨by rfl, ?hya4⟩) (by assumption) ?resta4
      case hya4 => (intro w hSw; (try dsimp only at hSw); go_simp; try with_reducible rfl)
      (try simp only [Act.put, List.getElem_toArray, List.getElem_cons_succ, List.getElem_cons_zero, List.setIfInBounds_toArray, List.set_cons_zero, List.set_cons_succ])
      refine wpAnyH_take (i := 4) rfl (by kernel_rfl) (by kernel_rfl) (by kernel_rfl) (fun _ _ _ h => h) (yieldsIf_load_mid (by rfl) 25 (.tmp 16) rfl b (o + k * 18) rfl (netL x) _ (fun w' h => h.2.2) u25 rfl z2) (by assumption) ?_
      (try simp only [Act.put, List.getElem_toArray, List.getElem_cons_succ, List.getElem_cons_zero, List.setIfInBounds_toArray, List.set_cons_zero, List.set_cons_succ])
      refine wpAnyH_ready (rs := [5]) (by kernel_rfl) (by simp) ?_
      refine AllReadyH.cons rfl (fun K hK => ?_) AllReadyH.nil
      go_simp
      go_wp2_with (go_at_call 22; refine (HWI.out _).mono ?_; rintro e wn1 ⟨rfl, hb1⟩)
      refine hK.out _ _ (has_keep (by assumption) hb1) (fun hHeld => ?_)
      clear hK K
      (try simp only [Act.put, List.getElem_toArray, List.getElem_cons_succ, List.getElem_cons_zero, List.setIfInBounds_toArray, List.set_cons_zero, List.set_cons_succ])
      refine wpAnyH_take (i := 6) (v := ?va7) rfl (by kernel_rfl) (by kernel_rfl) (by kernel_rfl) (fun _ _ _ h => h) (Or.inl ⟨by rfl, ?hya7⟩) (by assumption) ?resta7
      case hya7 => (intro w hSw; (try dsimp only at hSw); go_simp; try with_reducible rfl)
      (try simp only [Act.put, List.getElem_toArray, List.getElem_cons_succ, List.getElem_cons_zero, List.setIfInBounds_toArray, List.set_cons_zero, List.set_cons_succ])
      refine wpAnyH_done (by kernel_rfl) ?_ _
      refine NoPanic.normal ?_
      have HBF := Lib.hid (And.left (show Below wr.heap.size wr _ ∧ _ from (by assumption)))
      cases y with
      | true =>
        have HZ2 : Hid (R = true) := HZ.out
        go_wp2
        go_ret
        exact ⟨ret_bool HZ2.out.symm, HBW.out.trans (HBF.out.mono HBW.out.size)⟩
      | false =>
        have HZ2 : Hid (R = hasN (ns.drop (k + 1)) n) := HZ.out
        go_wp2
        go_roundw
        case rel => exact ⟨k + 1, by omega, by go_num, HAT.out.on HBF.out, HNT.out.on HBF.out, HBW.out.trans (HBF.out.mono HBW.out.size), HZ2.out⟩
        case measure => simp [intOf]; omega
    · have HZ2 : Hid (R = false) := by
        have := hz.out
        rw [List.drop_eq_nil_of_le (by omega)] at this
        exact this
      have HBW := Lib.hid hbw
      have i1 : ¬ (k : Int) < (ns.length : Int) := by omega
      clear hz hat hnets hbw
      go_wp2
      go_ret
      exact ⟨ret_bool HZ2.out.symm, HBW.out⟩
end Go.Proofs.YtdmajikhpacpfaaDoor.Cidr
