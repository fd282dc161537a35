/-
  CIDR, the given answers: are two lists of ranges the same?
-/
import Derived.Test.YtdmajikhpacpfaaDoorCidrHas
import Derived.Test.YtdmajikhpacpfaaDoorCidrEq
namespace Go.Proofs.YtdmajikhpacpfaaDoor.Cidr
open Go.RowKit Base
theorem drop_eq (ns ms : List NetM) (k : Nat) (x y : NetM) (hx : ns[k]? = some x) (hy : ms[k]? = some y) : decide (ns.drop k = ms.drop k) = (decide (x = y) && decide (ns.drop (k + 1) = ms.drop (k + 1))) := by
  have h1 := (List.getElem?_eq_some_iff.1 hx)
  have h2 := (List.getElem?_eq_some_iff.1 hy)
  obtain ⟨l1, e1⟩ := h1
  obtain ⟨l2, e2⟩ := h2
  rw [List.drop_eq_getElem_cons l1, List.drop_eq_getElem_cons l2, e1, e2, Bool.eq_iff_iff]
  simp
set_option maxHeartbeats 4000000 in
set_option maxRecDepth 100000 in
set_option linter.unusedSimpArgs false in
theorem rSame (A B : Option Addr) (c d : Nat) (ns ms : List NetM) (w : World) (hns : Nets w A ns) (hms : Nets w B ms) (hnl : ns.length ≤ 9223372036854775807) : Calls Tryd.prog 15 #[.slice A ns.length c, .slice B ms.length d] w (fun e w' => e = .returned (.bool (decide (ns = ms))) ∧ Below w.heap.size w w') := by
  obtain ⟨R, hR⟩ : ∃ R, R = decide (ns = ms) := ⟨_, rfl⟩
  rw [← hR]
  have HR := Lib.hid hR
  have HNS := Lib.hid hns
  have HMS := Lib.hid hms
  have HNL := Lib.hid hnl
  clear hns hms hnl hR
  by_cases hl : ns.length = ms.length
  · have e1 : ((ns.length : Int) == (ms.length : Int)) = true := by rw [hl]; simp
    go_enter Tryd.func15, Tryd.ntmps15
    go_wp2
    go_loopw [5] (fun x wr => ∃ k : Nat, k ≤ ns.length ∧ x = .int .i64 k ∧ Nets wr A ns ∧ Nets wr B ms ∧ Below w.heap.size w wr ∧ Hid (R = decide (ns.drop k = ms.drop k))) (fun x _ => ns.length - (intOf x).toNat)
    case atStart => exact ⟨0, Nat.zero_le _, rfl, HNS.out, HMS.out, Below.refl _ _, HR.out⟩
    case round =>
      obtain ⟨k, hk, rfl, hn, hm, hbw, hz⟩ := hrel
      have hnl := HNL.out
      by_cases hlt : k < ns.length
      · have hx := List.getElem?_eq_getElem hlt
        have hy := List.getElem?_eq_getElem (show k < ms.length by omega)
        obtain ⟨hxa, b1, o1, rfl, hr1⟩ := hn k _ hx
        obtain ⟨hya, b2, o2, rfl, hr2⟩ := hm k _ hy
        generalize ns[k] = x at hx hxa hr1
        generalize ms[k] = y at hy hya hr2
        have HST := Lib.hid (has_drew hr1 hr2)
        have HXA := Lib.hid hxa
        have HYA := Lib.hid hya
        have HZ := Lib.hid (hz.out.trans (drop_eq ns ms k x y hx hy))
        have HN2 := Lib.hid hn
        have HM2 := Lib.hid hm
        have HBW := Lib.hid hbw
        clear hz hn hm hbw hx hy hr1 hr2
        have i1 : (k : Int) < (ns.length : Int) := by omega
        have i0 : (0 : Int) ≤ (k : Int) := by omega
        have i2 : (k : Int) < (ms.length : Int) := by omega
        have u25 := Tryd.underlying25
        have z1 := size25_of hxa
        have z2 := size25_of hya
        go_wp2
        refine wp_region_noPanic ?_
        refine wp_region_held_drew (S := (fun w' => Below wr.heap.size wr w' ∧ w'.rangeAt b1 (o1 + k * 18) (netL x) ∧ w'.rangeAt b2 (o2 + k * 18) (netL y))) (by kernel_rfl) HST.out (fun hHeld => ?_)
        refine wpAnyH_take (i := 0) (v := ?va1) rfl (by kernel_rfl) (by kernel_rfl) (by kernel_rfl) (fun _ _ _ h => h) (Or.inl ⟨by rfl, ?hya1⟩) hHeld ?resta1
        case hya1 => (intro w hSw; (try dsimp only at hSw); go_simp; try with_reducible rfl)
        (try simp only [Act.put, List.getElem_toArray, List.getElem_cons_succ, List.getElem_cons_zero, List.setIfInBounds_toArray, List.set_cons_zero, List.set_cons_succ])
        refine wpAnyH_take (i := 1) (v := ?va2) rfl (by kernel_rfl) (by kernel_rfl) (by kernel_rfl) (fun _ _ _ h => h) (Or.inl ⟨by rfl, ?hya2⟩) hHeld ?resta2
        case hya2 => (intro w hSw; (try dsimp only at hSw); go_simp; try with_reducible rfl)
        (try simp only [Act.put, List.getElem_toArray, List.getElem_cons_succ, List.getElem_cons_zero, List.setIfInBounds_toArray, List.set_cons_zero, List.set_cons_succ])
        refine wpAnyH_take (i := 2) (v := ?va3) rfl (by kernel_rfl) (by kernel_rfl) (by kernel_rfl) (fun _ _ _ h => h) (Or.inl ⟨by rfl, ?hya3⟩) hHeld ?resta3
        case hya3 => (intro w hSw; (try dsimp only at hSw); go_simp; try with_reducible rfl)
        (try simp only [Act.put, List.getElem_toArray, List.getElem_cons_succ, List.getElem_cons_zero, List.setIfInBounds_toArray, List.set_cons_zero, List.set_cons_succ])
        refine wpAnyH_take (i := 3) rfl (by kernel_rfl) (by kernel_rfl) (by kernel_rfl) (fun _ _ _ h => h) (yieldsIf_load_mid (by rfl) 25 (.tmp 19) rfl b1 (o1 + k * 18) (by kernel_rfl) (netL x) _ (fun w' h => h.2.1) u25 rfl z1) hHeld ?_
        (try simp only [Act.put, List.getElem_toArray, List.getElem_cons_succ, List.getElem_cons_zero, List.setIfInBounds_toArray, List.set_cons_zero, List.set_cons_succ])
        refine wpAnyH_take (i := 4) (v := ?va5) rfl (by kernel_rfl) (by kernel_rfl) (by kernel_rfl) (fun _ _ _ h => h) (Or.inl ⟨by rfl, ?hya5⟩) hHeld ?resta5
        case hya5 => (intro w hSw; (try dsimp only at hSw); go_simp; try with_reducible rfl)
        (try simp only [Act.put, List.getElem_toArray, List.getElem_cons_succ, List.getElem_cons_zero, List.setIfInBounds_toArray, List.set_cons_zero, List.set_cons_succ])
        refine wpAnyH_take (i := 5) (v := ?va6) rfl (by kernel_rfl) (by kernel_rfl) (by kernel_rfl) (fun _ _ _ h => h) (Or.inl ⟨by rfl, ?hya6⟩) hHeld ?resta6
        case hya6 => (intro w hSw; (try dsimp only at hSw); go_simp; try with_reducible rfl)
        (try simp only [Act.put, List.getElem_toArray, List.getElem_cons_succ, List.getElem_cons_zero, List.setIfInBounds_toArray, List.set_cons_zero, List.set_cons_succ])
        refine wpAnyH_take (i := 6) (v := ?va7) rfl (by kernel_rfl) (by kernel_rfl) (by kernel_rfl) (fun _ _ _ h => h) (Or.inl ⟨by rfl, ?hya7⟩) hHeld ?resta7
        case hya7 => (intro w hSw; (try dsimp only at hSw); go_simp; try with_reducible rfl)
        (try simp only [Act.put, List.getElem_toArray, List.getElem_cons_succ, List.getElem_cons_zero, List.setIfInBounds_toArray, List.set_cons_zero, List.set_cons_succ])
        refine wpAnyH_take (i := 7) rfl (by kernel_rfl) (by kernel_rfl) (by kernel_rfl) (fun _ _ _ h => h) (yieldsIf_load_mid (by rfl) 25 (.tmp 23) rfl b2 (o2 + k * 18) (by kernel_rfl) (netL y) _ (fun w' h => h.2.2) u25 rfl z2) hHeld ?_
        (try simp only [Act.put, List.getElem_toArray, List.getElem_cons_succ, List.getElem_cons_zero, List.setIfInBounds_toArray, List.set_cons_zero, List.set_cons_succ])
        have HBF := Lib.hid hHeld.1
        refine wpAnyH_take (i := 8) (v := .bool (!decide (x = y))) rfl (by kernel_rfl) (by kernel_rfl) (by kernel_rfl) (fun _ _ _ h => h) (Or.inl ⟨by rfl, fun w' _ => exec_neqNet rfl (by kernel_rfl) (by kernel_rfl) HXA.out HYA.out w'⟩) hHeld ?_
        (try simp only [Act.put, List.getElem_toArray, List.getElem_cons_succ, List.getElem_cons_zero, List.setIfInBounds_toArray, List.set_cons_zero, List.set_cons_succ])
        refine wpAnyH_done (by kernel_rfl) ?_ _
        refine NoPanic.normal ?_
        clear z1 z2 u25 hHeld hxa hya
        generalize decide (x = y) = q at HZ
        cases q with
        | true =>
          have HZ2 : Hid (R = decide (ns.drop (k + 1) = ms.drop (k + 1))) := HZ.out
          go_wp2
          go_roundw
          case rel => exact ⟨k + 1, by omega, by go_num, HN2.out.on HBF.out, HM2.out.on HBF.out, HBW.out.trans (HBF.out.mono HBW.out.size), HZ2.out⟩
          case measure => simp [intOf]; omega
        | false =>
          have HZ2 : Hid (R = false) := HZ.out
          go_wp2
          go_ret
          exact ⟨ret_bool HZ2.out.symm, HBW.out.trans (HBF.out.mono HBW.out.size)⟩
      · have HZ2 : Hid (R = true) := by
          show R = true
          have := hz.out
          rw [List.drop_eq_nil_of_le (by omega), List.drop_eq_nil_of_le (by omega)] at this
          simpa using this
        have HBW := Lib.hid hbw
        have i1 : ¬ (k : Int) < (ns.length : Int) := by omega
        clear hz hn hm hbw
        go_wp2
        go_ret
        exact ⟨ret_bool HZ2.out.symm, HBW.out⟩
  · have e1 : ((ns.length : Int) == (ms.length : Int)) = false := by rw [beq_eq_false_iff_ne]; omega
    have HZ2 : Hid (R = false) := by
      have := HR.out
      rw [decide_eq_false (fun h => hl (by rw [h]))] at this
      exact this
    go_enter Tryd.func15, Tryd.ntmps15
    go_wp2
    go_ret
    exact ⟨ret_bool HZ2.out.symm, Below.refl _ _⟩
end Go.Proofs.YtdmajikhpacpfaaDoor.Cidr
