/-
  REPLY, the given answers: are two the same?
-/
import Derived.Test.YthkabehojmncmaaDoorRepPrt
import Derived.Deep.CutBlock
import Derived.Deep.DeepCutAuto
namespace Go.Proofs.YthkabehojmncmaaDoor.Reply
open Go.RowKit Base
def sameB (c d : Int) (ls ks : List (List UInt8)) : Bool := decide (c = d) && decide (ls = ks)
theorem same_code {c d : Int} {ls ks : List (List UInt8)} (h : c ≠ d) : sameB c d ls ks = false := by unfold sameB; rw [decide_eq_false h]; rfl
theorem same_len {c d : Int} {ls ks : List (List UInt8)} (h : ls.length ≠ ks.length) : sameB c d ls ks = false := by
  unfold sameB; rw [decide_eq_false (fun e : ls = ks => h (by rw [e])), Bool.and_false]
theorem same_at {c d : Int} {ls ks : List (List UInt8)} {k : Nat} (h : ls.getD k [] ≠ ks.getD k []) : sameB c d ls ks = false := by
  unfold sameB; rw [decide_eq_false (fun e : ls = ks => h (by rw [e])), Bool.and_false]
theorem same_all {c d : Int} {ls ks : List (List UInt8)} (h0 : c = d) (h : ls.length = ks.length) (h2 : ∀ k, k < ls.length → ls.getD k [] = ks.getD k []) : sameB c d ls ks = true := by
  have : ls = ks := by
    apply List.ext_getElem h
    intro k h1 h3
    have := h2 k h1
    simpa [List.getD, List.getElem?_eq_getElem h1, List.getElem?_eq_getElem h3] using this
  unfold sameB; rw [decide_eq_true h0, decide_eq_true this]; rfl
/-- The slice's form, with its cells. -/
theorem rows_form {w : World} {lv : Value} {ls : List (List UInt8)} (h : VReads w lv (ls.map S)) : ∃ a n c, lv = .slice a n c ∧ n = ls.length ∧ n ≤ c ∧ (0 < ls.length → ∃ b o, a = some ⟨b, o, none⟩ ∧ RowS w b o ls) := by
  rcases rows_of h with ⟨rfl, a, c, rfl⟩ | ⟨h0, b, o, c, rfl, hc, hr⟩
  · exact ⟨a, 0, c, rfl, rfl, Nat.zero_le _, fun h => by simp at h⟩
  · exact ⟨_, _, c, rfl, rfl, hc, fun _ => ⟨b, o, rfl, hr⟩⟩
set_option maxHeartbeats 8000000 in
set_option maxRecDepth 100000 in
theorem rSame (c d : Int) (lv kv : Value) (ls ks : List (List UInt8)) (w : World) (hr : VReads w lv (ls.map S)) (hq : VReads w kv (ks.map S)) (hn : ls.length ≤ 9223372036854775000) (hm : ks.length ≤ 9223372036854775000) :
    Calls Tryd.prog 16 #[replyV c lv, replyV d kv] w fun e w' => e = .returned (.bool (sameB c d ls ks)) ∧ Below w.heap.size w w' := by
  obtain ⟨out, hout⟩ : ∃ out, out = sameB c d ls ks := ⟨_, rfl⟩
  have HO := Lib.hid hout
  rw [← hout]
  clear hout
  obtain ⟨a, n, cc, rfl, hnn, hcap, hrow⟩ := rows_form hr
  obtain ⟨a2, n2, cc2, rfl, hnn2, hcap2, hrow2⟩ := rows_form hq
  have HN := Lib.hid hnn
  have HN2 := Lib.hid hnn2
  rw [← hnn] at hn
  rw [← hnn2] at hm
  obtain ⟨w1, hw1⟩ : ∃ w1, w1 = w.alloc (.cells #[.int .i64 c, .slice a n cc] 24) := ⟨_, rfl⟩
  obtain ⟨wB, hwB⟩ : ∃ wB, wB = w1.alloc (.cells #[.int .i64 d, .slice a2 n2 cc2] 24) := ⟨_, rfl⟩
  have hs1 : w1.heap.size = w.heap.size + 1 := by rw [hw1]; exact Array.size_push _
  have hb1 : Below w.heap.size w w1 := by rw [hw1]; exact Below.alloc1 w _
  have hb2 : Below w1.heap.size w1 wB := by rw [hwB]; exact Below.alloc1 w1 _
  have HBB : Hid (Below w.heap.size w wB) := hb1.trans (hb2.mono hb1.size)
  have hx1 : BoxR w1 w.heap.size c (.slice a n cc) := by rw [hw1]; exact BoxR.new w c _
  have HX1 : Hid (BoxR wB w.heap.size c (.slice a n cc)) := hx1.on hb2
  have HX2 : Hid (BoxR wB (w.heap.size + 1) d (.slice a2 n2 cc2)) := by show BoxR _ _ _ _; rw [← hs1, hwB]; exact BoxR.new w1 d _
  have HRW : Hid (0 < n → ∃ b o, a = some ⟨b, o, none⟩ ∧ RowS wB b o ls) := fun h => by
    obtain ⟨b, o, e, hr⟩ := hrow (by omega)
    exact ⟨b, o, e, hr.on HBB.out⟩
  have HRW2 : Hid (0 < n2 → ∃ b o, a2 = some ⟨b, o, none⟩ ∧ RowS wB b o ks) := fun h => by
    obtain ⟨b, o, e, hr⟩ := hrow2 (by omega)
    exact ⟨b, o, e, hr.on HBB.out⟩
  rw [hw1] at hwB
  have HWB := Lib.hid hwB
  obtain ⟨g, hg⟩ : ∃ g, g = w.heap.size + 1 := ⟨_, rfl⟩
  rw [← hg] at HX2
  clear hr hq hrow hrow2 hs1 hb1 hb2 hx1 hw1 w1 hwB hnn hnn2
  obtain ⟨x0, x1⟩ := HX1.out.cells
  obtain ⟨y0, y1⟩ := HX2.out.cells
  by_cases hcd : c = d
  · have q1 : ((c : Int) != d) = false := by rw [bne_eq_false_iff_eq]; exact hcd
    by_cases hln : n = n2
    · have q2 : ((n : Int) != (n2 : Int)) = false := by rw [bne_eq_false_iff_eq]; omega
      have HCD := Lib.hid hcd
      have HLN := Lib.hid hln
      clear hcd hln
      go_enter Tryd.func16, Tryd.ntmps16
      go_upto_region 1 with fail
      rw [← HWB.out, ← hg]
      clear hg HWB
      go_wp2
      go_loopw [5] (fun i wr => ∃ k : Nat, k ≤ n ∧ i = .int .i64 (k : Int) ∧ Hid (∀ j, j < k → ls.getD j [] = ks.getD j []) ∧ Hid (Below wB.heap.size wB wr)) (fun i _ => n - (intOf i).toNat)
      case atStart => exact ⟨0, by omega, rfl, fun j hj => by omega, Below.refl _ _⟩
      case round =>
        obtain ⟨k, hk, rfl, hp, HB⟩ := hrel
        obtain ⟨x0, x1⟩ := (HX1.out.on HB.out).cells
        obtain ⟨y0, y1⟩ := (HX2.out.on HB.out).cells
        by_cases hlt : k < n
        · have i0 : (0 : Int) ≤ (k : Int) := by omega
          have i1 : (k : Int) < (n : Int) := by omega
          have i2 : (k : Int) < (n2 : Int) := by have := HLN.out; omega
          obtain ⟨b, o, rfl, hra⟩ := HRW.out (by omega)
          obtain ⟨b2, o2, rfl, hrb⟩ := HRW2.out (by have := HLN.out; omega)
          have ca := (hra.on HB.out) k (by have := HN.out; omega)
          have cb := (hrb.on HB.out) k (by have := HN2.out; have := HLN.out; omega)
          have HD : Hid (∀ m, Below wr.heap.size wr (wr.drewN m)) := fun m => ⟨rfl, rfl, rfl, Nat.le_refl _, fun _ _ => rfl⟩
          have HNO : Hid (ls.getD k [] ≠ ks.getD k [] → out = false) := fun h => by rw [HO.out]; exact same_at h
          have HYE : Hid (ls.getD k [] = ks.getD k [] → ∀ j, j < k + 1 → ls.getD j [] = ks.getD j []) := fun h j hj => by
            rcases Nat.lt_or_ge j k with h1 | h1
            · exact hp.out j h1
            · rw [show j = k by omega]; exact h
          generalize ls.getD k [] = x at ca HNO HYE
          generalize ks.getD k [] = y at cb HNO HYE
          clear hra hrb hp
          cases hxy : x == y with
          | true =>
            have hxe : x = y := eq_of_beq hxy
            have HNX := Lib.hid (HYE.out hxe)
            have q3 : (x != y) = false := by rw [bne_eq_false_iff_eq]; exact hxe
            clear HNO HYE hxe
            go_wp2
            go_quiet (fail)
            go_wp2
            go_roundw
            case rel => exact ⟨k + 1, by omega, by go_num, HNX, HB.out.trans ((HD.out _).mono HB.out.size)⟩
            case measure => simp [intOf]; omega
          | false =>
            have hxe : x ≠ y := fun e => by rw [e] at hxy; simp at hxy
            have HE : Hid (out = false) := HNO.out hxe
            have q3 : (x != y) = true := by rw [bne_iff_ne]; exact hxe
            clear HNO HYE hxe
            go_wp2
            go_quiet (fail)
            go_wp2
            go_ret
            exact ⟨ret_bool HE.out.symm, HBB.out.trans ((HB.out.trans ((HD.out _).mono HB.out.size)).mono HBB.out.size)⟩
        · have i1 : ¬ (k : Int) < (n : Int) := by omega
          have HE : Hid (out = true) := by
            show _ = _
            rw [HO.out]
            have := HN.out
            have := HN2.out
            have := HLN.out
            exact same_all HCD.out (by omega) (fun j hj => hp.out j (by omega))
          clear hp
          go_wp2
          go_ret
          exact ⟨ret_bool HE.out.symm, HBB.out.trans (HB.out.mono HBB.out.size)⟩
    · have q2 : ((n : Int) != (n2 : Int)) = true := by rw [bne_iff_ne]; omega
      have HE : Hid (out = false) := by show _ = _; rw [HO.out]; exact same_len (by rw [← HN.out, ← HN2.out]; exact hln)
      clear hcd hln
      go_enter Tryd.func16, Tryd.ntmps16
      go_upto_region 1 with fail
      rw [← HWB.out, ← hg]
      clear hg HWB
      go_wp2
      go_ret
      exact ⟨ret_bool HE.out.symm, HBB.out⟩
  · have q1 : ((c : Int) != d) = true := by rw [bne_iff_ne]; exact hcd
    have HE : Hid (out = false) := by show _ = _; rw [HO.out]; exact same_code hcd
    clear hcd
    go_enter Tryd.func16, Tryd.ntmps16
    go_upto_region 1 with fail
    rw [← HWB.out, ← hg]
    clear hg HWB
    go_wp2
    go_ret
    exact ⟨ret_bool HE.out.symm, HBB.out⟩
end Go.Proofs.YthkabehojmncmaaDoor.Reply
