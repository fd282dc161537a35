/-
  HEADER, the program: names that are the same; blanks; texts.
-/
import Derived.Test.YtnogpoojhhmadaaDoorHpName
import Derived.Test.YtnogpoojhhmadaaDoorHdrWrite
import Derived.BigQuiet
namespace Go.Proofs.YtnogpoojhhmadaaDoor.Header
open Go.RowKit Base
theorem pBlank (r : Int) (w : World) : Calls Tryd.prog 42 #[.int .i32 r] w fun e w' => e = .returned (.bool (decide (r = 32 ∨ r = 9))) ∧ w = w' := by
  by_cases h1 : r = 32
  · subst h1
    go_enter Tryd.func42, Tryd.ntmps42
    go_wp2
    go_ret
    exact ⟨rfl, rfl⟩
  · have e1 : (r == 32) = false := by rw [beq_eq_false_iff_ne]; exact h1
    by_cases h2 : r = 9
    · subst h2
      clear h1
      go_enter Tryd.func42, Tryd.ntmps42
      go_wp2
      go_ret
      exact ⟨rfl, rfl⟩
    · have e2 : (r == 9) = false := by rw [beq_eq_false_iff_ne]; exact h2
      have HE : Hid (decide (r = 32 ∨ r = 9) = false) := by show _ = _; simp [h1, h2]
      clear h1 h2
      go_enter Tryd.func42, Tryd.ntmps42
      go_wp2
      go_ret
      exact ⟨by rw [HE.out]; rfl, rfl⟩
theorem same_len {a b : ByteArray} (h : ¬ a.size = b.size) : sameB a.data.toList b.data.toList = false := by
  unfold sameB
  rw [beq_eq_false_iff_ne]
  intro e
  have := congrArg List.length e
  rw [lower_len, lower_len, str_len, str_len] at this
  exact h this
theorem lower_at (l : List UInt8) (j : Nat) : (lower l).getD j 0 = low1 (l.getD j 0) := by
  unfold lower
  rw [List.getD_eq_getElem?_getD, List.getElem?_map, List.getD_eq_getElem?_getD]
  cases l[j]? with
  | none => rfl
  | some x => rfl
theorem same_no {a b : ByteArray} {j : Nat} (ha : j < a.size) (hb : j < b.size) (h : ¬ low1 a[j] = low1 b[j]) : sameB a.data.toList b.data.toList = false := by
  unfold sameB
  rw [beq_eq_false_iff_ne]
  intro e
  have h1 := lower_at a.data.toList j
  have h2 := lower_at b.data.toList j
  rw [e, h2, str_get a j ha, str_get b j hb] at h1
  exact h h1.symm
theorem same_yes {a b : ByteArray} (hs : a.size = b.size) (h : ∀ (j : Nat) (ha : j < a.size) (hb : j < b.size), low1 a[j] = low1 b[j]) : sameB a.data.toList b.data.toList = true := by
  unfold sameB
  rw [beq_iff_eq]
  apply List.ext_getElem
  · rw [lower_len, lower_len, str_len, str_len, hs]
  · intro j h1 h2
    have ha : j < a.size := by rw [lower_len, str_len] at h1; exact h1
    have hb : j < b.size := by rw [lower_len, str_len] at h2; exact h2
    simp only [lower, List.getElem_map]
    rw [str_getL a j ha, str_getL b j hb]
    exact h j ha hb
theorem bel_drewN {B : Nat} (n : Nat) (w : World) (_h : B ≤ w.heap.size) : Below B w (w.drewN n) := ⟨rfl, rfl, rfl, Nat.le_refl _, fun _ _ => rfl⟩
theorem low_ne {x y : UInt8} (h : ¬ x = y) : ((x.toNat : Int) != (y.toNat : Int)) = true := by
  rw [bne_iff_ne]
  intro e
  exact h (UInt8.toNat_inj.1 (by omega))
set_option maxHeartbeats 4000000 in
set_option maxRecDepth 100000 in
theorem pSame (a b : ByteArray) (w : World) (ha : a.size ≤ 9000000000000000000) (_hb : b.size ≤ 9000000000000000000) : Calls Tryd.prog 28 #[.string a, .string b] w fun e w' => e = .returned (.bool (sameB a.data.toList b.data.toList)) ∧ Below w.heap.size w w' := by
  by_cases hz : a.size = b.size
  · have e1 : ((a.size : Int) != (b.size : Int)) = false := by rw [hz]; simp
    have HL : Hid (∀ (c : UInt8) (w1 : World), Calls Tryd.prog 45 #[.int .u8 (c.toNat : Int)] w1 fun e w' => e = .returned (.int .u8 ((low1 c).toNat : Int)) ∧ w1 = w') := fun c w1 => pLower c w1
    have HZ := Lib.hid hz
    clear hz
    go_enter Tryd.func28, Tryd.ntmps28
    go_wp2
    go_loopw [13] (fun i wr => ∃ j : Nat, j ≤ a.size ∧ i = .int .i64 (j : Int) ∧ Hid (∀ (k : Nat) (ha : k < a.size) (hb : k < b.size), k < j → low1 a[k] = low1 b[k]) ∧ Hid (Below w.heap.size w wr)) (fun i _ => a.size - (intOf i).toNat)
    case atStart => exact ⟨0, by omega, rfl, fun k _ _ h => by omega, Below.refl _ _⟩
    case round =>
      obtain ⟨j, hj, rfl, HC, HB⟩ := hrel
      by_cases hlt : j < a.size
      · have i0 : (0 : Int) ≤ (j : Int) := by omega
        have i1 : (j : Int) < (a.size : Int) := by omega
        have hlt2 : j < b.size := by rw [← HZ.out]; exact hlt
        have i2 : (j : Int) < (b.size : Int) := by omega
        have HD : Hid (∀ n, Below w.heap.size w (wr.drewN n)) := fun n => HB.out.trans (bel_drewN _ _ HB.out.size)
        by_cases hq : low1 a[j] = low1 b[j]
        · have e2 : (((low1 a[j]).toNat : Int) != ((low1 b[j]).toNat : Int)) = false := by rw [hq]; simp
          have HC2 : Hid (∀ (k : Nat) (ha : k < a.size) (hb : k < b.size), k < j + 1 → low1 a[k] = low1 b[k]) := fun k h1 h2 h3 => by
            by_cases hk : k = j
            · subst hk; exact hq
            · exact HC.out k h1 h2 (by omega)
          clear HC hq
          go_wp2
          go_quiet ((go_at_call 45; exact Calls.quiet_of_same ((HL.out _ _).mono fun _ _ h => ⟨h.1, h.2.symm⟩)))
          go_wp2
          go_roundw
          case rel => exact ⟨j + 1, by omega, by go_num, HC2, HD.out _⟩
          case measure => simp [intOf]; omega
        · have e2 := low_ne hq
          have HN : Hid (sameB a.data.toList b.data.toList = false) := same_no hlt hlt2 hq
          clear HC hq
          go_wp2
          go_quiet ((go_at_call 45; exact Calls.quiet_of_same ((HL.out _ _).mono fun _ _ h => ⟨h.1, h.2.symm⟩)))
          go_wp2
          go_ret
          exact ⟨by rw [HN.out]; rfl, HD.out _⟩
      · have i1 : ¬ (j : Int) < (a.size : Int) := by omega
        have HN : Hid (sameB a.data.toList b.data.toList = true) := same_yes HZ.out fun k h1 h2 => HC.out k h1 h2 (by omega)
        clear HC
        go_wp2
        go_ret
        exact ⟨by rw [HN.out]; rfl, HB.out⟩
  · have e1 : ((a.size : Int) != (b.size : Int)) = true := by rw [bne_iff_ne]; omega
    have HN : Hid (sameB a.data.toList b.data.toList = false) := same_len hz
    clear hz
    go_enter Tryd.func28, Tryd.ntmps28
    go_wp2
    go_ret
    exact ⟨by rw [HN.out]; rfl, Below.refl _ _⟩
end Go.Proofs.YtnogpoojhhmadaaDoor.Header
