/-
  CIDR, the program: where the longest row of groups that are 0 stands.
-/
import Derived.Test.YtdmajikhpacpfaaDoorCidrPGrpF
namespace Go.Proofs.YtdmajikhpacpfaaDoor.Cidr
open Go.RowKit Base
/-- From, to, start behind the first k groups. -/
def zN (G : List Nat) : Nat → Nat × Nat × Nat
  | 0 => (0, 0, 0)
  | k + 1 => if G.getD k 0 ≠ 0 then ((zN G k).1, (zN G k).2.1, k + 1) else if max ((zN G k).2.1 - (zN G k).1) 1 < k + 1 - (zN G k).2.2 then ((zN G k).2.2, k + 1, (zN G k).2.2) else zN G k
theorem zN_ok (G : List Nat) : ∀ k, (zN G k).1 ≤ (zN G k).2.1 ∧ (zN G k).2.1 ≤ k ∧ (zN G k).2.2 ≤ k
  | 0 => by simp [zN]
  | k + 1 => by
    have := zN_ok G k
    unfold zN
    split
    · simp only; omega
    · split
      · simp only; omega
      · omega
theorem list8 {c : List Nat} (h : c.length = 8) : ∃ a0 a1 a2 a3 a4 a5 a6 a7, c = [a0, a1, a2, a3, a4, a5, a6, a7] := by
  rcases c with _ | ⟨a0, c⟩
  · simp at h
  rcases c with _ | ⟨a1, c⟩
  · simp at h
  rcases c with _ | ⟨a2, c⟩
  · simp at h
  rcases c with _ | ⟨a3, c⟩
  · simp at h
  rcases c with _ | ⟨a4, c⟩
  · simp at h
  rcases c with _ | ⟨a5, c⟩
  · simp at h
  rcases c with _ | ⟨a6, c⟩
  · simp at h
  rcases c with _ | ⟨a7, c⟩
  · simp at h
  have hc : c = [] := by simpa using h
  subst hc
  exact ⟨a0, a1, a2, a3, a4, a5, a6, a7, rfl⟩
theorem index81 (G : List Nat) (hG : G.length = 8) (k : Nat) (hk : k < 8) (w : World) : (Instr.index 81 (.agg (G.map U64).toArray) (.int .i64 (k : Int))).run Tryd.prog w = .ok (.int .u64 ((G.getD k 0 : Nat) : Int)) w := by
  obtain ⟨a0, a1, a2, a3, a4, a5, a6, a7, rfl⟩ := list8 hG
  rcases (by omega : k = 0 ∨ k = 1 ∨ k = 2 ∨ k = 3 ∨ k = 4 ∨ k = 5 ∨ k = 6 ∨ k = 7) with rfl | rfl | rfl | rfl | rfl | rfl | rfl | rfl
  all_goals kernel_rfl
theorem size81 : (Tryd.prog.info? 81).map (·.size) = some 8 := by kernel_rfl
set_option maxHeartbeats 4000000 in
set_option maxRecDepth 100000 in
theorem pZeros (G : List Nat) (hG : G.length = 8) (w : World) : Calls Tryd.prog 58 #[.agg (G.map U64).toArray] w fun e w' => e = .returned (.tuple #[.int .i64 ((zN G 8).1 : Int), .int .i64 ((zN G 8).2.1 : Int)]) ∧ Below w.heap.size w w' := by
  have HG := Lib.hid hG
  have hat := (MapKept.heap_alloc w (.cells (G.map U64).toArray 81)).1
  have HRG : Hid ((w.alloc (.cells (G.map U64).toArray 81)).rangeAt w.heap.size 0 (G.map U64)) := fun j v hv => by
    rw [Nat.zero_add, cell_of_row _ _ j _ _ _ hat]; simpa using hv
  have HSZ : Hid ((Tryd.prog.info? 81).map (·.size) = some (G.map U64).length) := by show _ = _; rw [size81]; simp [hG]
  have HB0 := Lib.hid (Below.alloc1 w (.cells (G.map U64).toArray 81))
  obtain ⟨R, hR⟩ : ∃ R : Value → Value → Value → Value → World → Prop, R = fun f t s i wr => ∃ k : Nat, k ≤ 8 ∧ i = .int .i64 (k : Int) ∧ f = .int .i64 ((zN G k).1 : Int) ∧ t = .int .i64 ((zN G k).2.1 : Int) ∧ s = .int .i64 ((zN G k).2.2 : Int) ∧ Below w.heap.size w wr := ⟨_, rfl⟩
  have HR := Lib.hid hR
  clear hR hat
  go_enter Tryd.func58, Tryd.ntmps58
  go_wp2_with (first | (refine wpList_load_mid rfl 81 (.tmp 1) rfl w.heap.size 0 rfl (G.map U64) _ HRG.out Tryd.underlying81 rfl HSZ.out ?_) | fail)
  go_loopw [4, 5, 6, 10] (fun f t s i wr => R f t s i wr) (fun _ _ _ i _ => 8 - (intOf i).toNat)
  case atStart => rw [HR.out]; exact ⟨0, by omega, rfl, rfl, rfl, rfl, HB0.out⟩
  case round =>
    rw [HR.out] at hrel
    obtain ⟨k, hk, rfl, rfl, rfl, rfl, hb⟩ := hrel
    have HB := Lib.hid hb
    obtain ⟨z1, z2, z3⟩ := zN_ok G k
    by_cases hlt : k < 8
    · have i1 : (k : Int) < 8 := by omega
      have i0 : (0 : Int) ≤ (k : Int) := by omega
      have hkl : k < G.length := by rw [hG]; exact hlt
      have hstep : zN G (k + 1) = if G.getD k 0 ≠ 0 then ((zN G k).1, (zN G k).2.1, k + 1) else if max ((zN G k).2.1 - (zN G k).1) 1 < k + 1 - (zN G k).2.2 then ((zN G k).2.2, k + 1, (zN G k).2.2) else zN G k := rfl
      have HRK : Hid (∀ f t s, zN G (k + 1) = (f, t, s) → R (.int .i64 (f : Int)) (.int .i64 (t : Int)) (.int .i64 (s : Int)) (.int .i64 ((k : Int) + 1)) wr) := fun f t s h => by
        rw [HR.out]
        exact ⟨k + 1, by omega, by simp, by rw [h], by rw [h], by rw [h], HB.out⟩
      have hix := index81 G hG k hlt wr
      obtain ⟨f, hf⟩ : ∃ f, f = (zN G k).1 := ⟨_, rfl⟩
      obtain ⟨t, ht⟩ : ∃ t, t = (zN G k).2.1 := ⟨_, rfl⟩
      obtain ⟨s, hs⟩ : ∃ s, s = (zN G k).2.2 := ⟨_, rfl⟩
      have hz : zN G k = (f, t, s) := by rw [hf, ht, hs]
      rw [hz] at hstep
      rw [← hf, ← ht] at z1
      rw [← ht] at z2
      rw [← hs] at z3
      rw [← hf, ← ht, ← hs]
      simp only at hstep
      generalize G.getD k 0 = g at hix hstep
      have HST := Lib.hid hstep
      clear hstep hz hf ht hs hb
      by_cases hg0 : g = 0
      · subst hg0
        by_cases hm : max (t - f) 1 < k + 1 - s
        · have HF : Hid (R (.int .i64 (s : Int)) (.int .i64 ((k : Int) + 1)) (.int .i64 (s : Int)) (.int .i64 ((k : Int) + 1)) wr) := by
            have := HRK.out s (k + 1) s (by rw [HST.out, if_neg (by simp), if_pos hm])
            rw [show ((k + 1 : Nat) : Int) = (k : Int) + 1 from rfl] at this
            exact this
          have m1 : max ((t : Int) - (f : Int)) 1 < (k : Int) + 1 - (s : Int) := by omega
          go_wp2
          go_roundw
          case rel => exact HF.out
          case measure => simp [intOf]; omega
        · have HF : Hid (R (.int .i64 (f : Int)) (.int .i64 (t : Int)) (.int .i64 (s : Int)) (.int .i64 ((k : Int) + 1)) wr) := HRK.out f t s (by rw [HST.out, if_neg (by simp), if_neg hm])
          have m1 : ¬ max ((t : Int) - (f : Int)) 1 < (k : Int) + 1 - (s : Int) := by omega
          go_wp2
          go_roundw
          case rel => exact HF.out
          case measure => simp [intOf]; omega
      · have HF : Hid (R (.int .i64 (f : Int)) (.int .i64 (t : Int)) (.int .i64 ((k : Int) + 1)) (.int .i64 ((k : Int) + 1)) wr) := by
          have := HRK.out f t (k + 1) (by rw [HST.out, if_pos hg0])
          rw [show ((k + 1 : Nat) : Int) = (k : Int) + 1 from rfl] at this
          exact this
        have m1 : ((g : Int) != 0) = true := by rw [bne_iff_ne]; omega
        go_wp2
        go_roundw
        case rel => exact HF.out
        case measure => simp [intOf]; omega
    · obtain rfl : k = 8 := by omega
      have i1 : ¬ ((8 : Nat) : Int) < 8 := by omega
      clear hb
      go_wp2
      go_ret2
      exact ⟨rfl, HB.out⟩
end Go.Proofs.YtdmajikhpacpfaaDoor.Cidr
