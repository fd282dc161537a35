/-
  DATE, the given answers: number.
-/
import Derived.Test.YtklhgaioolamfaaDoorDatWd
namespace Go.Proofs.YtklhgaioolamfaaDoor.Date
open Go.RowKit Base
set_option maxHeartbeats 8000000 in
set_option maxRecDepth 100000 in
theorem rNumber (s : ByteArray) (least most : Nat) (w : World) (hm : most ≤ 4) (_hl : least ≤ 4) : Calls Tryd.prog 29 #[.string s, .int .i64 (least : Int), .int .i64 (most : Int)] w fun e w' => e = .returned (.int .i64 (numD s.data.toList least most)) ∧ w = w' := by
  obtain ⟨l, hll⟩ : ∃ l, l = s.data.toList := ⟨_, rfl⟩
  have hlen : l.length = s.size := by rw [hll, str_len]
  have HLS : Hid (∀ k (h : k < s.size), l.getD k 0 = s[k]) := fun k h => by rw [hll]; exact str_get s k h
  obtain ⟨fin, hfin⟩ : ∃ fin, fin = numD l least most := ⟨_, rfl⟩
  rw [← hll, ← hfin]
  by_cases h1 : s.size < least
  · have i1 : (s.size : Int) < (least : Int) := by omega
    have HF : Hid (fin = -1) := by show _ = _; rw [hfin, numD, if_pos (Or.inl (by omega))]
    clear h1 hfin hll hlen
    go_enter Tryd.func29, Tryd.ntmps29
    go_wp2
    go_ret
    rw [HF.out]
    exact ⟨rfl, rfl⟩
  · have i1 : ¬ (s.size : Int) < (least : Int) := by omega
    by_cases h2 : most < s.size
    · have i2 : (most : Int) < (s.size : Int) := by omega
      have HF : Hid (fin = -1) := by show _ = _; rw [hfin, numD, if_pos (Or.inr (by omega))]
      clear h1 h2 hfin hll hlen
      go_enter Tryd.func29, Tryd.ntmps29
      go_wp2
      go_ret
      rw [HF.out]
      exact ⟨rfl, rfl⟩
    · have i2 : ¬ (most : Int) < (s.size : Int) := by omega
      have HF0 : Hid (numG 0 (l.drop 0) = fin) := by show _ = _; rw [hfin, numD, if_neg (by omega)]; rfl
      have hsz : s.size ≤ 4 := by omega
      clear h1 h2 hfin hll hm
      go_enter Tryd.func29, Tryd.ntmps29
      go_wp2
      go_loop [7, 8] (fun nv iv => ∃ n i : Nat, nv = .int .i64 (n : Int) ∧ iv = .int .i64 (i : Int) ∧ i ≤ s.size ∧ Hid (numG n (l.drop i) = fin) ∧ Hid (n < 10 ^ i)) (fun _ iv => s.size - (intOf iv).toNat)
      case atStart => exact ⟨0, 0, rfl, rfl, Nat.zero_le _, HF0.out, by show 0 < 10 ^ 0; decide⟩
      case round =>
        clear HF0
        obtain ⟨n, i, rfl, rfl, hi, hn, hp⟩ := hrel
        by_cases hlt : i < s.size
        · have hnb : n ≤ 999 := by
            have := hp.out
            rcases (by omega : i = 0 ∨ i = 1 ∨ i = 2 ∨ i = 3) with rfl | rfl | rfl | rfl <;> simp at this <;> omega
          have k0 : (0 : Int) ≤ (i : Int) := by omega
          have k1 : (i : Int) < (s.size : Int) := by omega
          have heq := hn.out
          rw [drop_cons (show i < l.length by omega), HLS.out i hlt, numG] at heq
          have hcb := s[i].toNat_lt
          by_cases hd1 : s[i].toNat < 48
          · have e1 : (s[i].toNat : Int) < 48 := by omega
            rw [if_pos (Or.inl hd1)] at heq
            have HF : Hid (fin = -1) := heq.symm
            clear heq hn hp hd1
            go_wp2
            go_ret
            rw [HF.out]
            exact ⟨rfl, rfl⟩
          · have e1 : ¬ (s[i].toNat : Int) < 48 := by omega
            by_cases hd2 : 57 < s[i].toNat
            · have e2 : (57 : Int) < (s[i].toNat : Int) := by omega
              rw [if_pos (Or.inr hd2)] at heq
              have HF : Hid (fin = -1) := heq.symm
              clear heq hn hp hd1 hd2
              go_wp2
              go_ret
              rw [HF.out]
              exact ⟨rfl, rfl⟩
            · have e2 : ¬ (57 : Int) < (s[i].toNat : Int) := by omega
              rw [if_neg (by omega)] at heq
              have HN : Hid (numG (10 * n + s[i].toNat - 48) (l.drop (i + 1)) = fin) := heq
              have HP : Hid (10 * n + s[i].toNat - 48 < 10 ^ (i + 1)) := by
                show _ < _
                have := hp.out
                rw [Nat.pow_succ]
                omega
              have e3 : 10 * (n : Int) + (s[i].toNat : Int) - 48 = ((10 * n + s[i].toNat - 48 : Nat) : Int) := by omega
              clear heq hn hp hd1 hd2
              go_wp2
              go_round
              case rel => exact ⟨_, i + 1, by first | rfl | go_num, by go_num, by omega, HN, HP⟩
              case measure => simp [intOf]; omega
        · have k1 : ¬ (i : Int) < (s.size : Int) := by omega
          have HF : Hid (fin = (n : Int)) := by
            have := hn.out
            rw [List.drop_eq_nil_of_le (by omega), numG] at this
            exact this.symm
          clear hn hp
          go_wp2
          go_ret
          rw [HF.out]
          exact ⟨rfl, rfl⟩
end Go.Proofs.YtklhgaioolamfaaDoor.Date
