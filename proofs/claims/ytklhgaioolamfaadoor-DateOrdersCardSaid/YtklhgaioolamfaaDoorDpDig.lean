/-
  DATE, the program: digits, an hour and a minute.
-/
import Derived.Test.YtklhgaioolamfaaDoorDatQ2
namespace Go.Proofs.YtklhgaioolamfaaDoor.Date
open Go.RowKit Base
set_option maxHeartbeats 8000000 in
set_option maxRecDepth 100000 in
theorem pDigits (s : ByteArray) (K : Nat) (w : World) (hm : K ≤ 4) : Calls Tryd.prog 50 #[.string s, .int .i64 (K : Int)] w fun e w' => e = .returned (zonV (okD (numD s.data.toList K K))) ∧ w = w' := by
  obtain ⟨l, hll⟩ : ∃ l, l = s.data.toList := ⟨_, rfl⟩
  have hlen : l.length = s.size := by rw [hll, str_len]
  have HLS : Hid (∀ k (h : k < s.size), l.getD k 0 = s[k]) := fun k h => by rw [hll]; exact str_get s k h
  obtain ⟨fin, hfin⟩ : ∃ fin, fin = numD l K K := ⟨_, rfl⟩
  rw [← hll, ← hfin]
  by_cases h1 : s.size = K
  · have i1 : ((s.size : Int) != (K : Int)) = false := by rw [h1]; simp
    have HF0 : Hid (numG 0 (l.drop 0) = fin) := by show _ = _; rw [hfin, numD, if_neg (by omega)]; rfl
    have hsz := Lib.hid h1
    clear h1 hfin hll
    go_enter Tryd.func50, Tryd.ntmps50
    go_wp2
    go_loop [4, 6, 12] (fun nv iv kv => ∃ n i : Nat, nv = .int .i64 (n : Int) ∧ kv = .int .i64 (i : Int) ∧ i ≤ K ∧ Hid (numG n (l.drop i) = fin) ∧ Hid (n < 10 ^ i)) (fun _ _ kv => K - (intOf kv).toNat)
    case atStart => exact ⟨0, 0, rfl, rfl, Nat.zero_le _, HF0.out, by show 0 < 10 ^ 0; decide⟩
    case round =>
      clear HF0
      obtain ⟨n, i, rfl, rfl, hi, hn, hp⟩ := hrel
      have hsz2 := hsz.out
      by_cases hlt : i < K
      · have hnb : n ≤ 999 := by
          have := hp.out
          rcases (by omega : i = 0 ∨ i = 1 ∨ i = 2 ∨ i = 3) with rfl | rfl | rfl | rfl <;> simp at this <;> omega
        have k0 : (0 : Int) ≤ (i : Int) := by omega
        have k1 : (i : Int) < (K : Int) := by omega
        have k2 : (i : Int) < (s.size : Int) := by omega
        have p2 : i < s.size := by omega
        have heq := hn.out
        rw [drop_cons (show i < l.length by omega), HLS.out i p2, numG] at heq
        have hcb := s[i].toNat_lt
        clear hsz2
        by_cases hd1 : s[i].toNat < 48
        · have e1 : (s[i].toNat : Int) < 48 := by omega
          rw [if_pos (Or.inl hd1)] at heq
          have HF : Hid (zonV (okD fin) = .tuple #[.int .i64 0, .bool false]) := by show _ = _; rw [← heq]; rfl
          clear heq hn hp hd1
          go_wp2
          go_ret2
          rw [HF.out]
          exact ⟨rfl, rfl⟩
        · have e1 : ¬ (s[i].toNat : Int) < 48 := by omega
          by_cases hd2 : 57 < s[i].toNat
          · have e2 : (57 : Int) < (s[i].toNat : Int) := by omega
            rw [if_pos (Or.inr hd2)] at heq
            have HF : Hid (zonV (okD fin) = .tuple #[.int .i64 0, .bool false]) := by show _ = _; rw [← heq]; rfl
            clear heq hn hp hd1 hd2
            go_wp2
            go_ret2
            rw [HF.out]
            exact ⟨rfl, rfl⟩
          · have e2 : ¬ (57 : Int) < (s[i].toNat : Int) := by omega
            rw [if_neg (by omega)] at heq
            have HN : Hid (numG (10 * n + s[i].toNat - 48) (l.drop (i + 1)) = fin) := heq
            have HP : Hid (10 * n + s[i].toNat - 48 < 10 ^ (i + 1)) := by
              show _ < _
              have := hp.out
              rw [Nat.pow_succ]
              omega
            have e3 : 10 * (n : Int) + ((s[i].toNat : Int) - 48) = ((10 * n + s[i].toNat - 48 : Nat) : Int) := by omega
            clear heq hn hp hd1 hd2
            go_wp2
            go_round
            case rel => exact ⟨_, i + 1, by first | rfl | go_num, by go_num, by omega, HN, HP⟩
            case measure => simp [intOf]; omega
      · have k1 : ¬ (i : Int) < (K : Int) := by omega
        have HF : Hid (zonV (okD fin) = .tuple #[.int .i64 (n : Int), .bool true]) := by
          have := hn.out
          rw [List.drop_eq_nil_of_le (by omega), numG] at this
          show _ = _
          rw [← this, okD_yes (by omega)]; rfl
        clear hn hp hsz2
        go_wp2
        go_ret2
        rw [HF.out]
        exact ⟨rfl, rfl⟩
  · have i1 : ((s.size : Int) != (K : Int)) = true := by rw [bne_iff_ne]; omega
    have HF : Hid (zonV (okD fin) = .tuple #[.int .i64 0, .bool false]) := by
      show _ = _
      rw [hfin, numD, if_pos (by omega)]; rfl
    clear h1 hfin hll hlen
    go_enter Tryd.func50, Tryd.ntmps50
    go_wp2
    go_ret2
    rw [HF.out]
    exact ⟨rfl, rfl⟩
/-- An hour and a minute. -/
def hmQ (h m : Int) : Int × Bool := if h < 0 ∨ m < 0 ∨ 23 < h ∨ 59 < m then (0, false) else (3600 * h + 60 * m, true)
set_option maxHeartbeats 8000000 in
set_option maxRecDepth 100000 in
theorem pTime (a b : ByteArray) (w : World) : Calls Tryd.prog 53 #[.string a, .string b] w fun e w' => e = .returned (zonV (hmQ (numD a.data.toList 2 2) (numD b.data.toList 2 2))) ∧ w = w' := by
  have HA0 := Lib.hid (pDigits a 2 w (by omega))
  have HB0 := Lib.hid (pDigits b 2 w (by omega))
  have b1 := num2_le a.data.toList
  have b2 := num2_le b.data.toList
  generalize numD a.data.toList 2 2 = h at HA0 b1
  generalize numD b.data.toList 2 2 = m at HB0 b2
  obtain ⟨Z, hZ⟩ : ∃ Z, Z = zonV (hmQ h m) := ⟨_, rfl⟩
  have HZ := Lib.hid hZ
  rw [← hZ]
  clear hZ
  have HA : Hid (Calls Tryd.prog 50 #[.string a, .int .i64 2] w fun e w' => e = .returned (.tuple #[.int .i64 (okD h).1, .bool (okD h).2]) ∧ w = w') := HA0.out
  have HB : Hid (Calls Tryd.prog 50 #[.string b, .int .i64 2] w fun e w' => e = .returned (.tuple #[.int .i64 (okD m).1, .bool (okD m).2]) ∧ w = w') := HB0.out
  clear HA0 HB0
  by_cases h1 : h < 0
  · have HE : Hid (Z = .tuple #[.int .i64 0, .bool false]) := by show _ = _; rw [HZ.out]; unfold hmQ; rw [if_pos (by omega)]; rfl
    rw [okD_no h1] at HA
    clear HZ h1
    go_enter Tryd.func53, Tryd.ntmps53
    go_wp2_with (first | (go_at_call 50; refine HA.out.mono ?_; rintro ee w1 ⟨rfl, rfl⟩; refine Hid.out ?_) | fail)
    refine Lib.hid ?_
    go_wp2_with (first | (go_at_call 50; refine HB.out.mono ?_; rintro ee w1 ⟨rfl, rfl⟩; refine Hid.out ?_) | fail)
    refine Lib.hid ?_
    go_wp2
    go_ret2
    rw [HE.out]
    exact ⟨rfl, rfl⟩
  · rw [okD_yes h1] at HA
    by_cases h2 : m < 0
    · have HE : Hid (Z = .tuple #[.int .i64 0, .bool false]) := by show _ = _; rw [HZ.out]; unfold hmQ; rw [if_pos (by omega)]; rfl
      rw [okD_no h2] at HB
      clear HZ h1 h2
      go_enter Tryd.func53, Tryd.ntmps53
      go_wp2_with (first | (go_at_call 50; refine HA.out.mono ?_; rintro ee w1 ⟨rfl, rfl⟩; refine Hid.out ?_) | fail)
      refine Lib.hid ?_
      go_wp2_with (first | (go_at_call 50; refine HB.out.mono ?_; rintro ee w1 ⟨rfl, rfl⟩; refine Hid.out ?_) | fail)
      refine Lib.hid ?_
      go_wp2
      go_ret2
      rw [HE.out]
      exact ⟨rfl, rfl⟩
    · rw [okD_yes h2] at HB
      by_cases h3 : 23 < h
      · have HE : Hid (Z = .tuple #[.int .i64 0, .bool false]) := by show _ = _; rw [HZ.out]; unfold hmQ; rw [if_pos (by omega)]; rfl
        clear HZ
        go_enter Tryd.func53, Tryd.ntmps53
        go_wp2_with (first | (go_at_call 50; refine HA.out.mono ?_; rintro ee w1 ⟨rfl, rfl⟩; refine Hid.out ?_) | fail)
        refine Lib.hid ?_
        go_wp2_with (first | (go_at_call 50; refine HB.out.mono ?_; rintro ee w1 ⟨rfl, rfl⟩; refine Hid.out ?_) | fail)
        refine Lib.hid ?_
        go_wp2
        go_ret2
        rw [HE.out]
        exact ⟨rfl, rfl⟩
      · by_cases h4 : 59 < m
        · have HE : Hid (Z = .tuple #[.int .i64 0, .bool false]) := by show _ = _; rw [HZ.out]; unfold hmQ; rw [if_pos (by omega)]; rfl
          clear HZ
          go_enter Tryd.func53, Tryd.ntmps53
          go_wp2_with (first | (go_at_call 50; refine HA.out.mono ?_; rintro ee w1 ⟨rfl, rfl⟩; refine Hid.out ?_) | fail)
          refine Lib.hid ?_
          go_wp2_with (first | (go_at_call 50; refine HB.out.mono ?_; rintro ee w1 ⟨rfl, rfl⟩; refine Hid.out ?_) | fail)
          refine Lib.hid ?_
          go_wp2
          go_ret2
          rw [HE.out]
          exact ⟨rfl, rfl⟩
        · have HE : Hid (Z = .tuple #[.int .i64 (h * 3600 + m * 60), .bool true]) := by
            show _ = _
            rw [HZ.out]; unfold hmQ; rw [if_neg (by omega)]
            unfold zonV
            dsimp only
            rw [Int.mul_comm 3600 h, Int.mul_comm 60 m]
          clear HZ
          go_enter Tryd.func53, Tryd.ntmps53
          go_wp2_with (first | (go_at_call 50; refine HA.out.mono ?_; rintro ee w1 ⟨rfl, rfl⟩; refine Hid.out ?_) | fail)
          refine Lib.hid ?_
          go_wp2_with (first | (go_at_call 50; refine HB.out.mono ?_; rintro ee w1 ⟨rfl, rfl⟩; refine Hid.out ?_) | fail)
          refine Lib.hid ?_
          go_wp2
          go_ret2
          rw [HE.out]
          exact ⟨rfl, rfl⟩
end Go.Proofs.YtklhgaioolamfaaDoor.Date
