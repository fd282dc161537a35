/-
  REPLY: the status of a line: the given answers. (Written by gen_repstatr.py.)
-/
import Derived.Test.YthkabehojmncmaaDoorRepStat
namespace Go.Proofs.YthkabehojmncmaaDoor.Reply
open Go.RowKit Base
theorem numR_le {l : List UInt8} {p : Nat × Nat} (h : numR l = some p) : p.2 ≤ l.length := by
  obtain ⟨x, r, rfl, h2, _⟩ := numR_some h
  simp; omega
set_option maxHeartbeats 8000000 in
set_option maxRecDepth 100000 in
theorem rStatus (s : ByteArray) (w : World) (hs : s.size ≤ 9223372036854774000) : Calls Tryd.prog 20 #[.string s] w fun e w' => e = .returned (statV (statR s.data.toList)) ∧ w = w' := by
  obtain ⟨l, hll⟩ : ∃ l, l = s.data.toList := ⟨_, rfl⟩
  have hlen : l.length = s.size := by rw [hll, str_len]
  have HLS : Hid (∀ k (h : k < s.size), l.getD k 0 = s[k]) := fun k h => by rw [hll]; exact str_get s k h
  have HNU : Hid (∀ (k : Nat) w1, k ≤ s.size → Calls Tryd.prog 33 #[.string s, .int .i64 (k : Int)] w1 fun e w' => e = .returned (numV k (numR (l.drop k))) ∧ w1 = w') := fun k w1 hk => by rw [hll]; exact rNumber s k w1 (by omega) hk
  rw [← hll]
  have HST : Hid (statR l = if l.length < 5 ∨ ¬ ((l.getD 0 0).toNat = 50 ∨ (l.getD 0 0).toNat = 52 ∨ (l.getD 0 0).toNat = 53) ∨ (l.getD 1 0).toNat ≠ 46 then none
    else match numR (l.drop 2) with
      | none => none
      | some p => if l.length ≤ 2 + p.2 ∨ (l.getD (2 + p.2) 0).toNat ≠ 46 then none else stat2 l (2 + p.2) p.1) := rfl
  have HN2 : Hid (∀ k v, stat2 l k v = match numR (l.drop (k + 1)) with
    | none => none
    | some q => if k + 1 + q.2 < l.length ∧ (l.getD (k + 1 + q.2) 0).toNat ≠ 32 then none else some ((l.getD 0 0).toNat - 48, v, q.1)) := fun _ _ => rfl
  generalize statR l = fin at HST ⊢
  rw [hlen] at HST HN2
  have HLD : Hid (∀ k p, k ≤ s.size → numR (l.drop k) = some p → k + p.2 ≤ s.size) := fun k p hk h => by
    have := numR_le h
    rw [List.length_drop] at this
    omega
  clear hlen hll
  have HNO : Hid (statV none = .tuple #[.int .i64 0, .int .i64 0, .int .i64 0, .bool false]) := rfl
  by_cases h5 : s.size < 5
  · have q5 : (s.size : Int) < 5 := by omega
    have HE : Hid (fin = none) := by show _ = _; rw [HST.out, if_pos (Or.inl h5)]
    go_enter Tryd.func20, Tryd.ntmps20
    go_wp2
    ((try simp only [Exit.inBlock, Exit.then]); refine bodyPost_ret (results_tmp4 rfl _ _ _) rfl ?_)
    rw [HE.out, HNO.out]
    exact ⟨rfl, rfl⟩
  · have q5 : ¬ (s.size : Int) < 5 := by omega
    have z0 : 0 < s.size := by omega
    have z1 : 1 < s.size := by omega
    have y0 : (0 : Int) < (s.size : Int) := by omega
    have y1 : (1 : Int) < (s.size : Int) := by omega
    have G0 : Hid (l.getD 0 0 = s[0]) := HLS.out 0 z0
    have G1 : Hid (l.getD 1 0 = s[1]) := HLS.out 1 z1
    have hb0 := s[0].toNat_lt
    have hb1 := s[1].toNat_lt
    rw [G0.out, G1.out] at HST
    rw [G0.out] at HN2
    have N2 : Hid (Calls Tryd.prog 33 #[.string s, .int .i64 2] w fun e w' => e = .returned (numV 2 (numR (l.drop 2))) ∧ w = w') := HNU.out 2 w (by omega)
    by_cases c0 : s[0].toNat = 50
    · have f0 : ((s[0].toNat : Int) != 50) = false := by rw [bne_eq_false_iff_eq]; omega
      have HD : Hid (s[0].toNat = 50 ∨ s[0].toNat = 52 ∨ s[0].toNat = 53) := Or.inl c0
      clear c0
      by_cases c46 : s[1].toNat = 46
      · have g1 : ((s[1].toNat : Int) != 46) = false := by rw [bne_eq_false_iff_eq]; omega
        have HS2 : Hid (fin = match numR (l.drop 2) with
          | none => none
          | some p => if s.size ≤ 2 + p.2 ∨ (l.getD (2 + p.2) 0).toNat ≠ 46 then none else stat2 l (2 + p.2) p.1) := by
          have := HD.out
          show _ = _
          rw [HST.out, if_neg (by omega)]
        have HL2 : Hid (∀ p, numR (l.drop 2) = some p → 2 + p.2 ≤ s.size) := fun p h => HLD.out 2 p (by omega) h
        clear HST c46
        generalize numR (l.drop 2) = r2 at N2 HS2 HL2
        cases r2 with
        | none =>
          have HE : Hid (fin = none) := HS2.out
          have N2' : Hid (Calls Tryd.prog 33 #[.string s, .int .i64 2] w fun e w' => e = .returned (.tuple #[.int .i64 0, .int .i64 0, .bool false]) ∧ w = w') := N2.out
          clear HS2 N2
          go_enter Tryd.func20, Tryd.ntmps20
          go_wp2_with (first | (go_at_call 33; refine N2'.out.mono ?_; rintro ee w1 ⟨rfl, rfl⟩; refine Hid.out ?_) | fail)
          refine Lib.hid ?_
          go_wp2
          ((try simp only [Exit.inBlock, Exit.then]); refine bodyPost_ret (results_tmp4 rfl _ _ _) rfl ?_)
          rw [HE.out, HNO.out]
          exact ⟨rfl, rfl⟩
        | some p =>
          obtain ⟨v, k2⟩ := p
          have hkl := HL2.out _ rfl
          obtain ⟨K, hK⟩ : ∃ K, K = 2 + k2 := ⟨_, rfl⟩
          have N2' : Hid (Calls Tryd.prog 33 #[.string s, .int .i64 2] w fun e w' => e = .returned (.tuple #[.int .i64 (v : Int), .int .i64 (K : Int), .bool true]) ∧ w = w') := by rw [hK]; exact N2.out
          have HS3 : Hid (fin = if s.size ≤ K ∨ (l.getD K 0).toNat ≠ 46 then none else stat2 l K v) := by rw [hK]; exact HS2.out
          dsimp only at hkl
          rw [← hK] at hkl
          clear HS2 N2 HL2 hK
          by_cases hKs : K < s.size
          · have p0 : (0 : Int) ≤ (K : Int) := by omega
            have p1 : (K : Int) < (s.size : Int) := by omega
            have GK : Hid (l.getD K 0 = s[K]) := HLS.out K hKs
            rw [GK.out] at HS3
            have hbK := s[K].toNat_lt
            by_cases cK : s[K].toNat = 46
            · have gK : ((s[K].toNat : Int) != 46) = false := by rw [bne_eq_false_iff_eq]; omega
              have N3 : Hid (Calls Tryd.prog 33 #[.string s, .int .i64 ((K : Int) + 1)] w fun e w' => e = .returned (numV (K + 1) (numR (l.drop (K + 1)))) ∧ w = w') := HNU.out (K + 1) w (by omega)
              have HS4 : Hid (fin = match numR (l.drop (K + 1)) with
                | none => none
                | some q => if K + 1 + q.2 < s.size ∧ (l.getD (K + 1 + q.2) 0).toNat ≠ 32 then none else some (s[0].toNat - 48, v, q.1)) := by
                show _ = _
                rw [HS3.out, if_neg (by omega), HN2.out]
              have HL3 : Hid (∀ q, numR (l.drop (K + 1)) = some q → K + 1 + q.2 ≤ s.size) := fun q h => HLD.out (K + 1) q (by omega) h
              clear HS3 cK HN2
              generalize numR (l.drop (K + 1)) = r3 at N3 HS4 HL3
              cases r3 with
              | none =>
                have HE : Hid (fin = none) := HS4.out
                have N3' : Hid (Calls Tryd.prog 33 #[.string s, .int .i64 ((K : Int) + 1)] w fun e w' => e = .returned (.tuple #[.int .i64 0, .int .i64 0, .bool false]) ∧ w = w') := N3.out
                clear HS4 N3
                go_enter Tryd.func20, Tryd.ntmps20
                go_wp2_with (first | (go_at_call 33; refine N2'.out.mono ?_; rintro ee w1 ⟨rfl, rfl⟩; refine Hid.out ?_) | fail)
                refine Lib.hid ?_
                go_wp2_with (first | (go_at_call 33; refine N3'.out.mono ?_; rintro ee w1 ⟨rfl, rfl⟩; refine Hid.out ?_) | fail)
                refine Lib.hid ?_
                go_wp2
                ((try simp only [Exit.inBlock, Exit.then]); refine bodyPost_ret (results_tmp4 rfl _ _ _) rfl ?_)
                rw [HE.out, HNO.out]
                exact ⟨rfl, rfl⟩
              | some q =>
                obtain ⟨v3, k3⟩ := q
                have hkl3 := HL3.out _ rfl
                obtain ⟨E, hE⟩ : ∃ E, E = K + 1 + k3 := ⟨_, rfl⟩
                have N3' : Hid (Calls Tryd.prog 33 #[.string s, .int .i64 ((K : Int) + 1)] w fun e w' => e = .returned (.tuple #[.int .i64 (v3 : Int), .int .i64 (E : Int), .bool true]) ∧ w = w') := by rw [hE]; exact N3.out
                have HS5 : Hid (fin = if E < s.size ∧ (l.getD E 0).toNat ≠ 32 then none else some (s[0].toNat - 48, v, v3)) := by rw [hE]; exact HS4.out
                have HYES : Hid (statV (some (s[0].toNat - 48, v, v3)) = .tuple #[.int .i64 ((s[0].toNat : Int) - 48), .int .i64 (v : Int), .int .i64 (v3 : Int), .bool true]) := by
                  have := HD.out
                  have e : (s[0].toNat : Int) - (48 : Int) = ((s[0].toNat - 48 : Nat) : Int) := by omega
                  show _ = _
                  rw [e]; rfl
                dsimp only at hkl3
                rw [← hE] at hkl3
                clear HS4 N3 HL3 hE
                by_cases hEs : E < s.size
                · have r0 : (0 : Int) ≤ (E : Int) := by omega
                  have r1 : (E : Int) < (s.size : Int) := by omega
                  have GE : Hid (l.getD E 0 = s[E]) := HLS.out E hEs
                  rw [GE.out] at HS5
                  have hbE := s[E].toNat_lt
                  by_cases cE : s[E].toNat = 32
                  · have gE : ((s[E].toNat : Int) != 32) = false := by rw [bne_eq_false_iff_eq]; omega
                    have HE : Hid (fin = some (s[0].toNat - 48, v, v3)) := by show _ = _; rw [HS5.out, if_neg (fun h => h.2 cE)]
                    clear HS5 cE
                    go_enter Tryd.func20, Tryd.ntmps20
                    go_wp2_with (first | (go_at_call 33; refine N2'.out.mono ?_; rintro ee w1 ⟨rfl, rfl⟩; refine Hid.out ?_) | fail)
                    refine Lib.hid ?_
                    go_wp2_with (first | (go_at_call 33; refine N3'.out.mono ?_; rintro ee w1 ⟨rfl, rfl⟩; refine Hid.out ?_) | fail)
                    refine Lib.hid ?_
                    go_wp2
                    ((try simp only [Exit.inBlock, Exit.then]); refine bodyPost_ret (results_tmp4 rfl _ _ _) rfl ?_)
                    rw [HE.out, HYES.out]
                    exact ⟨rfl, rfl⟩
                  · have gE : ((s[E].toNat : Int) != 32) = true := by rw [bne_iff_ne]; omega
                    have HE : Hid (fin = none) := by show _ = _; rw [HS5.out, if_pos ⟨hEs, cE⟩]
                    clear HS5 cE
                    go_enter Tryd.func20, Tryd.ntmps20
                    go_wp2_with (first | (go_at_call 33; refine N2'.out.mono ?_; rintro ee w1 ⟨rfl, rfl⟩; refine Hid.out ?_) | fail)
                    refine Lib.hid ?_
                    go_wp2_with (first | (go_at_call 33; refine N3'.out.mono ?_; rintro ee w1 ⟨rfl, rfl⟩; refine Hid.out ?_) | fail)
                    refine Lib.hid ?_
                    go_wp2
                    ((try simp only [Exit.inBlock, Exit.then]); refine bodyPost_ret (results_tmp4 rfl _ _ _) rfl ?_)
                    rw [HE.out, HNO.out]
                    exact ⟨rfl, rfl⟩
                · have r1 : ¬ (E : Int) < (s.size : Int) := by omega
                  have HE : Hid (fin = some (s[0].toNat - 48, v, v3)) := by show _ = _; rw [HS5.out, if_neg (fun h => hEs h.1)]
                  clear HS5
                  go_enter Tryd.func20, Tryd.ntmps20
                  go_wp2_with (first | (go_at_call 33; refine N2'.out.mono ?_; rintro ee w1 ⟨rfl, rfl⟩; refine Hid.out ?_) | fail)
                  refine Lib.hid ?_
                  go_wp2_with (first | (go_at_call 33; refine N3'.out.mono ?_; rintro ee w1 ⟨rfl, rfl⟩; refine Hid.out ?_) | fail)
                  refine Lib.hid ?_
                  go_wp2
                  ((try simp only [Exit.inBlock, Exit.then]); refine bodyPost_ret (results_tmp4 rfl _ _ _) rfl ?_)
                  rw [HE.out, HYES.out]
                  exact ⟨rfl, rfl⟩
            · have gK : ((s[K].toNat : Int) != 46) = true := by rw [bne_iff_ne]; omega
              have HE : Hid (fin = none) := by show _ = _; rw [HS3.out, if_pos (Or.inr cK)]
              clear HS3 cK
              go_enter Tryd.func20, Tryd.ntmps20
              go_wp2_with (first | (go_at_call 33; refine N2'.out.mono ?_; rintro ee w1 ⟨rfl, rfl⟩; refine Hid.out ?_) | fail)
              refine Lib.hid ?_
              go_wp2
              ((try simp only [Exit.inBlock, Exit.then]); refine bodyPost_ret (results_tmp4 rfl _ _ _) rfl ?_)
              rw [HE.out, HNO.out]
              exact ⟨rfl, rfl⟩
          · have p1 : (s.size : Int) ≤ (K : Int) := by omega
            have HE : Hid (fin = none) := by show _ = _; rw [HS3.out, if_pos (Or.inl (by omega))]
            clear HS3
            go_enter Tryd.func20, Tryd.ntmps20
            go_wp2_with (first | (go_at_call 33; refine N2'.out.mono ?_; rintro ee w1 ⟨rfl, rfl⟩; refine Hid.out ?_) | fail)
            refine Lib.hid ?_
            go_wp2
            ((try simp only [Exit.inBlock, Exit.then]); refine bodyPost_ret (results_tmp4 rfl _ _ _) rfl ?_)
            rw [HE.out, HNO.out]
            exact ⟨rfl, rfl⟩
      · have g1 : ((s[1].toNat : Int) != 46) = true := by rw [bne_iff_ne]; omega
        have HE : Hid (fin = none) := by show _ = _; rw [HST.out, if_pos (Or.inr (Or.inr c46))]
        clear HST c46
        go_enter Tryd.func20, Tryd.ntmps20
        go_wp2
        ((try simp only [Exit.inBlock, Exit.then]); refine bodyPost_ret (results_tmp4 rfl _ _ _) rfl ?_)
        rw [HE.out, HNO.out]
        exact ⟨rfl, rfl⟩
    · have f0 : ((s[0].toNat : Int) != 50) = true := by rw [bne_iff_ne]; omega
      by_cases c1 : s[0].toNat = 52
      · have f1 : ((s[0].toNat : Int) != 52) = false := by rw [bne_eq_false_iff_eq]; omega
        have HD : Hid (s[0].toNat = 50 ∨ s[0].toNat = 52 ∨ s[0].toNat = 53) := Or.inr (Or.inl c1)
        clear c0 c1
        by_cases c46 : s[1].toNat = 46
        · have g1 : ((s[1].toNat : Int) != 46) = false := by rw [bne_eq_false_iff_eq]; omega
          have HS2 : Hid (fin = match numR (l.drop 2) with
            | none => none
            | some p => if s.size ≤ 2 + p.2 ∨ (l.getD (2 + p.2) 0).toNat ≠ 46 then none else stat2 l (2 + p.2) p.1) := by
            have := HD.out
            show _ = _
            rw [HST.out, if_neg (by omega)]
          have HL2 : Hid (∀ p, numR (l.drop 2) = some p → 2 + p.2 ≤ s.size) := fun p h => HLD.out 2 p (by omega) h
          clear HST c46
          generalize numR (l.drop 2) = r2 at N2 HS2 HL2
          cases r2 with
          | none =>
            have HE : Hid (fin = none) := HS2.out
            have N2' : Hid (Calls Tryd.prog 33 #[.string s, .int .i64 2] w fun e w' => e = .returned (.tuple #[.int .i64 0, .int .i64 0, .bool false]) ∧ w = w') := N2.out
            clear HS2 N2
            go_enter Tryd.func20, Tryd.ntmps20
            go_wp2_with (first | (go_at_call 33; refine N2'.out.mono ?_; rintro ee w1 ⟨rfl, rfl⟩; refine Hid.out ?_) | fail)
            refine Lib.hid ?_
            go_wp2
            ((try simp only [Exit.inBlock, Exit.then]); refine bodyPost_ret (results_tmp4 rfl _ _ _) rfl ?_)
            rw [HE.out, HNO.out]
            exact ⟨rfl, rfl⟩
          | some p =>
            obtain ⟨v, k2⟩ := p
            have hkl := HL2.out _ rfl
            obtain ⟨K, hK⟩ : ∃ K, K = 2 + k2 := ⟨_, rfl⟩
            have N2' : Hid (Calls Tryd.prog 33 #[.string s, .int .i64 2] w fun e w' => e = .returned (.tuple #[.int .i64 (v : Int), .int .i64 (K : Int), .bool true]) ∧ w = w') := by rw [hK]; exact N2.out
            have HS3 : Hid (fin = if s.size ≤ K ∨ (l.getD K 0).toNat ≠ 46 then none else stat2 l K v) := by rw [hK]; exact HS2.out
            dsimp only at hkl
            rw [← hK] at hkl
            clear HS2 N2 HL2 hK
            by_cases hKs : K < s.size
            · have p0 : (0 : Int) ≤ (K : Int) := by omega
              have p1 : (K : Int) < (s.size : Int) := by omega
              have GK : Hid (l.getD K 0 = s[K]) := HLS.out K hKs
              rw [GK.out] at HS3
              have hbK := s[K].toNat_lt
              by_cases cK : s[K].toNat = 46
              · have gK : ((s[K].toNat : Int) != 46) = false := by rw [bne_eq_false_iff_eq]; omega
                have N3 : Hid (Calls Tryd.prog 33 #[.string s, .int .i64 ((K : Int) + 1)] w fun e w' => e = .returned (numV (K + 1) (numR (l.drop (K + 1)))) ∧ w = w') := HNU.out (K + 1) w (by omega)
                have HS4 : Hid (fin = match numR (l.drop (K + 1)) with
                  | none => none
                  | some q => if K + 1 + q.2 < s.size ∧ (l.getD (K + 1 + q.2) 0).toNat ≠ 32 then none else some (s[0].toNat - 48, v, q.1)) := by
                  show _ = _
                  rw [HS3.out, if_neg (by omega), HN2.out]
                have HL3 : Hid (∀ q, numR (l.drop (K + 1)) = some q → K + 1 + q.2 ≤ s.size) := fun q h => HLD.out (K + 1) q (by omega) h
                clear HS3 cK HN2
                generalize numR (l.drop (K + 1)) = r3 at N3 HS4 HL3
                cases r3 with
                | none =>
                  have HE : Hid (fin = none) := HS4.out
                  have N3' : Hid (Calls Tryd.prog 33 #[.string s, .int .i64 ((K : Int) + 1)] w fun e w' => e = .returned (.tuple #[.int .i64 0, .int .i64 0, .bool false]) ∧ w = w') := N3.out
                  clear HS4 N3
                  go_enter Tryd.func20, Tryd.ntmps20
                  go_wp2_with (first | (go_at_call 33; refine N2'.out.mono ?_; rintro ee w1 ⟨rfl, rfl⟩; refine Hid.out ?_) | fail)
                  refine Lib.hid ?_
                  go_wp2_with (first | (go_at_call 33; refine N3'.out.mono ?_; rintro ee w1 ⟨rfl, rfl⟩; refine Hid.out ?_) | fail)
                  refine Lib.hid ?_
                  go_wp2
                  ((try simp only [Exit.inBlock, Exit.then]); refine bodyPost_ret (results_tmp4 rfl _ _ _) rfl ?_)
                  rw [HE.out, HNO.out]
                  exact ⟨rfl, rfl⟩
                | some q =>
                  obtain ⟨v3, k3⟩ := q
                  have hkl3 := HL3.out _ rfl
                  obtain ⟨E, hE⟩ : ∃ E, E = K + 1 + k3 := ⟨_, rfl⟩
                  have N3' : Hid (Calls Tryd.prog 33 #[.string s, .int .i64 ((K : Int) + 1)] w fun e w' => e = .returned (.tuple #[.int .i64 (v3 : Int), .int .i64 (E : Int), .bool true]) ∧ w = w') := by rw [hE]; exact N3.out
                  have HS5 : Hid (fin = if E < s.size ∧ (l.getD E 0).toNat ≠ 32 then none else some (s[0].toNat - 48, v, v3)) := by rw [hE]; exact HS4.out
                  have HYES : Hid (statV (some (s[0].toNat - 48, v, v3)) = .tuple #[.int .i64 ((s[0].toNat : Int) - 48), .int .i64 (v : Int), .int .i64 (v3 : Int), .bool true]) := by
                    have := HD.out
                    have e : (s[0].toNat : Int) - (48 : Int) = ((s[0].toNat - 48 : Nat) : Int) := by omega
                    show _ = _
                    rw [e]; rfl
                  dsimp only at hkl3
                  rw [← hE] at hkl3
                  clear HS4 N3 HL3 hE
                  by_cases hEs : E < s.size
                  · have r0 : (0 : Int) ≤ (E : Int) := by omega
                    have r1 : (E : Int) < (s.size : Int) := by omega
                    have GE : Hid (l.getD E 0 = s[E]) := HLS.out E hEs
                    rw [GE.out] at HS5
                    have hbE := s[E].toNat_lt
                    by_cases cE : s[E].toNat = 32
                    · have gE : ((s[E].toNat : Int) != 32) = false := by rw [bne_eq_false_iff_eq]; omega
                      have HE : Hid (fin = some (s[0].toNat - 48, v, v3)) := by show _ = _; rw [HS5.out, if_neg (fun h => h.2 cE)]
                      clear HS5 cE
                      go_enter Tryd.func20, Tryd.ntmps20
                      go_wp2_with (first | (go_at_call 33; refine N2'.out.mono ?_; rintro ee w1 ⟨rfl, rfl⟩; refine Hid.out ?_) | fail)
                      refine Lib.hid ?_
                      go_wp2_with (first | (go_at_call 33; refine N3'.out.mono ?_; rintro ee w1 ⟨rfl, rfl⟩; refine Hid.out ?_) | fail)
                      refine Lib.hid ?_
                      go_wp2
                      ((try simp only [Exit.inBlock, Exit.then]); refine bodyPost_ret (results_tmp4 rfl _ _ _) rfl ?_)
                      rw [HE.out, HYES.out]
                      exact ⟨rfl, rfl⟩
                    · have gE : ((s[E].toNat : Int) != 32) = true := by rw [bne_iff_ne]; omega
                      have HE : Hid (fin = none) := by show _ = _; rw [HS5.out, if_pos ⟨hEs, cE⟩]
                      clear HS5 cE
                      go_enter Tryd.func20, Tryd.ntmps20
                      go_wp2_with (first | (go_at_call 33; refine N2'.out.mono ?_; rintro ee w1 ⟨rfl, rfl⟩; refine Hid.out ?_) | fail)
                      refine Lib.hid ?_
                      go_wp2_with (first | (go_at_call 33; refine N3'.out.mono ?_; rintro ee w1 ⟨rfl, rfl⟩; refine Hid.out ?_) | fail)
                      refine Lib.hid ?_
                      go_wp2
                      ((try simp only [Exit.inBlock, Exit.then]); refine bodyPost_ret (results_tmp4 rfl _ _ _) rfl ?_)
                      rw [HE.out, HNO.out]
                      exact ⟨rfl, rfl⟩
                  · have r1 : ¬ (E : Int) < (s.size : Int) := by omega
                    have HE : Hid (fin = some (s[0].toNat - 48, v, v3)) := by show _ = _; rw [HS5.out, if_neg (fun h => hEs h.1)]
                    clear HS5
                    go_enter Tryd.func20, Tryd.ntmps20
                    go_wp2_with (first | (go_at_call 33; refine N2'.out.mono ?_; rintro ee w1 ⟨rfl, rfl⟩; refine Hid.out ?_) | fail)
                    refine Lib.hid ?_
                    go_wp2_with (first | (go_at_call 33; refine N3'.out.mono ?_; rintro ee w1 ⟨rfl, rfl⟩; refine Hid.out ?_) | fail)
                    refine Lib.hid ?_
                    go_wp2
                    ((try simp only [Exit.inBlock, Exit.then]); refine bodyPost_ret (results_tmp4 rfl _ _ _) rfl ?_)
                    rw [HE.out, HYES.out]
                    exact ⟨rfl, rfl⟩
              · have gK : ((s[K].toNat : Int) != 46) = true := by rw [bne_iff_ne]; omega
                have HE : Hid (fin = none) := by show _ = _; rw [HS3.out, if_pos (Or.inr cK)]
                clear HS3 cK
                go_enter Tryd.func20, Tryd.ntmps20
                go_wp2_with (first | (go_at_call 33; refine N2'.out.mono ?_; rintro ee w1 ⟨rfl, rfl⟩; refine Hid.out ?_) | fail)
                refine Lib.hid ?_
                go_wp2
                ((try simp only [Exit.inBlock, Exit.then]); refine bodyPost_ret (results_tmp4 rfl _ _ _) rfl ?_)
                rw [HE.out, HNO.out]
                exact ⟨rfl, rfl⟩
            · have p1 : (s.size : Int) ≤ (K : Int) := by omega
              have HE : Hid (fin = none) := by show _ = _; rw [HS3.out, if_pos (Or.inl (by omega))]
              clear HS3
              go_enter Tryd.func20, Tryd.ntmps20
              go_wp2_with (first | (go_at_call 33; refine N2'.out.mono ?_; rintro ee w1 ⟨rfl, rfl⟩; refine Hid.out ?_) | fail)
              refine Lib.hid ?_
              go_wp2
              ((try simp only [Exit.inBlock, Exit.then]); refine bodyPost_ret (results_tmp4 rfl _ _ _) rfl ?_)
              rw [HE.out, HNO.out]
              exact ⟨rfl, rfl⟩
        · have g1 : ((s[1].toNat : Int) != 46) = true := by rw [bne_iff_ne]; omega
          have HE : Hid (fin = none) := by show _ = _; rw [HST.out, if_pos (Or.inr (Or.inr c46))]
          clear HST c46
          go_enter Tryd.func20, Tryd.ntmps20
          go_wp2
          ((try simp only [Exit.inBlock, Exit.then]); refine bodyPost_ret (results_tmp4 rfl _ _ _) rfl ?_)
          rw [HE.out, HNO.out]
          exact ⟨rfl, rfl⟩
      · have f1 : ((s[0].toNat : Int) != 52) = true := by rw [bne_iff_ne]; omega
        by_cases c2 : s[0].toNat = 53
        · have f2 : ((s[0].toNat : Int) != 53) = false := by rw [bne_eq_false_iff_eq]; omega
          have HD : Hid (s[0].toNat = 50 ∨ s[0].toNat = 52 ∨ s[0].toNat = 53) := Or.inr (Or.inr c2)
          clear c0 c1 c2
          by_cases c46 : s[1].toNat = 46
          · have g1 : ((s[1].toNat : Int) != 46) = false := by rw [bne_eq_false_iff_eq]; omega
            have HS2 : Hid (fin = match numR (l.drop 2) with
              | none => none
              | some p => if s.size ≤ 2 + p.2 ∨ (l.getD (2 + p.2) 0).toNat ≠ 46 then none else stat2 l (2 + p.2) p.1) := by
              have := HD.out
              show _ = _
              rw [HST.out, if_neg (by omega)]
            have HL2 : Hid (∀ p, numR (l.drop 2) = some p → 2 + p.2 ≤ s.size) := fun p h => HLD.out 2 p (by omega) h
            clear HST c46
            generalize numR (l.drop 2) = r2 at N2 HS2 HL2
            cases r2 with
            | none =>
              have HE : Hid (fin = none) := HS2.out
              have N2' : Hid (Calls Tryd.prog 33 #[.string s, .int .i64 2] w fun e w' => e = .returned (.tuple #[.int .i64 0, .int .i64 0, .bool false]) ∧ w = w') := N2.out
              clear HS2 N2
              go_enter Tryd.func20, Tryd.ntmps20
              go_wp2_with (first | (go_at_call 33; refine N2'.out.mono ?_; rintro ee w1 ⟨rfl, rfl⟩; refine Hid.out ?_) | fail)
              refine Lib.hid ?_
              go_wp2
              ((try simp only [Exit.inBlock, Exit.then]); refine bodyPost_ret (results_tmp4 rfl _ _ _) rfl ?_)
              rw [HE.out, HNO.out]
              exact ⟨rfl, rfl⟩
            | some p =>
              obtain ⟨v, k2⟩ := p
              have hkl := HL2.out _ rfl
              obtain ⟨K, hK⟩ : ∃ K, K = 2 + k2 := ⟨_, rfl⟩
              have N2' : Hid (Calls Tryd.prog 33 #[.string s, .int .i64 2] w fun e w' => e = .returned (.tuple #[.int .i64 (v : Int), .int .i64 (K : Int), .bool true]) ∧ w = w') := by rw [hK]; exact N2.out
              have HS3 : Hid (fin = if s.size ≤ K ∨ (l.getD K 0).toNat ≠ 46 then none else stat2 l K v) := by rw [hK]; exact HS2.out
              dsimp only at hkl
              rw [← hK] at hkl
              clear HS2 N2 HL2 hK
              by_cases hKs : K < s.size
              · have p0 : (0 : Int) ≤ (K : Int) := by omega
                have p1 : (K : Int) < (s.size : Int) := by omega
                have GK : Hid (l.getD K 0 = s[K]) := HLS.out K hKs
                rw [GK.out] at HS3
                have hbK := s[K].toNat_lt
                by_cases cK : s[K].toNat = 46
                · have gK : ((s[K].toNat : Int) != 46) = false := by rw [bne_eq_false_iff_eq]; omega
                  have N3 : Hid (Calls Tryd.prog 33 #[.string s, .int .i64 ((K : Int) + 1)] w fun e w' => e = .returned (numV (K + 1) (numR (l.drop (K + 1)))) ∧ w = w') := HNU.out (K + 1) w (by omega)
                  have HS4 : Hid (fin = match numR (l.drop (K + 1)) with
                    | none => none
                    | some q => if K + 1 + q.2 < s.size ∧ (l.getD (K + 1 + q.2) 0).toNat ≠ 32 then none else some (s[0].toNat - 48, v, q.1)) := by
                    show _ = _
                    rw [HS3.out, if_neg (by omega), HN2.out]
                  have HL3 : Hid (∀ q, numR (l.drop (K + 1)) = some q → K + 1 + q.2 ≤ s.size) := fun q h => HLD.out (K + 1) q (by omega) h
                  clear HS3 cK HN2
                  generalize numR (l.drop (K + 1)) = r3 at N3 HS4 HL3
                  cases r3 with
                  | none =>
                    have HE : Hid (fin = none) := HS4.out
                    have N3' : Hid (Calls Tryd.prog 33 #[.string s, .int .i64 ((K : Int) + 1)] w fun e w' => e = .returned (.tuple #[.int .i64 0, .int .i64 0, .bool false]) ∧ w = w') := N3.out
                    clear HS4 N3
                    go_enter Tryd.func20, Tryd.ntmps20
                    go_wp2_with (first | (go_at_call 33; refine N2'.out.mono ?_; rintro ee w1 ⟨rfl, rfl⟩; refine Hid.out ?_) | fail)
                    refine Lib.hid ?_
                    go_wp2_with (first | (go_at_call 33; refine N3'.out.mono ?_; rintro ee w1 ⟨rfl, rfl⟩; refine Hid.out ?_) | fail)
                    refine Lib.hid ?_
                    go_wp2
                    ((try simp only [Exit.inBlock, Exit.then]); refine bodyPost_ret (results_tmp4 rfl _ _ _) rfl ?_)
                    rw [HE.out, HNO.out]
                    exact ⟨rfl, rfl⟩
                  | some q =>
                    obtain ⟨v3, k3⟩ := q
                    have hkl3 := HL3.out _ rfl
                    obtain ⟨E, hE⟩ : ∃ E, E = K + 1 + k3 := ⟨_, rfl⟩
                    have N3' : Hid (Calls Tryd.prog 33 #[.string s, .int .i64 ((K : Int) + 1)] w fun e w' => e = .returned (.tuple #[.int .i64 (v3 : Int), .int .i64 (E : Int), .bool true]) ∧ w = w') := by rw [hE]; exact N3.out
                    have HS5 : Hid (fin = if E < s.size ∧ (l.getD E 0).toNat ≠ 32 then none else some (s[0].toNat - 48, v, v3)) := by rw [hE]; exact HS4.out
                    have HYES : Hid (statV (some (s[0].toNat - 48, v, v3)) = .tuple #[.int .i64 ((s[0].toNat : Int) - 48), .int .i64 (v : Int), .int .i64 (v3 : Int), .bool true]) := by
                      have := HD.out
                      have e : (s[0].toNat : Int) - (48 : Int) = ((s[0].toNat - 48 : Nat) : Int) := by omega
                      show _ = _
                      rw [e]; rfl
                    dsimp only at hkl3
                    rw [← hE] at hkl3
                    clear HS4 N3 HL3 hE
                    by_cases hEs : E < s.size
                    · have r0 : (0 : Int) ≤ (E : Int) := by omega
                      have r1 : (E : Int) < (s.size : Int) := by omega
                      have GE : Hid (l.getD E 0 = s[E]) := HLS.out E hEs
                      rw [GE.out] at HS5
                      have hbE := s[E].toNat_lt
                      by_cases cE : s[E].toNat = 32
                      · have gE : ((s[E].toNat : Int) != 32) = false := by rw [bne_eq_false_iff_eq]; omega
                        have HE : Hid (fin = some (s[0].toNat - 48, v, v3)) := by show _ = _; rw [HS5.out, if_neg (fun h => h.2 cE)]
                        clear HS5 cE
                        go_enter Tryd.func20, Tryd.ntmps20
                        go_wp2_with (first | (go_at_call 33; refine N2'.out.mono ?_; rintro ee w1 ⟨rfl, rfl⟩; refine Hid.out ?_) | fail)
                        refine Lib.hid ?_
                        go_wp2_with (first | (go_at_call 33; refine N3'.out.mono ?_; rintro ee w1 ⟨rfl, rfl⟩; refine Hid.out ?_) | fail)
                        refine Lib.hid ?_
                        go_wp2
                        ((try simp only [Exit.inBlock, Exit.then]); refine bodyPost_ret (results_tmp4 rfl _ _ _) rfl ?_)
                        rw [HE.out, HYES.out]
                        exact ⟨rfl, rfl⟩
                      · have gE : ((s[E].toNat : Int) != 32) = true := by rw [bne_iff_ne]; omega
                        have HE : Hid (fin = none) := by show _ = _; rw [HS5.out, if_pos ⟨hEs, cE⟩]
                        clear HS5 cE
                        go_enter Tryd.func20, Tryd.ntmps20
                        go_wp2_with (first | (go_at_call 33; refine N2'.out.mono ?_; rintro ee w1 ⟨rfl, rfl⟩; refine Hid.out ?_) | fail)
                        refine Lib.hid ?_
                        go_wp2_with (first | (go_at_call 33; refine N3'.out.mono ?_; rintro ee w1 ⟨rfl, rfl⟩; refine Hid.out ?_) | fail)
                        refine Lib.hid ?_
                        go_wp2
                        ((try simp only [Exit.inBlock, Exit.then]); refine bodyPost_ret (results_tmp4 rfl _ _ _) rfl ?_)
                        rw [HE.out, HNO.out]
                        exact ⟨rfl, rfl⟩
                    · have r1 : ¬ (E : Int) < (s.size : Int) := by omega
                      have HE : Hid (fin = some (s[0].toNat - 48, v, v3)) := by show _ = _; rw [HS5.out, if_neg (fun h => hEs h.1)]
                      clear HS5
                      go_enter Tryd.func20, Tryd.ntmps20
                      go_wp2_with (first | (go_at_call 33; refine N2'.out.mono ?_; rintro ee w1 ⟨rfl, rfl⟩; refine Hid.out ?_) | fail)
                      refine Lib.hid ?_
                      go_wp2_with (first | (go_at_call 33; refine N3'.out.mono ?_; rintro ee w1 ⟨rfl, rfl⟩; refine Hid.out ?_) | fail)
                      refine Lib.hid ?_
                      go_wp2
                      ((try simp only [Exit.inBlock, Exit.then]); refine bodyPost_ret (results_tmp4 rfl _ _ _) rfl ?_)
                      rw [HE.out, HYES.out]
                      exact ⟨rfl, rfl⟩
                · have gK : ((s[K].toNat : Int) != 46) = true := by rw [bne_iff_ne]; omega
                  have HE : Hid (fin = none) := by show _ = _; rw [HS3.out, if_pos (Or.inr cK)]
                  clear HS3 cK
                  go_enter Tryd.func20, Tryd.ntmps20
                  go_wp2_with (first | (go_at_call 33; refine N2'.out.mono ?_; rintro ee w1 ⟨rfl, rfl⟩; refine Hid.out ?_) | fail)
                  refine Lib.hid ?_
                  go_wp2
                  ((try simp only [Exit.inBlock, Exit.then]); refine bodyPost_ret (results_tmp4 rfl _ _ _) rfl ?_)
                  rw [HE.out, HNO.out]
                  exact ⟨rfl, rfl⟩
              · have p1 : (s.size : Int) ≤ (K : Int) := by omega
                have HE : Hid (fin = none) := by show _ = _; rw [HS3.out, if_pos (Or.inl (by omega))]
                clear HS3
                go_enter Tryd.func20, Tryd.ntmps20
                go_wp2_with (first | (go_at_call 33; refine N2'.out.mono ?_; rintro ee w1 ⟨rfl, rfl⟩; refine Hid.out ?_) | fail)
                refine Lib.hid ?_
                go_wp2
                ((try simp only [Exit.inBlock, Exit.then]); refine bodyPost_ret (results_tmp4 rfl _ _ _) rfl ?_)
                rw [HE.out, HNO.out]
                exact ⟨rfl, rfl⟩
          · have g1 : ((s[1].toNat : Int) != 46) = true := by rw [bne_iff_ne]; omega
            have HE : Hid (fin = none) := by show _ = _; rw [HST.out, if_pos (Or.inr (Or.inr c46))]
            clear HST c46
            go_enter Tryd.func20, Tryd.ntmps20
            go_wp2
            ((try simp only [Exit.inBlock, Exit.then]); refine bodyPost_ret (results_tmp4 rfl _ _ _) rfl ?_)
            rw [HE.out, HNO.out]
            exact ⟨rfl, rfl⟩
        · have f2 : ((s[0].toNat : Int) != 53) = true := by rw [bne_iff_ne]; omega
          have HE : Hid (fin = none) := by show _ = _; rw [HST.out, if_pos (Or.inr (Or.inl (by omega)))]
          clear c0 c1 c2
          go_enter Tryd.func20, Tryd.ntmps20
          go_wp2
          ((try simp only [Exit.inBlock, Exit.then]); refine bodyPost_ret (results_tmp4 rfl _ _ _) rfl ?_)
          rw [HE.out, HNO.out]
          exact ⟨rfl, rfl⟩
end Go.Proofs.YthkabehojmncmaaDoor.Reply
