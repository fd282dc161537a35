/-
  REPLY: digits and numbers. (Written by gen_repnum.py.)
-/
import Derived.Test.YthkabehojmncmaaDoorRepText
namespace Go.Proofs.YthkabehojmncmaaDoor.Reply
open Go.RowKit Base
theorem dig_lo {c : UInt8} (h : c.toNat < 48) : digC c = false := by unfold digC; exact decide_eq_false (by omega)
theorem dig_hi {c : UInt8} (h : 57 < c.toNat) : digC c = false := by unfold digC; exact decide_eq_false (by omega)
theorem dig_yes {c : UInt8} (h : 48 ≤ c.toNat) (h2 : c.toNat ≤ 57) : digC c = true := by unfold digC; exact decide_eq_true ⟨h, h2⟩
/-- The number of a few digits. -/
def digN : Nat → List UInt8 → Option Nat
  | n, [] => some n
  | n, c :: r => if digC c = true then digN (10 * n + (c.toNat - 48)) r else none
theorem digN_cons (n : Nat) (c : UInt8) (r : List UInt8) : digN n (c :: r) = if digC c = true then digN (10 * n + (c.toNat - 48)) r else none := rfl
def optV : Option Nat → Value
  | some n => .tuple #[.int .i64 (n : Int), .bool true]
  | none => .tuple #[.int .i64 0, .bool false]
/-- One to three digits, without a nought ahead of others. -/
def numP (l : List UInt8) : Option Nat := if l.length = 0 ∨ 3 < l.length ∨ (1 < l.length ∧ (l.getD 0 0).toNat = 48) then none else digN 0 l
theorem drop_cons {l : List UInt8} {k : Nat} (h : k < l.length) : l.drop k = l.getD k 0 :: l.drop (k + 1) := by
  rw [List.drop_eq_getElem_cons h]
  simp [List.getD, List.getElem?_eq_getElem h]
set_option maxHeartbeats 4000000 in
set_option maxRecDepth 100000 in
theorem pDigits (s : ByteArray) (w : World) (hs : s.size ≤ 3) : Calls Tryd.prog 37 #[.string s] w fun e w' => e = .returned (optV (digN 0 s.data.toList)) ∧ Below w.heap.size w w' := by
  obtain ⟨l, hll⟩ : ∃ l, l = s.data.toList := ⟨_, rfl⟩
  have hlen : l.length = s.size := by rw [hll, str_len]
  have HLS : Hid (∀ k (h : k < s.size), l.getD k 0 = s[k]) := fun k h => by rw [hll]; exact str_get s k h
  obtain ⟨out, hout⟩ : ∃ out, out = digN 0 l := ⟨_, rfl⟩
  have HO := Lib.hid hout
  have HL := Lib.hid hlen
  have HBW : Hid (∀ p, Below w.heap.size w (w.iter s p)) := fun p => (Below.refl _ _).alloc (Nat.le_refl _) _
  rw [← hll, ← hout]
  clear hout hll hlen
  go_enter Tryd.func37, Tryd.ntmps37
  go_wp2
  go_loopw [2, 5] (fun nv _ wr => ∃ k n : Nat, k ≤ s.size ∧ nv = .int .i64 (n : Int) ∧ wr = w.iter s k ∧ Hid (digN n (l.drop k) = out) ∧ Hid (n < 10 ^ k)) (fun _ _ wr => s.size - wr.iterPos w.heap.size)
  case atStart => exact ⟨0, 0, by omega, rfl, rfl, by rw [HO.out]; rfl, by show 0 < 10 ^ 0; decide⟩
  case round =>
    obtain ⟨k, n, hk, rfl, rfl, hn, hp⟩ := hrel
    by_cases hlt : k < s.size
    · have HG : Hid (l.getD k 0 = s[k]) := HLS.out k hlt
      have HK : Hid (k < l.length) := by show _ < _; rw [HL.out]; exact hlt
      have heq := hn.out
      rw [drop_cons HK.out, HG.out, digN_cons] at heq
      by_cases hasc : s[k].toNat < 128
      · have hnx : ∀ ty, (Instr.next (.pointer (some ⟨w.heap.size, 0, none⟩)) true ty).run Tryd.prog (w.iter s k) = _ := fun ty => run_next_ascii w s k ty hlt hasc
        by_cases h2 : s[k].toNat < 48
        · rw [dig_lo h2, if_neg (by decide)] at heq
          have HT : Hid (optV out = .tuple #[.int .i64 0, .bool false]) := by show _ = _; rw [← heq]; rfl
          have e2 : (s[k].toNat : Int) < 48 := by omega
          clear hn h2 heq hp
          go_wp2
          go_ret2
          rw [HT.out]
          exact ⟨rfl, HBW.out _⟩
        · have e2 : ¬ (s[k].toNat : Int) < 48 := by omega
          by_cases h3 : 57 < s[k].toNat
          · rw [dig_hi h3, if_neg (by decide)] at heq
            have HT : Hid (optV out = .tuple #[.int .i64 0, .bool false]) := by show _ = _; rw [← heq]; rfl
            have e3 : (57 : Int) < (s[k].toNat : Int) := by omega
            clear hn h2 h3 heq hp
            go_wp2
            go_ret2
            rw [HT.out]
            exact ⟨rfl, HBW.out _⟩
          · have e3 : ¬ (57 : Int) < (s[k].toNat : Int) := by omega
            rw [dig_yes (by omega) (by omega), if_pos rfl] at heq
            have HN : Hid (digN (10 * n + (s[k].toNat - 48)) (l.drop (k + 1)) = out) := heq
            have HP : Hid (10 * n + (s[k].toNat - 48) < 10 ^ (k + 1)) := by
              show _ < _
              have := hp.out
              rw [Nat.pow_succ]
              omega
            have hnb : n ≤ 99 := by
              have := hp.out
              rcases (by omega : k = 0 ∨ k = 1 ∨ k = 2) with rfl | rfl | rfl <;> simp at this <;> omega
            have hcb : s[k].toNat ≤ 57 := by omega
            have hcb2 : 48 ≤ s[k].toNat := by omega
            clear hn h2 h3 heq hp
            go_wp2
            go_roundw
            case rel => exact ⟨k + 1, _, by omega, by go_num, rfl, HN, HP⟩
            case measure => simp; omega
      · have hnx : ∀ ty, (Instr.next (.pointer (some ⟨w.heap.size, 0, none⟩)) true ty).run Tryd.prog (w.iter s k) = _ := fun ty => run_next_any w s k ty hlt
        have hd := decode_high s k hlt (by omega)
        have hd2 := decode_le s k
        rw [dig_hi (by omega), if_neg (by decide)] at heq
        have HT : Hid (optV out = .tuple #[.int .i64 0, .bool false]) := by show _ = _; rw [← heq]; rfl
        generalize Utf8.decode s k = D at hnx hd hd2
        obtain ⟨r, wd⟩ := D
        have e2 : ¬ (r : Int) < 48 := by have := hd.1; dsimp only at this; omega
        have e3 : (57 : Int) < (r : Int) := by have := hd.1; dsimp only at this; omega
        clear hn hasc hd heq hp
        dsimp only at hnx hd2
        go_wp2
        go_ret2
        rw [HT.out]
        exact ⟨rfl, HBW.out _⟩
    · have hnx : ∀ ty, (Instr.next (.pointer (some ⟨w.heap.size, 0, none⟩)) true ty).run Tryd.prog (w.iter s k) = _ := fun ty => run_next_end w s k ty hlt
      have HT : Hid (optV out = .tuple #[.int .i64 (n : Int), .bool true]) := by
        show _ = _
        have := hn.out
        have hl := HL.out
        rw [List.drop_eq_nil_of_le (by omega)] at this
        rw [← this]; rfl
      clear hn hp
      go_wp2
      go_ret2
      rw [HT.out]
      exact ⟨rfl, HBW.out _⟩
theorem opt_pair (x : Option Nat) : ∃ n b, optV x = .tuple #[.int .i64 n, .bool b] := by
  cases x with
  | none => exact ⟨0, false, rfl⟩
  | some n => exact ⟨n, true, rfl⟩
set_option maxHeartbeats 4000000 in
set_option maxRecDepth 100000 in
theorem pNumber (s : ByteArray) (w : World) (hs : s.size ≤ 9223372036854775807) : Calls Tryd.prog 32 #[.string s] w fun e w' => e = .returned (optV (numP s.data.toList)) ∧ Below w.heap.size w w' := by
  have hlen := str_len s
  have HB0 : Hid (Below w.heap.size w w) := Below.refl _ _
  by_cases h0 : s.size = 0
  · obtain rfl := str_empty h0
    go_enter Tryd.func32, Tryd.ntmps32
    go_wp2
    go_ret2
    exact ⟨rfl, Below.refl _ _⟩
  · have hne := str_ne h0
    obtain ⟨hn1, hn2⟩ := hne
    by_cases h3 : 3 < s.size
    · have HT : Hid (optV (numP s.data.toList) = .tuple #[.int .i64 0, .bool false]) := by show _ = _; unfold numP; rw [if_pos (by omega)]; rfl
      have e3 : (3 : Int) < (s.size : Int) := by omega
      rw [HT.out]
      clear HT hlen
      go_enter Tryd.func32, Tryd.ntmps32
      go_wp2
      go_ret2
      exact ⟨rfl, Below.refl _ _⟩
    · have e3 : ¬ (3 : Int) < (s.size : Int) := by omega
      have HD := Lib.hid (pDigits s w (by omega))
      have hz : 0 < s.size := Nat.pos_of_ne_zero h0
      have hg := str_get s 0 hz
      by_cases h1 : 1 < s.size
      · have e1 : (1 : Int) < (s.size : Int) := by omega
        by_cases h48 : s[0].toNat = 48
        · have HT : Hid (optV (numP s.data.toList) = .tuple #[.int .i64 0, .bool false]) := by show _ = _; unfold numP; rw [if_pos (Or.inr (Or.inr ⟨by omega, by rw [hg]; exact h48⟩))]; rfl
          have e48 : (s[0].toNat : Int) = 48 := by omega
          rw [HT.out]
          clear HT hlen hg h48 HD
          go_enter Tryd.func32, Tryd.ntmps32
          go_wp2
          go_ret2
          exact ⟨rfl, Below.refl _ _⟩
        · have HT : numP s.data.toList = digN 0 s.data.toList := by unfold numP; rw [if_neg (fun h => by rcases h with h | h | h <;> first | omega | (rw [hg] at h; exact h48 h.2))]
          rw [HT]
          have e48 : ¬ (s[0].toNat : Int) = 48 := by omega
          generalize digN 0 s.data.toList = d at HD
          obtain ⟨n, b, hnb⟩ := opt_pair d
          have HV := Lib.hid hnb
          rw [hnb] at HD
          clear HT hlen hg h48 hnb
          go_enter Tryd.func32, Tryd.ntmps32
          go_wp2_with (first | (go_at_call 37; refine HD.out.mono ?_; rintro ee w1 ⟨rfl, hb⟩; refine Hid.out ?_) | fail)
          refine Lib.hid ?_
          have HB1 := Lib.hid hb
          clear hb
          go_wp2
          go_ret2
          rw [HV.out]
          exact ⟨rfl, HB1.out⟩
      · have e1 : ¬ (1 : Int) < (s.size : Int) := by omega
        have HT : numP s.data.toList = digN 0 s.data.toList := by unfold numP; rw [if_neg (fun h => by rcases h with h | h | h <;> omega)]
        rw [HT]
        generalize digN 0 s.data.toList = d at HD
        obtain ⟨n, b, hnb⟩ := opt_pair d
        have HV := Lib.hid hnb
        rw [hnb] at HD
        clear HT hlen hg hnb
        go_enter Tryd.func32, Tryd.ntmps32
        go_wp2_with (first | (go_at_call 37; refine HD.out.mono ?_; rintro ee w1 ⟨rfl, hb⟩; refine Hid.out ?_) | fail)
        refine Lib.hid ?_
        have HB1 := Lib.hid hb
        clear hb
        go_wp2
        go_ret2
        rw [HV.out]
        exact ⟨rfl, HB1.out⟩
/-! ### The given answers' number -/
/-- At most f digits: the number, how many. -/
def runR : Nat → Nat → List UInt8 → Nat × Nat
  | 0, n, _ => (n, 0)
  | _ + 1, n, [] => (n, 0)
  | f + 1, n, c :: r => if digC c = true then ((runR f (10 * n + (c.toNat - 48)) r).1, (runR f (10 * n + (c.toNat - 48)) r).2 + 1) else (n, 0)
theorem runR_zero (n : Nat) (l : List UInt8) : runR 0 n l = (n, 0) := by cases l <;> rfl
theorem runR_nil (f n : Nat) : runR f n [] = (n, 0) := by cases f <;> rfl
theorem runR_no {f n : Nat} {c : UInt8} {r : List UInt8} (h : digC c = false) : runR f n (c :: r) = (n, 0) := by
  cases f with
  | zero => rfl
  | succ f => rw [runR, if_neg (by rw [h]; decide)]
theorem runR_yes {f n : Nat} {c : UInt8} {r : List UInt8} (h : digC c = true) : runR (f + 1) n (c :: r) = ((runR f (10 * n + (c.toNat - 48)) r).1, (runR f (10 * n + (c.toNat - 48)) r).2 + 1) := by
  rw [runR, if_pos h]
theorem runR_le : ∀ (f n : Nat) (l : List UInt8), (runR f n l).2 ≤ f ∧ (runR f n l).2 ≤ l.length
  | 0, n, l => by rw [runR_zero]; exact ⟨Nat.le_refl _, Nat.zero_le _⟩
  | f + 1, n, [] => by rw [runR_nil]; exact ⟨Nat.zero_le _, Nat.zero_le _⟩
  | f + 1, n, c :: r => by
    by_cases h : digC c = true
    · have := runR_le f (10 * n + (c.toNat - 48)) r
      rw [runR_yes h, List.length_cons]
      dsimp only
      omega
    · rw [runR_no (by simpa using h)]; exact ⟨Nat.zero_le _, Nat.zero_le _⟩
def numR (l : List UInt8) : Option (Nat × Nat) :=
  if (runR 4 0 l).2 = 0 ∨ 3 < (runR 4 0 l).2 ∨ ((l.getD 0 0).toNat = 48 ∧ 1 < (runR 4 0 l).2) then none else some (runR 4 0 l)
def numV (at_ : Nat) : Option (Nat × Nat) → Value
  | some p => .tuple #[.int .i64 (p.1 : Int), .int .i64 ((at_ + p.2 : Nat) : Int), .bool true]
  | none => .tuple #[.int .i64 0, .int .i64 0, .bool false]
set_option maxHeartbeats 16000000 in
set_option maxRecDepth 100000 in
theorem rNumber (s : ByteArray) (at_ : Nat) (w : World) (hs : s.size ≤ 9223372036854775000) (ha : at_ ≤ s.size) : Calls Tryd.prog 33 #[.string s, .int .i64 (at_ : Int)] w fun e w' => e = .returned (numV at_ (numR (s.data.toList.drop at_))) ∧ w = w' := by
  obtain ⟨l, hll⟩ : ∃ l, l = s.data.toList := ⟨_, rfl⟩
  have hlen : l.length = s.size := by rw [hll, str_len]
  have HLS : Hid (∀ k (h : k < s.size), l.getD k 0 = s[k]) := fun k h => by rw [hll]; exact str_get s k h
  rw [← hll]
  have hle := runR_le 4 0 (l.drop at_)
  have HO0 : Hid (numR (l.drop at_) = if (runR 4 0 (l.drop at_)).2 = 0 ∨ 3 < (runR 4 0 (l.drop at_)).2 ∨ (((l.drop at_).getD 0 0).toNat = 48 ∧ 1 < (runR 4 0 (l.drop at_)).2) then none else some (runR 4 0 (l.drop at_))) := rfl
  have hg0 : (l.drop at_).getD 0 0 = l.getD at_ 0 := by simp [List.getD, List.getElem?_drop]
  rw [hg0] at HO0
  obtain ⟨fin, hfin⟩ : ∃ fin, fin = runR 4 0 (l.drop at_) := ⟨_, rfl⟩
  obtain ⟨out, hout⟩ : ∃ out, out = numR (l.drop at_) := ⟨_, rfl⟩
  rw [← hfin] at HO0 hle
  rw [← hout] at HO0 ⊢
  rw [List.length_drop] at hle
  have HL := Lib.hid hlen
  have HF := Lib.hid hfin
  obtain ⟨fv, fk⟩ := fin
  dsimp only at hle HO0
  have HLE := Lib.hid hle
  clear hout hll hlen hfin hle hg0
  go_enter Tryd.func33, Tryd.ntmps33
  go_wp2
  go_loop [1, 7] (fun av nv => ∃ j n : Nat, av = .int .i64 ((at_ + j : Nat) : Int) ∧ nv = .int .i64 (n : Int) ∧ j ≤ 4 ∧ at_ + j ≤ s.size ∧ Hid (n < 10 ^ j) ∧ Hid (∃ r, runR (4 - j) n (l.drop (at_ + j)) = (fv, r) ∧ j + r = fk)) (fun av _ => s.size - (intOf av).toNat)
  case atStart => exact ⟨0, 0, rfl, rfl, by omega, by omega, by show 0 < 10 ^ 0; decide, fk, HF.out.symm, by omega⟩
  case round =>
    obtain ⟨j, n, rfl, rfl, hj, hjs, hp, hr⟩ := hrel
    have hnb : n ≤ 9999 := by
      have := hp.out
      rcases (by omega : j = 0 ∨ j = 1 ∨ j = 2 ∨ j = 3 ∨ j = 4) with rfl | rfl | rfl | rfl | rfl <;> simp at this <;> omega
    obtain ⟨q, hq⟩ : ∃ q, q = at_ + j := ⟨_, rfl⟩
    rw [← hq] at hr hjs ⊢
    have HQ := Lib.hid hq
    have hqa : at_ ≤ q := by omega
    have hqb : q ≤ at_ + 4 := by omega
    clear hq
    have i0 : (0 : Int) ≤ (q : Int) := by omega
    by_cases hlt : q < s.size
    · have i1 : (q : Int) < (s.size : Int) := by omega
      have HG : Hid (l.getD q 0 = s[q]) := HLS.out q hlt
      have HK : Hid (q < l.length) := by show _ < _; rw [HL.out]; exact hlt
      have hb := s[q].toNat_lt
      by_cases h2 : s[q].toNat < 48
      · have e2 : ¬ (48 : Int) ≤ (s[q].toNat : Int) := by omega
        have HX : Hid (n = fv ∧ q = at_ + fk) := by
          obtain ⟨r, hr1, hr2⟩ := hr.out
          rw [drop_cons HK.out, HG.out, runR_no (dig_lo h2)] at hr1
          cases hr1
          exact ⟨rfl, by have := HQ.out; omega⟩
        clear h2 hr hp
        by_cases t0 : q = at_
        · have u0 : ((q : Int) == (at_ : Int)) = true := by rw [beq_iff_eq]; omega
          have HE : Hid (numV at_ out = .tuple #[.int .i64 0, .int .i64 0, .bool false]) := by
            show _ = _
            rw [HO0.out, if_pos (Or.inl (by have := HX.out; omega))]; rfl
          clear t0 HX
          go_wp2
          go_ret3
          rw [HE.out]
          exact ⟨rfl, rfl⟩
        · have u0 : ((q : Int) == (at_ : Int)) = false := by rw [beq_eq_false_iff_ne]; omega
          by_cases t3 : at_ + 3 < q
          · have u3 : (at_ : Int) + 3 < (q : Int) := by omega
            have HE : Hid (numV at_ out = .tuple #[.int .i64 0, .int .i64 0, .bool false]) := by
              show _ = _
              rw [HO0.out, if_pos (Or.inr (Or.inl (by have := HX.out; omega)))]; rfl
            clear t0 t3 HX
            go_wp2
            go_ret3
            rw [HE.out]
            exact ⟨rfl, rfl⟩
          · have u3 : ¬ (at_ : Int) + 3 < (q : Int) := by omega
            have a0 : (0 : Int) ≤ (at_ : Int) := by omega
            have a1 : (at_ : Int) < (s.size : Int) := by omega
            have ha2 : at_ < s.size := by omega
            have HGA : Hid (l.getD at_ 0 = s[at_]) := HLS.out at_ ha2
            by_cases t48 : s[at_].toNat = 48
            · have u48 : (s[at_].toNat : Int) = 48 := by omega
              by_cases t1 : at_ + 1 < q
              · have u1 : (at_ : Int) + 1 < (q : Int) := by omega
                have HE : Hid (numV at_ out = .tuple #[.int .i64 0, .int .i64 0, .bool false]) := by
                  show _ = _
                  rw [HO0.out, if_pos (Or.inr (Or.inr ⟨by rw [HGA.out]; exact t48, by have := HX.out; omega⟩))]; rfl
                clear t0 t3 t1 t48 HX
                go_wp2
                go_ret3
                rw [HE.out]
                exact ⟨rfl, rfl⟩
              · have u1 : ¬ (at_ : Int) + 1 < (q : Int) := by omega
                have HE : Hid (numV at_ out = .tuple #[.int .i64 (n : Int), .int .i64 (q : Int), .bool true]) := by
                  show _ = _
                  rw [HO0.out, if_neg (fun h => by have := HX.out; omega)]
                  show Value.tuple #[.int .i64 (fv : Int), .int .i64 ((at_ + fk : Nat) : Int), .bool true] = _
                  rw [← HX.out.1, ← HX.out.2]
                clear t0 t3 t1 t48 HX
                go_wp2
                go_ret3
                rw [HE.out]
                exact ⟨rfl, rfl⟩
            · have u48 : ¬ (s[at_].toNat : Int) = 48 := by omega
              have HE : Hid (numV at_ out = .tuple #[.int .i64 (n : Int), .int .i64 (q : Int), .bool true]) := by
                show _ = _
                rw [HO0.out, if_neg (fun h => by have := HX.out; have := HGA.out; rw [this] at h; omega)]
                show Value.tuple #[.int .i64 (fv : Int), .int .i64 ((at_ + fk : Nat) : Int), .bool true] = _
                rw [← HX.out.1, ← HX.out.2]
              clear t0 t3 t48 HX
              go_wp2
              go_ret3
              rw [HE.out]
              exact ⟨rfl, rfl⟩
      · have e2 : (48 : Int) ≤ (s[q].toNat : Int) := by omega
        by_cases h3 : 57 < s[q].toNat
        · have e3 : ¬ (s[q].toNat : Int) ≤ 57 := by omega
          have HX : Hid (n = fv ∧ q = at_ + fk) := by
            obtain ⟨r, hr1, hr2⟩ := hr.out
            rw [drop_cons HK.out, HG.out, runR_no (dig_hi h3)] at hr1
            cases hr1
            exact ⟨rfl, by have := HQ.out; omega⟩
          clear h2 h3 hr hp
          by_cases t0 : q = at_
          · have u0 : ((q : Int) == (at_ : Int)) = true := by rw [beq_iff_eq]; omega
            have HE : Hid (numV at_ out = .tuple #[.int .i64 0, .int .i64 0, .bool false]) := by
              show _ = _
              rw [HO0.out, if_pos (Or.inl (by have := HX.out; omega))]; rfl
            clear t0 HX
            go_wp2
            go_ret3
            rw [HE.out]
            exact ⟨rfl, rfl⟩
          · have u0 : ((q : Int) == (at_ : Int)) = false := by rw [beq_eq_false_iff_ne]; omega
            by_cases t3 : at_ + 3 < q
            · have u3 : (at_ : Int) + 3 < (q : Int) := by omega
              have HE : Hid (numV at_ out = .tuple #[.int .i64 0, .int .i64 0, .bool false]) := by
                show _ = _
                rw [HO0.out, if_pos (Or.inr (Or.inl (by have := HX.out; omega)))]; rfl
              clear t0 t3 HX
              go_wp2
              go_ret3
              rw [HE.out]
              exact ⟨rfl, rfl⟩
            · have u3 : ¬ (at_ : Int) + 3 < (q : Int) := by omega
              have a0 : (0 : Int) ≤ (at_ : Int) := by omega
              have a1 : (at_ : Int) < (s.size : Int) := by omega
              have ha2 : at_ < s.size := by omega
              have HGA : Hid (l.getD at_ 0 = s[at_]) := HLS.out at_ ha2
              by_cases t48 : s[at_].toNat = 48
              · have u48 : (s[at_].toNat : Int) = 48 := by omega
                by_cases t1 : at_ + 1 < q
                · have u1 : (at_ : Int) + 1 < (q : Int) := by omega
                  have HE : Hid (numV at_ out = .tuple #[.int .i64 0, .int .i64 0, .bool false]) := by
                    show _ = _
                    rw [HO0.out, if_pos (Or.inr (Or.inr ⟨by rw [HGA.out]; exact t48, by have := HX.out; omega⟩))]; rfl
                  clear t0 t3 t1 t48 HX
                  go_wp2
                  go_ret3
                  rw [HE.out]
                  exact ⟨rfl, rfl⟩
                · have u1 : ¬ (at_ : Int) + 1 < (q : Int) := by omega
                  have HE : Hid (numV at_ out = .tuple #[.int .i64 (n : Int), .int .i64 (q : Int), .bool true]) := by
                    show _ = _
                    rw [HO0.out, if_neg (fun h => by have := HX.out; omega)]
                    show Value.tuple #[.int .i64 (fv : Int), .int .i64 ((at_ + fk : Nat) : Int), .bool true] = _
                    rw [← HX.out.1, ← HX.out.2]
                  clear t0 t3 t1 t48 HX
                  go_wp2
                  go_ret3
                  rw [HE.out]
                  exact ⟨rfl, rfl⟩
              · have u48 : ¬ (s[at_].toNat : Int) = 48 := by omega
                have HE : Hid (numV at_ out = .tuple #[.int .i64 (n : Int), .int .i64 (q : Int), .bool true]) := by
                  show _ = _
                  rw [HO0.out, if_neg (fun h => by have := HX.out; have := HGA.out; rw [this] at h; omega)]
                  show Value.tuple #[.int .i64 (fv : Int), .int .i64 ((at_ + fk : Nat) : Int), .bool true] = _
                  rw [← HX.out.1, ← HX.out.2]
                clear t0 t3 t48 HX
                go_wp2
                go_ret3
                rw [HE.out]
                exact ⟨rfl, rfl⟩
        · have e3 : (s[q].toNat : Int) ≤ 57 := by omega
          by_cases h4 : q < at_ + 4
          · have e4 : (q : Int) < (at_ : Int) + 4 := by omega
            have HN : Hid (∃ r, runR (4 - (j + 1)) (10 * n + (s[q].toNat - 48)) (l.drop (q + 1)) = (fv, r) ∧ j + 1 + r = fk) := by
              obtain ⟨r, hr1, hr2⟩ := hr.out
              rw [drop_cons HK.out, HG.out, show 4 - j = (4 - (j + 1)) + 1 by have := HQ.out; omega, runR_yes (dig_yes (by omega) (by omega))] at hr1
              simp only [Prod.mk.injEq] at hr1
              exact ⟨(runR (4 - (j + 1)) (10 * n + (s[q].toNat - 48)) (l.drop (q + 1))).2, Prod.ext hr1.1 rfl, by omega⟩
            have HP : Hid (10 * n + (s[q].toNat - 48) < 10 ^ (j + 1)) := by
              show _ < _
              have := hp.out
              rw [Nat.pow_succ]
              omega
            have e5 : 10 * (n : Int) + (s[q].toNat : Int) - 48 = ((10 * n + (s[q].toNat - 48) : Nat) : Int) := by omega
            clear hr hp
            go_wp2
            go_round
            case rel => exact ⟨j + 1, _, by first | (rw [HQ.out]; rfl) | (rw [HQ.out]; go_num), by first | rfl | go_num, by have := HQ.out; omega, by have := HQ.out; omega, HP, by rw [← Nat.add_assoc, ← HQ.out]; exact HN⟩
            case measure => simp [intOf]; omega
          · have e4 : ¬ (q : Int) < (at_ : Int) + 4 := by omega
            have HX : Hid (n = fv ∧ q = at_ + fk) := by
              obtain ⟨r, hr1, hr2⟩ := hr.out
              rw [show 4 - j = 0 by have := HQ.out; omega, runR_zero] at hr1
              cases hr1
              exact ⟨rfl, by have := HQ.out; omega⟩
            clear h2 h3 hr hp
            by_cases t0 : q = at_
            · have u0 : ((q : Int) == (at_ : Int)) = true := by rw [beq_iff_eq]; omega
              have HE : Hid (numV at_ out = .tuple #[.int .i64 0, .int .i64 0, .bool false]) := by
                show _ = _
                rw [HO0.out, if_pos (Or.inl (by have := HX.out; omega))]; rfl
              clear t0 HX
              go_wp2
              go_ret3
              rw [HE.out]
              exact ⟨rfl, rfl⟩
            · have u0 : ((q : Int) == (at_ : Int)) = false := by rw [beq_eq_false_iff_ne]; omega
              by_cases t3 : at_ + 3 < q
              · have u3 : (at_ : Int) + 3 < (q : Int) := by omega
                have HE : Hid (numV at_ out = .tuple #[.int .i64 0, .int .i64 0, .bool false]) := by
                  show _ = _
                  rw [HO0.out, if_pos (Or.inr (Or.inl (by have := HX.out; omega)))]; rfl
                clear t0 t3 HX
                go_wp2
                go_ret3
                rw [HE.out]
                exact ⟨rfl, rfl⟩
              · have u3 : ¬ (at_ : Int) + 3 < (q : Int) := by omega
                have a0 : (0 : Int) ≤ (at_ : Int) := by omega
                have a1 : (at_ : Int) < (s.size : Int) := by omega
                have ha2 : at_ < s.size := by omega
                have HGA : Hid (l.getD at_ 0 = s[at_]) := HLS.out at_ ha2
                by_cases t48 : s[at_].toNat = 48
                · have u48 : (s[at_].toNat : Int) = 48 := by omega
                  by_cases t1 : at_ + 1 < q
                  · have u1 : (at_ : Int) + 1 < (q : Int) := by omega
                    have HE : Hid (numV at_ out = .tuple #[.int .i64 0, .int .i64 0, .bool false]) := by
                      show _ = _
                      rw [HO0.out, if_pos (Or.inr (Or.inr ⟨by rw [HGA.out]; exact t48, by have := HX.out; omega⟩))]; rfl
                    clear t0 t3 t1 t48 HX
                    go_wp2
                    go_ret3
                    rw [HE.out]
                    exact ⟨rfl, rfl⟩
                  · have u1 : ¬ (at_ : Int) + 1 < (q : Int) := by omega
                    have HE : Hid (numV at_ out = .tuple #[.int .i64 (n : Int), .int .i64 (q : Int), .bool true]) := by
                      show _ = _
                      rw [HO0.out, if_neg (fun h => by have := HX.out; omega)]
                      show Value.tuple #[.int .i64 (fv : Int), .int .i64 ((at_ + fk : Nat) : Int), .bool true] = _
                      rw [← HX.out.1, ← HX.out.2]
                    clear t0 t3 t1 t48 HX
                    go_wp2
                    go_ret3
                    rw [HE.out]
                    exact ⟨rfl, rfl⟩
                · have u48 : ¬ (s[at_].toNat : Int) = 48 := by omega
                  have HE : Hid (numV at_ out = .tuple #[.int .i64 (n : Int), .int .i64 (q : Int), .bool true]) := by
                    show _ = _
                    rw [HO0.out, if_neg (fun h => by have := HX.out; have := HGA.out; rw [this] at h; omega)]
                    show Value.tuple #[.int .i64 (fv : Int), .int .i64 ((at_ + fk : Nat) : Int), .bool true] = _
                    rw [← HX.out.1, ← HX.out.2]
                  clear t0 t3 t48 HX
                  go_wp2
                  go_ret3
                  rw [HE.out]
                  exact ⟨rfl, rfl⟩
    · have i1 : ¬ (q : Int) < (s.size : Int) := by omega
      have HX : Hid (n = fv ∧ q = at_ + fk) := by
        obtain ⟨r, hr1, hr2⟩ := hr.out
        rw [List.drop_eq_nil_of_le (by have := HL.out; omega), runR_nil] at hr1
        cases hr1
        exact ⟨rfl, by have := HQ.out; omega⟩
      clear hr hp
      by_cases t0 : q = at_
      · have u0 : ((q : Int) == (at_ : Int)) = true := by rw [beq_iff_eq]; omega
        have HE : Hid (numV at_ out = .tuple #[.int .i64 0, .int .i64 0, .bool false]) := by
          show _ = _
          rw [HO0.out, if_pos (Or.inl (by have := HX.out; omega))]; rfl
        clear t0 HX
        go_wp2
        go_ret3
        rw [HE.out]
        exact ⟨rfl, rfl⟩
      · have u0 : ((q : Int) == (at_ : Int)) = false := by rw [beq_eq_false_iff_ne]; omega
        by_cases t3 : at_ + 3 < q
        · have u3 : (at_ : Int) + 3 < (q : Int) := by omega
          have HE : Hid (numV at_ out = .tuple #[.int .i64 0, .int .i64 0, .bool false]) := by
            show _ = _
            rw [HO0.out, if_pos (Or.inr (Or.inl (by have := HX.out; omega)))]; rfl
          clear t0 t3 HX
          go_wp2
          go_ret3
          rw [HE.out]
          exact ⟨rfl, rfl⟩
        · have u3 : ¬ (at_ : Int) + 3 < (q : Int) := by omega
          have a0 : (0 : Int) ≤ (at_ : Int) := by omega
          have a1 : (at_ : Int) < (s.size : Int) := by omega
          have ha2 : at_ < s.size := by omega
          have HGA : Hid (l.getD at_ 0 = s[at_]) := HLS.out at_ ha2
          by_cases t48 : s[at_].toNat = 48
          · have u48 : (s[at_].toNat : Int) = 48 := by omega
            by_cases t1 : at_ + 1 < q
            · have u1 : (at_ : Int) + 1 < (q : Int) := by omega
              have HE : Hid (numV at_ out = .tuple #[.int .i64 0, .int .i64 0, .bool false]) := by
                show _ = _
                rw [HO0.out, if_pos (Or.inr (Or.inr ⟨by rw [HGA.out]; exact t48, by have := HX.out; omega⟩))]; rfl
              clear t0 t3 t1 t48 HX
              go_wp2
              go_ret3
              rw [HE.out]
              exact ⟨rfl, rfl⟩
            · have u1 : ¬ (at_ : Int) + 1 < (q : Int) := by omega
              have HE : Hid (numV at_ out = .tuple #[.int .i64 (n : Int), .int .i64 (q : Int), .bool true]) := by
                show _ = _
                rw [HO0.out, if_neg (fun h => by have := HX.out; omega)]
                show Value.tuple #[.int .i64 (fv : Int), .int .i64 ((at_ + fk : Nat) : Int), .bool true] = _
                rw [← HX.out.1, ← HX.out.2]
              clear t0 t3 t1 t48 HX
              go_wp2
              go_ret3
              rw [HE.out]
              exact ⟨rfl, rfl⟩
          · have u48 : ¬ (s[at_].toNat : Int) = 48 := by omega
            have HE : Hid (numV at_ out = .tuple #[.int .i64 (n : Int), .int .i64 (q : Int), .bool true]) := by
              show _ = _
              rw [HO0.out, if_neg (fun h => by have := HX.out; have := HGA.out; rw [this] at h; omega)]
              show Value.tuple #[.int .i64 (fv : Int), .int .i64 ((at_ + fk : Nat) : Int), .bool true] = _
              rw [← HX.out.1, ← HX.out.2]
            clear t0 t3 t48 HX
            go_wp2
            go_ret3
            rw [HE.out]
            exact ⟨rfl, rfl⟩
end Go.Proofs.YthkabehojmncmaaDoor.Reply
