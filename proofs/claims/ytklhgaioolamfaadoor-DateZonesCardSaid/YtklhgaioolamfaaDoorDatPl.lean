/-
  DATE, the given answers: place.
-/
import Derived.Test.YtklhgaioolamfaaDoorDatNum
namespace Go.Proofs.YtklhgaioolamfaaDoor.Date
open Go.RowKit Base
theorem nm_slice (nm : ByteArray) (i : Nat) : (nm.extract (3 * i) (3 * i + 3)).data.toList = nmAt nm.data.toList i := by
  rw [extract_bytes]
  unfold nmAt
  show ((nm.data.toList.take (3 * i + 3)).drop (3 * i)) = _
  rw [List.drop_take]
  congr 1
  omega
set_option maxHeartbeats 8000000 in
set_option maxRecDepth 100000 in
theorem rPlace (nm s : ByteArray) (K : Nat) (w : World) (hk : nm.size = 3 * K) (hK : K ≤ 12) : Calls Tryd.prog 28 #[.string nm, .string s] w fun e w' => e = .returned (.int .i64 (placeD nm.data.toList s.data.toList)) ∧ Below w.heap.size w w' := by
  obtain ⟨fin, hfin⟩ : ∃ fin, fin = placeD nm.data.toList s.data.toList := ⟨_, rfl⟩
  rw [← hfin]
  have hls : s.data.toList.length = s.size := str_len s
  have hln : nm.data.toList.length = 3 * K := by rw [str_len, hk]
  by_cases h3 : s.size = 3
  · have e3 : ((s.size : Int) != 3) = false := by rw [h3]; rfl
    have HF0 : Hid (placeF nm.data.toList s.data.toList K 0 = fin) := by
      show _ = _
      rw [hfin, placeD, if_neg (by omega), hln]
      congr 1
      omega
    have e4 : Int.tdiv (nm.size : Int) 3 = (K : Int) := by
      exact (quo_nat nm.size 3).trans (by rw [hk]; congr 1; omega)
    have HLO : Hid (∀ (x : ByteArray) w1, x.size ≤ 9223372036854775807 → Calls Tryd.prog 47 #[.string x] w1 (LowEnd x w1)) := fun x w1 h => rLower x w1 h
    have HNS : Hid (∀ i, (nm.extract (3 * i) (3 * i + 3)).data.toList = nmAt nm.data.toList i) := nm_slice nm
    obtain ⟨L2, hL2⟩ : ∃ L2, L2 = lowL s.data.toList := ⟨_, rfl⟩
    have HL2 : Hid (∀ w1, Calls Tryd.prog 47 #[.string s] w1 fun e w' => e = .returned (S L2) ∧ Below w1.heap.size w1 w') := fun w1 => by rw [hL2]; exact rLower s w1 (by omega)
    have HL2E := Lib.hid hL2
    have HK := Lib.hid hk
    clear hfin hls hln hL2 hk h3
    go_enter Tryd.func28, Tryd.ntmps28
    go_wp2
    go_loopw [5] (fun iv wr => ∃ i : Nat, iv = .int .i64 (i : Int) ∧ i ≤ K ∧ Hid (placeF nm.data.toList s.data.toList (K - i) i = fin) ∧ Hid (Below w.heap.size w wr)) (fun iv _ => K - (intOf iv).toNat)
    case atStart => exact ⟨0, rfl, by omega, HF0.out, Below.refl _ _⟩
    case round =>
      clear HF0
      obtain ⟨i, rfl, hi, hp, hb⟩ := hrel
      by_cases hlt : i < K
      · have k0 : (0 : Int) ≤ (i : Int) := by omega
        have k1 : (i : Int) < (K : Int) := by omega
        have k2 : 3 * (i : Int) + 3 ≤ (nm.size : Int) := by rw [HK.out]; omega
        have k3 : (0 : Int) ≤ 3 * (i : Int) := by omega
        have hksz := HK.out
        obtain ⟨L1, hL1⟩ : ∃ L1, L1 = lowL (nmAt nm.data.toList i) := ⟨_, rfl⟩
        have HL1 : Hid (∀ w1, Calls Tryd.prog 47 #[.string (nm.extract (3 * i) (3 * i + 3))] w1 fun e w' => e = .returned (S L1) ∧ Below w1.heap.size w1 w') := fun w1 => by
          have := HLO.out (nm.extract (3 * i) (3 * i + 3)) w1 (by rw [ByteArray.size_extract]; omega)
          unfold LowEnd at this
          rw [HNS.out] at this
          rw [hL1]; exact this
        have heq := hp.out
        rw [show K - i = K - (i + 1) + 1 by omega, placeF, ← hL1, ← HL2E.out] at heq
        clear hp hksz hL1
        cases hq : L1 == L2
        · have hne : L1 ≠ L2 := fun e => by rw [e] at hq; simp at hq
          rw [if_neg hne] at heq
          have HN := Lib.hid heq
          clear heq hne
          go_wp2_with (first | (go_at_call 47; refine (HL1.out _).mono ?_; rintro e w1 ⟨rfl, hb1⟩; refine Hid.out ?_) | fail)
          refine Lib.hid ?_
          have HB1 : Hid (Below w.heap.size w w1) := hb.out.trans (hb1.mono hb.out.size)
          clear hb1
          go_wp2_with (first | (go_at_call 47; refine (HL2.out _).mono ?_; rintro e w2 ⟨rfl, hb2⟩; refine Hid.out ?_) | fail)
          refine Lib.hid ?_
          have HB2 : Hid (Below w.heap.size w w2) := HB1.out.trans (hb2.mono HB1.out.size)
          clear hb2
          go_wp2
          go_roundw
          case rel => exact ⟨i + 1, by go_num, by omega, HN, HB2⟩
          case measure => simp [intOf]; omega
        · rw [if_pos (by simpa using hq)] at heq
          have HN := Lib.hid heq
          clear heq
          go_wp2_with (first | (go_at_call 47; refine (HL1.out _).mono ?_; rintro e w1 ⟨rfl, hb1⟩; refine Hid.out ?_) | fail)
          refine Lib.hid ?_
          have HB1 : Hid (Below w.heap.size w w1) := hb.out.trans (hb1.mono hb.out.size)
          clear hb1
          go_wp2_with (first | (go_at_call 47; refine (HL2.out _).mono ?_; rintro e w2 ⟨rfl, hb2⟩; refine Hid.out ?_) | fail)
          refine Lib.hid ?_
          have HB2 : Hid (Below w.heap.size w w2) := HB1.out.trans (hb2.mono HB1.out.size)
          clear hb2
          go_wp2
          go_ret
          rw [← HN.out]
          exact ⟨rfl, HB2.out⟩
      · have k1 : ¬ (i : Int) < (K : Int) := by omega
        have heq := hp.out
        rw [show K - i = 0 by omega, placeF] at heq
        have HN := Lib.hid heq
        clear heq hp
        go_wp2
        go_ret
        rw [← HN.out]
        exact ⟨rfl, hb.out⟩
  · have e3 : ((s.size : Int) != 3) = true := by rw [bne_iff_ne]; omega
    have HF : Hid (fin = -1) := by show _ = _; rw [hfin, placeD, if_pos (by omega)]
    clear hfin hls hln h3
    go_enter Tryd.func28, Tryd.ntmps28
    go_wp2
    go_ret
    rw [HF.out]
    exact ⟨rfl, Below.refl _ _⟩
end Go.Proofs.YtklhgaioolamfaaDoor.Date
