/-
  DATE, the program: the month of a name.
-/
import Derived.Test.YtklhgaioolamfaaDoorDpVars
import Derived.Test.YtklhgaioolamfaaDoorDpLow
import Derived.Deep.MidRow
import Derived.ChangeKeysEq
namespace Go.Proofs.YtklhgaioolamfaaDoor.Date
open Go.RowKit Base
theorem plainS : Tryd.prog.plainKey 9 = true := by kernel_rfl
theorem size12 : (Tryd.prog.info? 43).map (·.size) = some 12 := by kernel_rfl
set_option maxRecDepth 100000 in
theorem run_index_mon (cs : Array Value) (k : Nat) (hk : k < 12) (v : Value) (h : cs[k]? = some v) (w : World) : (Instr.index 43 (.agg cs) (.int .i64 (k : Int))).run Tryd.prog w = .ok v w := by
  have hp := run_part_plain (P := Tryd.prog) (w := w) plainS (xs := cs) (off := k * 1) (by rw [Nat.mul_one]; exact h)
  have i1 : (0 : Int) ≤ (k : Int) ∧ (k : Int) < 12 := by omega
  unfold Instr.index
  simp only [asIntOf, Sem.run_bind, Sem.run_pure, Result.andThen_ok, run_underlying Tryd.underlying43]
  rw [if_pos (by exact_mod_cast i1)]
  simp only [Sem.run_bind]
  go_simp
theorem place_all (l : List UInt8) : placeF monB l 12 0 = placeD monB l := by
  unfold placeD
  split
  · rename_i h
    rcases place_range monB l 12 0 with h1 | ⟨k, _, _, h3, h4⟩
    · exact h1
    · exfalso
      have h5 := congrArg List.length h4
      have hl : ∀ k < 12, (lowL (nmAt monB k)).length = 3 := by decide
      rw [hl k (by omega), low_len] at h5
      exact h h5.symm
  · rfl
def monL : List Value := (List.range 12).map fun k => S (nmAt monB k)
theorem mon_at {k : Nat} (h : k < 12) : monL.toArray[k]? = some (S (nmAt monB k)) := by
  unfold monL
  simp [h]
theorem mon_range {w : World} (hv : Vars w) : w.rangeAt 1 0 monL := fun i v h => by
  have hi : i < 12 := by
    have := (List.getElem?_eq_some_iff.1 h).1
    simpa [monL] using this
  rw [Nat.zero_add, hv.mon i hi, ← h]
  unfold monL
  simp [hi]
set_option maxHeartbeats 8000000 in
set_option maxRecDepth 100000 in
theorem pMonth (s : ByteArray) (w : World) (hv : Vars w) (hs : s.size ≤ 9223372036854775807) : Calls Tryd.prog 51 #[.string s] w fun e w' => e = .returned (zonV (monthQ s.data.toList)) ∧ Below w.heap.size w w' := by
  obtain ⟨l, hl⟩ : ∃ l, l = s.data.toList := ⟨_, rfl⟩
  rw [← hl]
  obtain ⟨fin, hfin⟩ : ∃ fin, fin = placeD monB l := ⟨_, rfl⟩
  have HF0 : Hid (placeF monB l 12 0 = fin) := by show _ = _; rw [hfin, place_all]
  have HQ : Hid (zonV (monthQ l) = zonV (if fin < 0 then (0, false) else (fin + 1, true))) := by show _ = _; rw [hfin]; rfl
  generalize zonV (monthQ l) = Z at HQ
  obtain ⟨L2, hL2⟩ : ∃ L2, L2 = lowL l := ⟨_, rfl⟩
  have HL2 : Hid (Calls Tryd.prog 54 #[.string s] w fun e w' => e = .returned (S L2) ∧ Below w.heap.size w w') := by rw [hL2, hl]; exact pLower s w hs
  have HL2E := Lib.hid hL2
  have HV := Lib.hid hv
  obtain ⟨ms, hms⟩ : ∃ ms, ms = monL := ⟨_, rfl⟩
  have HMS := Lib.hid hms
  have HIX : Hid (∀ k : Nat, k < 12 → ∀ wx, (Instr.index 43 (.agg ms.toArray) (.int .i64 (k : Int))).run Tryd.prog wx = .ok (S (nmAt monB k)) wx) := fun k hk wx => run_index_mon _ k hk _ (by rw [hms]; exact mon_at hk) wx
  have HLN : Hid (∀ k : Nat, k < 12 → ∀ w1, Calls Tryd.prog 54 #[S (nmAt monB k)] w1 fun e w' => e = .returned (S (lowL (nmAt monB k))) ∧ Below w1.heap.size w1 w') := fun k hk w1 => by
    have hz : ∀ k < 12, (nmAt monB k).length = 3 := by decide
    exact pLower ⟨(nmAt monB k).toArray⟩ w1 (by rw [← str_len]; show (nmAt monB k).length ≤ _; rw [hz k hk]; decide)
  have HSZ : Hid ((Tryd.prog.info? 43).map (·.size) = some ms.length) := by show _ = _; rw [hms]; exact size12
  clear hl hfin hL2 hv hms
  go_enter Tryd.func51, Tryd.ntmps51
  go_wp2_with (first | (go_at_call 54; refine HL2.out.mono ?_; rintro ee w1 ⟨rfl, hb1⟩; refine Hid.out ?_) | fail)
  refine Lib.hid ?_
  have HB1 := Lib.hid hb1
  have HRG : Hid (w1.rangeAt 1 0 ms) := by rw [HMS.out]; exact mon_range (HV.out.on hb1)
  clear hb1 HL2
  go_wp2_with (first | (refine wpList_load_mid rfl 43 (.global 1) rfl 1 0 rfl ms _ HRG.out Tryd.underlying43 rfl HSZ.out ?_) | fail)
  go_loopw [4, 5, 9] (fun iv ov kv wr => ∃ k : Nat, kv = .int .i64 (k : Int) ∧ k ≤ 12 ∧ Hid (placeF monB l (12 - k) k = fin) ∧ Hid (Below w.heap.size w wr)) (fun _ _ kv _ => 12 - (intOf kv).toNat)
  case atStart => exact ⟨0, rfl, by omega, HF0.out, HB1.out⟩
  case round =>
    clear HF0 HB1 HRG
    obtain ⟨k, rfl, hk, hp, hb⟩ := hrel
    by_cases hlt : k < 12
    · have k0 : (0 : Int) ≤ (k : Int) := by omega
      have k1 : (k : Int) < 12 := by omega
      have hix := HIX.out k hlt wr
      have heq := hp.out
      rw [show 12 - k = 12 - (k + 1) + 1 by omega, placeF, ← HL2E.out] at heq
      have HC := Lib.hid (HLN.out k hlt)
      generalize lowL (nmAt monB k) = L1 at HC heq
      generalize nmAt monB k = NM at HC hix
      clear hp HLN HIX
      cases hq : L2 == L1
      · have hne : L1 ≠ L2 := fun e => by rw [e] at hq; simp at hq
        rw [if_neg hne] at heq
        have HN := Lib.hid heq
        clear heq hne
        go_wp2_with (first | (go_at_call 54; refine (HC.out _).mono ?_; rintro e w1 ⟨rfl, hb1⟩; refine Hid.out ?_) | fail)
        refine Lib.hid ?_
        have HB1 : Hid (Below w.heap.size w w1) := hb.out.trans (hb1.mono hb.out.size)
        clear hb1
        go_wp2
        go_roundw
        case rel => exact ⟨k + 1, by go_num, by omega, HN, HB1⟩
        case measure => simp [intOf]; omega
      · rw [if_pos (by simpa using (eq_of_beq hq).symm)] at heq
        have HN : Hid (Z = .tuple #[.int .i64 ((k : Int) + 1), .bool true]) := by
          show _ = _
          rw [HQ.out, ← heq, if_neg (by omega)]; rfl
        clear heq
        go_wp2_with (first | (go_at_call 54; refine (HC.out _).mono ?_; rintro e w1 ⟨rfl, hb1⟩; refine Hid.out ?_) | fail)
        refine Lib.hid ?_
        have HB1 : Hid (Below w.heap.size w w1) := hb.out.trans (hb1.mono hb.out.size)
        clear hb1
        go_wp2
        go_ret2
        rw [HN.out]
        exact ⟨rfl, HB1.out⟩
    · have k1 : ¬ (k : Int) < 12 := by omega
      have heq := hp.out
      rw [show 12 - k = 0 by omega, placeF] at heq
      have HN : Hid (Z = .tuple #[.int .i64 0, .bool false]) := by
        show _ = _
        rw [HQ.out, ← heq]; rfl
      clear heq hp
      go_wp2
      go_ret2
      rw [HN.out]
      exact ⟨rfl, hb.out⟩
end Go.Proofs.YtklhgaioolamfaaDoor.Date
