/-
  HEADER, HeaderCovers: the walk.
-/
import Derived.Test.YtnogpoojhhmadaaDoorHpShown
import Derived.Test.YtnogpoojhhmadaaDoorHdrCov
namespace Go.Proofs.YtnogpoojhhmadaaDoor.Header
open Go.RowKit Base
theorem chain_at {n : Nat} : ∀ {a : Nat} {T : List Fld} (k : Nat) (f : Fld), chainF n a T → T[k]? = some f → f.fr = endFrom a (T.take k) ∧ endFrom a (T.take k) < f.en ∧ f.en ≤ n ∧ endFrom a (T.take (k + 1)) = f.en
  | _, [], k, f, _, h => by simp at h
  | _, g :: r, 0, f, ⟨c1, c2, c3, _⟩, h => by
    rw [List.getElem?_cons_zero] at h
    cases h
    exact ⟨c1, c2, c3, rfl⟩
  | _, g :: r, k + 1, f, ⟨_, _, _, c4⟩, h => by
    rw [List.getElem?_cons_succ] at h
    exact chain_at k f c4 h
theorem code_few {T : List Fld} (h : codeF T = 0) : T.length ≤ 1000 := by
  unfold codeF at h
  split at h
  · cases h
  · split at h
    · cases h
    · omega
theorem crlf_part {l : List UInt8} {a : Nat} (h : crlfAt l a) : (l.take (a + 2)).drop a = [13, 10] := by
  obtain ⟨h1, h2, h3⟩ := h
  have hc := drop_two h1
  rw [UInt8.toNat_inj.1 (show (l.getD a 0).toNat = (13 : UInt8).toNat from h2), UInt8.toNat_inj.1 (show (l.getD (a + 1) 0).toNat = (10 : UInt8).toNat from h3)] at hc
  rw [List.drop_take, hc, show a + 2 - a = 2 by omega]
  rfl
set_option maxHeartbeats 8000000 in
set_option maxRecDepth 100000 in
theorem pCovers (v : Value) (l : List UInt8) (w : World) (hr : Reads w v l) (hl : l.length ≤ 4000000000) (he : Env w) : Calls Tryd.prog 5 #[v] w fun e w' => e = .returned (.bool true) ∧ Below w.heap.size w w' := by
  obtain ⟨A, c, rfl⟩ := hr.form
  have HSH := Lib.hid (pShown w he)
  have HR := Lib.hid hr
  have HV : Hid (∀ w1, Below w.heap.size w w1 → Env w1) := fun w1 h => he.on h
  have HC := Lib.hid (covers l)
  obtain ⟨T, b, hTb⟩ : ∃ T b, splitOf l = (T, b) := ⟨_, _, rfl⟩
  rw [hTb] at HC
  have HTB := Lib.hid hTb
  clear hr he hTb
  go_enter Tryd.func5, Tryd.ntmps5
  go_wp2_with (first | (go_at_call 7; refine HSH.out.mono ?_; rintro e w1 ⟨rfl, hb1⟩; refine Hid.out ?_) | fail)
  refine Lib.hid ?_
  have HB1 := Lib.hid hb1
  have HSP := Lib.hid (pSplit (.slice A l.length c) l w1 (HR.out.on hb1) hl (HV.out _ hb1))
  unfold SplitEnd at HSP
  rw [HTB.out] at HSP
  clear hb1 HSH
  by_cases hcode : codeF T = 0
  · have HSP2 : Hid (Calls Tryd.prog 9 #[.slice A l.length c] w1 fun e w' => ∃ a cc, e = .returned (.tuple #[.slice a T.length cc, .int .i64 (b : Int), .int .i64 0]) ∧ FReads w' (.slice a T.length cc) T ∧ Below w1.heap.size w1 w') := HSP.out.mono fun e w' h => by
      obtain ⟨h1, ⟨_, u, h3, h4⟩ | ⟨h3, _⟩⟩ := h
      · obtain ⟨a, cc, rfl⟩ := h4.form
        exact ⟨a, cc, h3, h4, h1⟩
      · exact absurd hcode h3
    have htl := code_few hcode
    clear hcode HSP
    go_wp2_with (first | (go_at_call 9; refine HSP2.out.mono ?_; rintro e w2 ⟨a, cc, rfl, hf, hb2⟩; refine Hid.out ?_) | fail)
    refine Lib.hid ?_
    have HF := Lib.hid hf
    have HB2 : Hid (Below w.heap.size w w2) := HB1.out.trans (hb2.mono HB1.out.size)
    have HR2 := Lib.hid (HR.out.on HB2.out)
    clear hf hb2 HSP2
    go_wp2
    go_loop [7, 8] (fun at_ i => ∃ k : Nat, k ≤ T.length ∧ i = .int .i64 (k : Int) ∧ at_ = .int .i64 ((endFrom 0 (T.take k) : Nat) : Int)) (fun _ i => T.length - (intOf i).toNat)
    case atStart => exact ⟨0, Nat.zero_le _, rfl, rfl⟩
    case round =>
      obtain ⟨k, hk, rfl, rfl⟩ := hrel
      have i0 : (0 : Int) ≤ (k : Int) := by omega
      by_cases hlt : k < T.length
      · have i1 : (k : Int) < (T.length : Int) := by omega
        obtain ⟨f, hf⟩ : ∃ f, T[k]? = some f := ⟨_, List.getElem?_eq_getElem hlt⟩
        obtain ⟨h1, h2, h3, h4⟩ := chain_at k f HC.out.1 hf
        obtain ⟨bb, o, hA, p0, p1, p2, p3⟩ := HF.out.cell hf
        subst hA
        have HE := Lib.hid h4
        rw [← h1] at h2 ⊢
        have j1 : ¬ (f.en : Int) ≤ (f.fr : Int) := by omega
        have j2 : ¬ (l.length : Int) < (f.en : Int) := by omega
        clear h1 h2 h3 h4 hf p0 p1
        go_wp2
        go_round
        case rel => exact ⟨k + 1, by omega, by go_num, by rw [HE.out]⟩
        case measure => simp [intOf]; omega
      · have i1 : ¬ (k : Int) < (T.length : Int) := by omega
        obtain ⟨z, hz⟩ : ∃ z, z = endFrom 0 T := ⟨_, rfl⟩
        have hzk : endFrom 0 (T.take k) = z := by rw [List.take_of_length_le (by omega), hz]
        rw [hzk]
        have hcc := HC.out.2
        rw [← hz] at hcc
        obtain ⟨hzl, hzz⟩ := hcc
        clear hzk hz HF
        have hzz2 : b = z ∨ (b = z + 2 ∧ crlfAt l z) := hzz
        rcases hzz2 with rfl | ⟨hb, hcr⟩
        · clear hzz
          go_wp2
          go_ret
          exact ⟨rfl, HB2.out⟩
        · subst hb
          have hz2 : z + 1 < l.length := hcr.1
          have hpt := Reads.part HR2.out (at_ := z) (e := z + 2) (by omega) (by omega)
          rw [crlf_part hcr] at hpt
          obtain ⟨b9, o9, hA9, _, hc9, _⟩ := reads_cells HR2.out (i := z) (by omega)
          subst hA9
          rw [if_neg (by omega)] at hpt
          have hpt2 : Reads w2 (.slice (some ⟨b9, o9 + z, none⟩) 2 (c - z)) [13, 10] := by
            rw [show z + 2 - z = 2 by omega] at hpt
            simpa [Addr.add_lit] using hpt
          have hcv := conv_reads hpt2
          have j0 : (((z + 2 : Nat) : Int) == (z : Int)) = false := by rw [beq_eq_false_iff_ne]; omega
          have j1 : (z : Int) + 2 ≤ (l.length : Int) := by omega
          clear hzz hpt hpt2 hcr
          go_wp2
          go_ret
          exact ⟨rfl, HB2.out⟩
  · have HSP2 : Hid (Calls Tryd.prog 9 #[.slice A l.length c] w1 fun e w' => e = .returned (.tuple #[.slice none 0 0, .int .i64 0, .int .i64 (codeF T : Int)]) ∧ Below w1.heap.size w1 w') := HSP.out.mono fun e w' h => by
      obtain ⟨h1, ⟨h3, _⟩ | ⟨_, h3⟩⟩ := h
      · exact absurd h3 hcode
      · exact ⟨h3, h1⟩
    have j1 : ((codeF T : Int) != 0) = true := by rw [bne_iff_ne]; omega
    clear hcode HSP
    go_wp2_with (first | (go_at_call 9; refine HSP2.out.mono ?_; rintro e w2 ⟨rfl, hb2⟩; refine Hid.out ?_) | fail)
    refine Lib.hid ?_
    have HB2 : Hid (Below w.heap.size w w2) := HB1.out.trans (hb2.mono HB1.out.size)
    clear hb2 HSP2
    go_wp2
    go_ret
    exact ⟨rfl, HB2.out⟩
theorem cov_law (v : Value) (l : List UInt8) (W : World) (hr : Reads W v l) (hl : l.length ≤ 1048576) (he : Env W) : Calls Tryd.prog 5 #[v] W fun e w' => e = .returned (.bool true) ∧ Below W.heap.size W w' :=
  pCovers v l W hr (by omega) he
end Go.Proofs.YtnogpoojhhmadaaDoor.Header
