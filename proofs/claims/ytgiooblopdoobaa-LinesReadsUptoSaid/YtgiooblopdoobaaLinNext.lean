/-
  LINES, the given answers: Next: the walk.
-/
import Derived.Test.YtgiooblopdoobaaLinNextP
import Derived.Deep.CutBlock
import Derived.Deep.DeepCutAuto
namespace Go.Proofs.Ytgiooblopdoobaa.Lines
open Go.RowKit Base
set_option maxHeartbeats 8000000 in
set_option maxRecDepth 100000 in
theorem rNextA (g b o c : Nat) (most : Nat) (l : List UInt8) (w : World) (hl : l.length ≤ 100000000000000) (h : RdAt w g (.slice (some ⟨b, o, none⟩) l.length c) most l) (hlc : l.length ≤ c)
    (hc : ∀ i, i < l.length → w.cell? ⟨b, o + i, none⟩ = some (.int .u8 ((l.getD i 0).toNat : Int))) :
    Calls Try.prog 13 #[.pointer (some ⟨g, 0, none⟩)] w (NextEnd g (.slice (some ⟨b, o, none⟩) l.length c) most l w) := by
  obtain ⟨vv, hvv⟩ : ∃ vv, vv = Value.slice (some ⟨b, o, none⟩) l.length c := ⟨_, rfl⟩
  have HVV := Lib.hid hvv
  rw [← hvv]
  clear hvv
  obtain ⟨c0, c1, f0, f1⟩ := two_cells h.1
  have HG := Lib.hid (heap_lt h.1)
  have HH := Lib.hid h
  obtain ⟨E, hE⟩ : ∃ E, E = endOf l := ⟨_, rfl⟩
  have hEl : E ≤ l.length := by rw [hE]; exact endOf_le l
  have HN : Hid (∀ i, i < E → ∃ d : Nat, d ≤ 255 ∧ ¬ (d : Int) = 10 ∧ w.cell? ⟨b, o + i, none⟩ = some (.int .u8 (d : Int))) := fun i hi => by
    have h1 := endOf_ne l i (by omega)
    exact ⟨_, by have := (l.getD i 0).toNat_lt; omega, by omega, hc i (by omega)⟩
  have HT : Hid (E < l.length → w.cell? ⟨b, o + E, none⟩ = some (.int .u8 10)) := fun hlt => by
    have h1 := hc E hlt
    rw [hE] at hlt
    have h2 := endOf_at l hlt
    rw [h1, hE, h2]; rfl
  have HR : Hid (Reads w (.slice (some ⟨b, o, none⟩) l.length c) l) := Or.inr ⟨b, o, c, rfl, hlc, hc⟩
  have HE := Lib.hid hE
  clear h hc hE
  go_enter Try.func13, Try.ntmps13
  go_wp2
  go_loop [5] (fun iv => ∃ k : Nat, k ≤ E ∧ iv = .int .i64 (k : Int)) (fun iv => E - (intOf iv).toNat)
  case atStart => exact ⟨0, by omega, rfl⟩
  case round =>
    obtain ⟨k, hk, rfl⟩ := hrel
    by_cases hkE : k < E
    · obtain ⟨d, hd, hd10, hcell⟩ := HN.out k hkE
      have j1 : k < l.length := by omega
      have j2 : (k : Int) < (l.length : Int) := by omega
      go_wp2
      go_round
      case rel => exact ⟨k + 1, by omega, by go_num⟩
      case measure => simp [intOf]; omega
    · obtain rfl : k = E := by omega
      by_cases hlt : k < l.length
      · have hcell := HT.out hlt
        have j2 : (k : Int) < (l.length : Int) := by omega
        have j3 : ¬ (k : Int) = (l.length : Int) := by omega
        have HRT : Hid (Reads w (.slice (some ⟨b, o, none⟩) k c) (l.take k)) := reads_cut HR.out k hEl
        go_wp2_with (at_builtin; go_must (refine wp_append_reads _ rfl _ _ rfl w.heap.size (.slice none 0 0) _ [] (l.take k) rfl rfl (owns_nil _ _) HRT.out (by simp; omega) (Nat.le_refl _) ?_); intro v1 w1 own1 b1; refine Hid.out ?_)
        refine Lib.hid ?_
        have HO1 : Hid (Owns w1 w.heap.size v1 (l.take k)) := own1
        have HB1 := Lib.hid b1
        have c1 : w1.cell? ⟨g, 1, none⟩ = some (.slice (some ⟨b, o, none⟩) l.length c) := by
          have := b1.cell (p := ⟨g, 1, none⟩) HG.out
          rw [this]; exact (two_cells HH.out.1).2.1
        have c2 : (w1.alloc (.cells #[] 5)).cell? ⟨g, 1, none⟩ = some (.slice (some ⟨b, o, none⟩) l.length c) := by
          have := (Below.alloc1 w1 (.cells #[] 5)).cell (p := ⟨g, 1, none⟩) (Nat.lt_of_lt_of_le HG.out b1.size)
          rw [this]; exact c1
        obtain ⟨A, hA⟩ : ∃ A, A = (if c = k + 1 then (some (⟨b, o, none⟩ : Addr)) else Option.map (fun x => x.add (k + 1)) (some (⟨b, o, none⟩ : Addr))) := ⟨_, rfl⟩
        have HRD : Hid (Reads w (.slice A (l.length - (k + 1)) (c - (k + 1))) (l.drop (k + 1))) := by rw [hA]; exact Reads.tail HR.out (by omega)
        have j4 : k + 1 ≤ l.length := by omega
        clear own1 b1 hcell
        by_cases hck : c = k + 1
        case' pos => rw [if_pos hck] at hA
        case' neg => rw [if_neg hck] at hA
        all_goals
          subst hA
          go_wp2_with (at_builtin; go_must (refine wp_append_reads _ rfl _ _ rfl w1.heap.size (.slice (some ⟨w1.heap.size, 0, none⟩) 0 0) _ [] (l.drop (k + 1)) rfl rfl (owns_new w1) (by have h := ((HRD.out.on HB1.out).on (Below.alloc1 w1 (.cells #[] 5))); first | exact h | (rw [show c - (k + 1) = 0 by omega] at h; exact h) | (rw [show c - (k + 1) = 0 by omega, show l.length - (k + 1) = 0 by omega] at h; exact h) | (simp only [Act.eval, Array.getD, List.getD]; trace_state; fail)) (by simp; omega) (Below.alloc1 w1 _).size ?_); intro v2 w2 own2 b2; refine Hid.out ?_)
          refine Lib.hid ?_
          have HO2 : Hid (Owns w2 w1.heap.size v2 (l.drop (k + 1))) := own2
          have HB12 : Hid (Below w1.heap.size w1 w2) := (Below.alloc1 w1 _).trans b2
          have HB2 : Hid (Below w.heap.size w w2) := HB1.out.trans (HB12.out.mono HB1.out.size)
          obtain ⟨n2, hn2⟩ : ∃ n2, n2 = (l.drop (k + 1)).length := ⟨_, rfl⟩
          obtain ⟨va, vc, hvf⟩ := HO2.out.reads.form
          rw [← hn2] at hvf
          subst hvf
          have HG2 : Hid (w2.heap[g]? = some (.cells #[.int .i64 most, .slice (some ⟨b, o, none⟩) l.length c] 50 (0, 0))) := by
            show _ = _
            rw [HB2.out.block g HG.out]; exact HH.out.1
          obtain ⟨d0, d1, e0, e1⟩ := two_cells HG2.out
          clear own2 b2 c1 c2 c0 f0 f1 hn2
          go_upto_region 9 with fail
          obtain ⟨w3, hw3⟩ : ∃ w3, w3 = w2.setCell ⟨g, 1, none⟩ (.slice va n2 vc) := ⟨_, rfl⟩
          rw [← hw3]
          have HNE : (Value.slice va n2 vc).ownBlock ≠ some g := fun e => by have := (HO2.out.ge g e).1; have := HB1.out.size; have := HG.out; omega
          have HRD3 : Hid (RdAt w3 g (.slice va n2 vc) most (l.drop (k + 1))) := by rw [hw3]; exact RdAt.put HG2.out (HO2.out.mono (Nat.zero_le _)) HNE
          have HK3 : Hid (KeepR g (.slice (some ⟨b, o, none⟩) l.length c) w w3) := by rw [hw3]; exact KeepR.set ⟨HB2.out.os, HB2.out.tape, HB2.out.output, HB2.out.size, fun i hi _ _ => HB2.out.block i hi⟩ 1 _
          have HX3 : Hid (Owns w3 w.heap.size v1 (l.take k)) := by
            rw [hw3]; exact (HO1.out.on HB12.out).keptB fun i hi hlt => (KeepX.set g w2 1 _).block i hlt (fun e => by have := (HO1.out.ge i hi).1; have := HG.out; omega)
          have HAP : Hid (∀ i, v1.ownBlock = some i → w.heap.size ≤ i ∧ (Value.slice va n2 vc).ownBlock ≠ some i) := fun i hi => ⟨(HO1.out.ge i hi).1, fun e => by have := (HO2.out.ge i e).1; have := (HO1.out.ge i hi).2; omega⟩
          have HSN : Hid (SameOrNew (.slice (some ⟨b, o, none⟩) l.length c) (.slice va n2 vc) w.heap.size) := Or.inr fun i hi => Nat.le_trans HB1.out.size (HO2.out.ge i hi).1
          have HFIN : Hid (∀ (y : List UInt8) (ends : Bool), bareOf (l.take k) = (y, ends) → ∀ (t : List UInt8) (code : Nat), tellOf most y ends = (t, code) → ∀ u', Reads w3 u' t → (∀ i, u'.ownBlock = some i → v1.ownBlock = some i) → NextEnd g vv most l w (.returned (.tuple #[u', .int .i64 (code : Int), .bool true])) w3) := by
            intro y ends hb t code ht u' hru hbl
            have hlt2 : endOf l < l.length := by rw [← HE.out]; exact hlt
            unfold NextEnd
            rw [if_pos hlt2, ← HE.out, lineTold, hb, ht, HVV.out]
            exact ⟨u', _, rfl, hru, fun i hi => HAP.out i (hbl i hi), HK3.out, HRD3.out, HSN.out⟩
          obtain ⟨m0, m1, _, _⟩ := two_cells HRD3.out.1
          clear hw3 d0 d1 e0 e1 HNE HG2 HR HN HT HRT HRD HO1 HO2 HB1 HB2 HB12 HH
          have htl : (l.take k).length = k := by simp; omega
          rcases Nat.eq_zero_or_pos k with hk0 | hk0
          · obtain ⟨A1, q1, hv1⟩ := HX3.out.reads.form
            rw [htl] at hv1
            subst hv1
            subst hk0
            obtain ⟨y, hy⟩ : ∃ y : List UInt8, y = [] := ⟨_, rfl⟩
            have HBO : Hid (bareOf (l.take 0) = (y, false)) := by rw [hy]; rfl
            have HYR : Hid (Reads w3 (.slice A1 0 q1) y) := by rw [hy]; exact HX3.out.reads
            have hyl : y.length = 0 := by rw [hy]; rfl
            clear hy
            have HH0 : Hid (Calls Try.prog 26 #[.slice A1 0 q1, .int .u8 0] w3 (fun e w' => e = .returned (.bool (hasB 0 y)) ∧ w3 = w')) := rHas HYR.out 0 (by omega)
            have HH13 : Hid (Calls Try.prog 26 #[.slice A1 0 q1, .int .u8 13] w3 (fun e w' => e = .returned (.bool (hasB 13 y)) ∧ w3 = w')) := rHas HYR.out 13 (by omega)
            obtain ⟨b0, hb0⟩ : ∃ b0, b0 = hasB 0 y := ⟨_, rfl⟩
            obtain ⟨b13, hb13⟩ : ∃ b13, b13 = hasB 13 y := ⟨_, rfl⟩
            rw [← hb0] at HH0
            rw [← hb13] at HH13
            have HTL : Hid (∀ (_ : ¬ most < y.length), tellOf most y false = if b0 = true then (y, 122) else if false = false ∨ b13 = true then (y, 121) else (y, 0)) := fun hm => by unfold tellOf; rw [if_neg hm, ← hb0, ← hb13]
            have HTP : Hid (∀ (_ : most < y.length), tellOf most y false = (y.take most, 120)) := fun hm => by unfold tellOf; rw [if_pos hm]
            clear hb0 hb13
            go_wp2_with (first | (go_at_call 26; refine HH0.out.mono ?_; rintro ee w4 ⟨rfl, rfl⟩; refine Hid.out ?_) | fail)
            refine Lib.hid ?_
            go_wp2_with (first | (go_at_call 26; refine HH13.out.mono ?_; rintro ee w4 ⟨rfl, rfl⟩; refine Hid.out ?_) | fail)
            refine Lib.hid ?_
            clear HH0 HH13
            by_cases hm : most < 0
            · omega
            · have hmi : ¬ (most : Int) < 0 := by omega
              have HT2 := Lib.hid (HTL.out (by omega))
              cases b0 <;> cases b13
              all_goals
                go_wp2
                go_ret3
                exact HFIN.out y false HBO.out y _ HT2.out _ HYR.out (fun i hi => hi)
          · obtain ⟨j, rfl⟩ : ∃ j, k = j + 1 := ⟨k - 1, by omega⟩
            obtain ⟨g1, q1, hv1, hq, _⟩ := HX3.out.form2 (by rw [htl]; omega)
            have hx : w3.cell? ⟨g1, j, none⟩ = some (.int .u8 (((l.take (j + 1)).getD j 0).toNat : Int)) := by
              have h := HX3.out
              rw [hv1] at h
              exact h.cell j (by rw [htl]; omega)
            rw [htl] at hv1 hq
            subst hv1
            obtain ⟨d, hd⟩ : ∃ d : Nat, d = ((l.take (j + 1)).getD j 0).toNat := ⟨_, rfl⟩
            rw [← hd] at hx
            have hdb : d ≤ 255 := by rw [hd]; have := ((l.take (j + 1)).getD j 0).toNat_lt; omega
            have HYF : Hid (Reads w3 (.slice (some ⟨g1, 0, none⟩) (j + 1) q1) (l.take (j + 1))) := HX3.out.reads
            have HBT : Hid (d = 13 → bareOf (l.take (j + 1)) = ((l.take (j + 1)).take j, true)) := fun h13 => by
              unfold bareOf
              rw [htl, Nat.add_sub_cancel, if_pos ⟨by omega, by omega⟩]
            have HBF : Hid (d ≠ 13 → bareOf (l.take (j + 1)) = (l.take (j + 1), false)) := fun h13 => by
              unfold bareOf
              rw [htl, Nat.add_sub_cancel, if_neg (fun x => h13 (by omega))]
            have jp : (0 : Int) < (j : Int) + 1 := by omega
            have jq : j ≤ q1 := by omega
            clear hd
            by_cases h13 : d = 13
            · obtain ⟨y, HBO, HYR, hyl⟩ : ∃ y : List UInt8, Hid (bareOf (l.take (j + 1)) = (y, true)) ∧ Hid (Reads w3 (.slice (some ⟨g1, 0, none⟩) j q1) y) ∧ y.length = j :=
                ⟨_, HBT.out h13, reads_cut HYF.out j (by omega), by simp; omega⟩
              subst h13
              have HH0 : Hid (Calls Try.prog 26 #[.slice (some ⟨g1, 0, none⟩) j q1, .int .u8 0] w3 (fun e w' => e = .returned (.bool (hasB 0 y)) ∧ w3 = w')) := rHas HYR.out 0 (by omega)
              have HH13 : Hid (Calls Try.prog 26 #[.slice (some ⟨g1, 0, none⟩) j q1, .int .u8 13] w3 (fun e w' => e = .returned (.bool (hasB 13 y)) ∧ w3 = w')) := rHas HYR.out 13 (by omega)
              obtain ⟨b0, hb0⟩ : ∃ b0, b0 = hasB 0 y := ⟨_, rfl⟩
              obtain ⟨b13, hb13⟩ : ∃ b13, b13 = hasB 13 y := ⟨_, rfl⟩
              rw [← hb0] at HH0
              rw [← hb13] at HH13
              have HTL : Hid (∀ (_ : ¬ most < y.length), tellOf most y true = if b0 = true then (y, 122) else if true = false ∨ b13 = true then (y, 121) else (y, 0)) := fun hm => by unfold tellOf; rw [if_neg hm, ← hb0, ← hb13]
              have HTP : Hid (∀ (_ : most < y.length), tellOf most y true = (y.take most, 120)) := fun hm => by unfold tellOf; rw [if_pos hm]
              clear hb0 hb13
              go_wp2_with (first | (go_at_call 26; refine HH0.out.mono ?_; rintro ee w4 ⟨rfl, rfl⟩; refine Hid.out ?_) | fail)
              refine Lib.hid ?_
              go_wp2_with (first | (go_at_call 26; refine HH13.out.mono ?_; rintro ee w4 ⟨rfl, rfl⟩; refine Hid.out ?_) | fail)
              refine Lib.hid ?_
              clear HH0 HH13
              by_cases hm : most < j
              · have hmi : (most : Int) < (j : Int) := by omega
                have hmq : most ≤ q1 := by omega
                have HRC : Hid (Reads w3 (.slice (some ⟨g1, 0, none⟩) most q1) (y.take most)) := reads_cut HYR.out most (by omega)
                go_wp2
                go_ret3
                exact HFIN.out y true HBO.out _ 120 (HTP.out (by omega)) _ HRC.out (fun i hi => hi)
              · have hmi : ¬ (most : Int) < (j : Int) := by omega
                have HT2 := Lib.hid (HTL.out (by omega))
                cases b0 <;> cases b13
                all_goals
                  go_wp2
                  go_ret3
                  exact HFIN.out y true HBO.out y _ HT2.out _ HYR.out (fun i hi => hi)
            · obtain ⟨y, HBO, HYR, hyl⟩ : ∃ y : List UInt8, Hid (bareOf (l.take (j + 1)) = (y, false)) ∧ Hid (Reads w3 (.slice (some ⟨g1, 0, none⟩) (j + 1) q1) y) ∧ y.length = j + 1 :=
                ⟨_, HBF.out h13, HYF.out, htl⟩
              have h13i : ¬ (d : Int) = 13 := by omega
              have HH0 : Hid (Calls Try.prog 26 #[.slice (some ⟨g1, 0, none⟩) (j + 1) q1, .int .u8 0] w3 (fun e w' => e = .returned (.bool (hasB 0 y)) ∧ w3 = w')) := rHas HYR.out 0 (by omega)
              have HH13 : Hid (Calls Try.prog 26 #[.slice (some ⟨g1, 0, none⟩) (j + 1) q1, .int .u8 13] w3 (fun e w' => e = .returned (.bool (hasB 13 y)) ∧ w3 = w')) := rHas HYR.out 13 (by omega)
              obtain ⟨b0, hb0⟩ : ∃ b0, b0 = hasB 0 y := ⟨_, rfl⟩
              obtain ⟨b13, hb13⟩ : ∃ b13, b13 = hasB 13 y := ⟨_, rfl⟩
              rw [← hb0] at HH0
              rw [← hb13] at HH13
              have HTL : Hid (∀ (_ : ¬ most < y.length), tellOf most y false = if b0 = true then (y, 122) else if false = false ∨ b13 = true then (y, 121) else (y, 0)) := fun hm => by unfold tellOf; rw [if_neg hm, ← hb0, ← hb13]
              have HTP : Hid (∀ (_ : most < y.length), tellOf most y false = (y.take most, 120)) := fun hm => by unfold tellOf; rw [if_pos hm]
              clear hb0 hb13
              go_wp2_with (first | (go_at_call 26; refine HH0.out.mono ?_; rintro ee w4 ⟨rfl, rfl⟩; refine Hid.out ?_) | fail)
              refine Lib.hid ?_
              go_wp2_with (first | (go_at_call 26; refine HH13.out.mono ?_; rintro ee w4 ⟨rfl, rfl⟩; refine Hid.out ?_) | fail)
              refine Lib.hid ?_
              clear HH0 HH13
              by_cases hm : most < j + 1
              · have hmi : (most : Int) < (j : Int) + 1 := by omega
                have hmq : most ≤ q1 := by omega
                have HRC : Hid (Reads w3 (.slice (some ⟨g1, 0, none⟩) most q1) (y.take most)) := reads_cut HYR.out most (by omega)
                go_wp2
                go_ret3
                exact HFIN.out y false HBO.out _ 120 (HTP.out (by omega)) _ HRC.out (fun i hi => hi)
              · have hmi : ¬ (most : Int) < (j : Int) + 1 := by omega
                have HT2 := Lib.hid (HTL.out (by omega))
                cases b0 <;> cases b13
                all_goals
                  go_wp2
                  go_ret3
                  exact HFIN.out y false HBO.out y _ HT2.out _ HYR.out (fun i hi => hi)
      · have j2 : ¬ (k : Int) < (l.length : Int) := by omega
        have j3 : (k : Int) = (l.length : Int) := by omega
        have HX : Hid (¬ endOf l < l.length) := by rw [← HE.out]; exact hlt
        obtain rfl : k = l.length := by omega
        clear j3
        go_wp2
        go_ret3
        unfold NextEnd
        rw [if_neg HX.out]
        exact ⟨rfl, rfl⟩
end Go.Proofs.Ytgiooblopdoobaa.Lines
