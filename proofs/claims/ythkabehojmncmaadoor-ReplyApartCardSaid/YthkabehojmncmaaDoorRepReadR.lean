/-
  REPLY, the given answers: Read. (Written by gen_repreadr.py.)
-/
import Derived.Test.YthkabehojmncmaaDoorRepReadP
namespace Go.Proofs.YthkabehojmncmaaDoor.Reply
open Go.RowKit Base
/-- The search for a byte 10 goes on. -/
def Find (r : List UInt8) (j : Nat) : Prop := firstT r 512 = (firstT (r.drop j) (512 - j)).map (· + j)
theorem find_zero (r : List UInt8) : Find r 0 := by
  unfold Find
  rw [List.drop_zero, show 512 - 0 = 512 from rfl]
  cases firstT r 512 with
  | none => rfl
  | some x => rfl
theorem find_next {r : List UInt8} {j : Nat} (h : Find r j) (hj : j < 512) (hl : j < r.length) (hc : ¬ (r.getD j 0).toNat = 10) : Find r (j + 1) := by
  unfold Find at h ⊢
  rw [h, drop_cons hl, show 512 - j = (512 - (j + 1)) + 1 by omega, firstT, if_neg hc]
  cases firstT (r.drop (j + 1)) (512 - (j + 1)) with
  | none => rfl
  | some x => simp; omega
theorem find_at {r : List UInt8} {j : Nat} (h : Find r j) (hj : j < 512) (hl : j < r.length) (hc : (r.getD j 0).toNat = 10) : firstT r 512 = some j := by
  unfold Find at h
  rw [h, drop_cons hl, show 512 - j = (512 - (j + 1)) + 1 by omega, firstT, if_pos hc]
  simp
theorem find_end {r : List UInt8} {j : Nat} (h : Find r j) (hl : r.length ≤ j ∨ 512 ≤ j) : firstT r 512 = none := by
  unfold Find at h
  rw [h]
  rcases hl with hl | hl
  · rw [List.drop_eq_nil_of_le hl]
    cases 512 - j <;> rfl
  · rw [show 512 - j = 0 by omega]
    cases r.drop j <;> rfl
set_option maxHeartbeats 16000000 in
set_option maxRecDepth 100000 in
theorem rRead (v : Value) (b : List UInt8) (w : World) (hr : Reads w v b) (hl : b.length ≤ 8000000000000000000) : Calls Tryd.prog 15 #[v] w (ReadEnd (readR b) w) := by
  have hold := old_of hr
  obtain ⟨A, cc, rfl⟩ := hr.form
  obtain ⟨fin, hfin⟩ : ∃ fin, fin = readR b := ⟨_, rfl⟩
  have HF0 : Hid (readK 51 (b.drop 0) 0 0 [] = fin) := hfin.symm
  rw [← hfin]
  clear hfin
  obtain ⟨N, hN⟩ : ∃ N, N = b.length := ⟨_, rfl⟩
  have HN := Lib.hid hN
  rw [← hN] at hr hl hold ⊢
  clear hN
  obtain ⟨w1, hw1⟩ : ∃ w1, w1 = w.alloc (.cells #[.int .i64 0, .slice none 0 0] 24) := ⟨_, rfl⟩
  obtain ⟨wB, hwB⟩ : ∃ wB, wB = w1.alloc (.cells #[.int .i64 0, .slice none 0 0] 24) := ⟨_, rfl⟩
  have hs1 : w1.heap.size = w.heap.size + 1 := by rw [hw1]; exact Array.size_push _
  have hsz : wB.heap.size = w.heap.size + 2 := by rw [hwB]; show (w1.heap.push _).size = _; rw [Array.size_push, hs1]
  have hb1 : Below w.heap.size w w1 := by rw [hw1]; exact Below.alloc1 w _
  have hb2 : Below w1.heap.size w1 wB := by rw [hwB]; exact Below.alloc1 w1 _
  have HBB : Hid (Below w.heap.size w wB) := hb1.trans (hb2.mono hb1.size)
  have hz2 : w1.heap[w.heap.size]? = some (.cells #[.int .i64 0, .slice none 0 0] 24 (0, 0)) := by rw [hw1]; exact heap_alloc_new w _
  have HZ2 : Hid (wB.heap[w.heap.size]? = some (.cells #[.int .i64 0, .slice none 0 0] 24 (0, 0))) := (hb2.block _ (by omega)).trans hz2
  have HZ5 : Hid (wB.heap[w.heap.size + 1]? = some (.cells #[.int .i64 0, .slice none 0 0] 24 (0, 0))) := by show _ = _; rw [← hs1, hwB]; exact heap_alloc_new w1 _
  have HS0 : Hid (RdSt wB (w.heap.size + 1) wB 0 (.slice none 0 0) []) := ⟨by omega, KeepX.refl _ _, World.ownsRow_nil _ _ _ _, HZ5.out⟩
  have HR0 : Hid (Reads wB (.slice A N cc) b) := hr.on HBB.out
  have HOLD := Lib.hid hold
  rw [hw1] at hwB
  have HWB := Lib.hid hwB
  have HSZ := Lib.hid hsz
  clear hr hold hwB hsz hs1 hb1 hb2 hz2 hw1 w1
  obtain ⟨g, hg⟩ : ∃ g, g = w.heap.size + 1 := ⟨_, rfl⟩
  rw [← hg] at HS0 HZ5
  go_enter Tryd.func15, Tryd.ntmps15
  go_wp2
  rw [← HWB.out, ← hg]
  have HG := Lib.hid hg
  clear hg HWB
  go_loopw [6, 7, 8, 9, 10, 11, 12] (fun sv _ _ _ _ _ _ wr => ∃ (at_ c : Nat) (lv : Value) (ls : List (List UInt8)), sv = .int .i64 (at_ : Int) ∧ at_ ≤ N ∧ ls.length ≤ 50 ∧ Hid (at_ = 0 ↔ ls = []) ∧ Hid (RdSt wB g wr c lv ls) ∧ Hid (readK (51 - ls.length) (b.drop at_) at_ c ls = fin)) (fun sv _ _ _ _ _ _ _ => N - (intOf sv).toNat)
  case atStart => exact ⟨0, 0, _, [], rfl, by omega, by simp, ⟨fun _ => rfl, fun _ => rfl⟩, HS0, HF0⟩
  case round =>
    obtain ⟨at_, c, lv, ls, rfl, hat, h50, HZR, HST, HF⟩ := hrel
    have i0 : (0 : Int) ≤ (at_ : Int) := by omega
    have i1 : (at_ : Int) ≤ (N : Int) := by omega
    have hgB := HST.out.lt
    have HR1 : Hid (Reads wr (.slice A N cc) b) := HR0.out.keptX HST.out.keep HOLD.out (by have := HG.out; omega) hgB
    have hrl : (b.drop at_).length = N - at_ := by rw [List.length_drop, ← HN.out]
    have HLT2 : Hid (w.heap.size < wB.heap.size) := by have := HG.out; show _ < _; omega
    have HRL := Lib.hid hrl
    have HGB := Lib.hid hgB
    clear hrl
    go_upto_block 2 with fail
    go_cut [7] (fun ev wx => wr = wx ∧ Hid ((ev = .int .i64 (-1) ∧ firstT (b.drop at_) 512 = none) ∨ ∃ j, ev = .int .i64 ((at_ + j + 1 : Nat) : Int) ∧ firstT (b.drop at_) 512 = some j))
    case first =>
      go_wp2
      go_loop [7, 8] (fun ev iv => ∃ i : Nat, iv = .int .i64 (i : Int) ∧ i ≤ N ∧ ((ev = .int .i64 (-1) ∧ Hid (∃ j, i = at_ + j ∧ j ≤ 512 ∧ Find (b.drop at_) j)) ∨ (ev = .int .i64 (i : Int) ∧ Hid (∃ j, i = at_ + j + 1 ∧ firstT (b.drop at_) 512 = some j)))) (fun _ iv => N - (intOf iv).toNat)
      case atStart => exact ⟨at_, rfl, hat, Or.inl ⟨rfl, 0, by omega, by omega, find_zero _⟩⟩
      case round =>
        obtain ⟨i, rfl, hiN, hcase⟩ := hrel
        have k0 : (0 : Int) ≤ (i : Int) := by omega
        rcases hcase with ⟨rfl, hj⟩ | ⟨rfl, hj⟩
        · by_cases hi : i < N
          · have k1 : (i : Int) < (N : Int) := by omega
            by_cases h5 : i < at_ + 512
            · have k2 : (i : Int) < (at_ : Int) + 512 := by omega
              rcases HR1.out with ⟨h0, _⟩ | ⟨bb, o, c', he, hcap, hc⟩
              · rw [h0] at HN; have := HN.out; simp at this; omega
              cases he
              have hcell := hc i (by rw [← HN.out]; exact hi)
              have hbb := (b.getD i 0).toNat_lt
              have HGD : Hid (∀ j, i = at_ + j → (b.drop at_).getD j 0 = b.getD i 0) := fun j h => by rw [h]; simp [List.getD, List.getElem?_drop]
              by_cases h10 : (b.getD i 0).toNat = 10
              · have HNX : Hid (∃ j, i + 1 = at_ + j + 1 ∧ firstT (b.drop at_) 512 = some j) := by
                  obtain ⟨j, hj1, hj2, hj3⟩ := hj.out
                  exact ⟨j, by omega, find_at hj3 (by omega) (by rw [HRL.out]; omega) (by rw [HGD.out j hj1]; exact h10)⟩
                have e10 : (((b.getD i 0).toNat : Int) == 10) = true := by rw [beq_iff_eq]; omega
                generalize (b.getD i 0).toNat = x at hcell e10 hbb
                clear hj h10 hc HGD
                go_wp2
                go_round
                case rel => exact ⟨i + 1, by go_num, by omega, Or.inr ⟨by go_num, HNX⟩⟩
                case measure => simp [intOf]; omega
              · have HNX : Hid (∃ j, i + 1 = at_ + j ∧ j ≤ 512 ∧ Find (b.drop at_) j) := by
                  obtain ⟨j, hj1, hj2, hj3⟩ := hj.out
                  exact ⟨j + 1, by omega, by omega, find_next hj3 (by omega) (by rw [HRL.out]; omega) (by rw [HGD.out j hj1]; exact h10)⟩
                have e10 : (((b.getD i 0).toNat : Int) == 10) = false := by rw [beq_eq_false_iff_ne]; omega
                generalize (b.getD i 0).toNat = x at hcell e10 hbb
                clear hj h10 hc HGD
                go_wp2
                go_round
                case rel => exact ⟨i + 1, by go_num, by omega, Or.inl ⟨rfl, HNX⟩⟩
                case measure => simp [intOf]; omega
            · have k2 : ¬ (i : Int) < (at_ : Int) + 512 := by omega
              have HX : Hid (firstT (b.drop at_) 512 = none) := by
                obtain ⟨j, hj1, hj2, hj3⟩ := hj.out
                exact find_end hj3 (Or.inr (by omega))
              clear hj
              go_wp2
              go_meet
              exact ⟨rfl, Or.inl ⟨rfl, HX.out⟩⟩
          · have k1 : ¬ (i : Int) < (N : Int) := by omega
            have HX : Hid (firstT (b.drop at_) 512 = none) := by
              obtain ⟨j, hj1, hj2, hj3⟩ := hj.out
              exact find_end hj3 (Or.inl (by rw [HRL.out]; omega))
            clear hj
            go_wp2
            go_meet
            exact ⟨rfl, Or.inl ⟨rfl, HX.out⟩⟩
        · have HX : Hid ((Value.int .i64 (i : Int) = .int .i64 (-1) ∧ firstT (b.drop at_) 512 = none) ∨ ∃ j, Value.int .i64 (i : Int) = .int .i64 ((at_ + j + 1 : Nat) : Int) ∧ firstT (b.drop at_) 512 = some j) := by
            obtain ⟨j, hj1, hj2⟩ := hj.out
            exact Or.inr ⟨j, by rw [hj1], hj2⟩
          clear hj
          have k3 : ¬ (i : Int) < 0 := by omega
          by_cases hi : (i : Int) < (N : Int)
          · by_cases h5 : (i : Int) < (at_ : Int) + 512
            · go_wp2
              go_meet
              exact ⟨rfl, HX⟩
            · go_wp2
              go_meet
              exact ⟨rfl, HX⟩
          · go_wp2
            go_meet
            exact ⟨rfl, HX⟩
    case rest =>
      obtain ⟨rfl, hc⟩ := hcut
      have hfu : 51 - ls.length = (50 - ls.length) + 1 := by omega
      rw [hfu] at HF
      rcases hc.out with ⟨rfl, hft⟩ | ⟨i, hev, hft⟩
      · have hff := HF.out
        rw [step_none hft, HRL.out] at hff
        clear hft hfu HF HR1 hc
        by_cases h512 : 512 ≤ N - at_
        · rw [if_pos h512] at hff
          have HE := Lib.hid hff
          have q512 : (512 : Int) ≤ (N : Int) - (at_ : Int) := by omega
          clear hff h512
          have hz := (HST.out.keep.block _ HLT2.out (by have := HG.out; omega)).trans HZ2.out
          obtain ⟨y0, y1, z0, z1⟩ := two_cells hz
          obtain ⟨rc0, rc1⟩ := res_box hz (.int .i64 0) (.slice none 0 0)
          have hbl := (res_end HST.out HBB.out (by have := HG.out; omega) (Nat.le_refl _) HLT2.out (.int .i64 0) (.slice none 0 0)).1
          clear hz
          go_wp2
          refine bodyPost_ret (v := .tuple #[.agg #[.int .i64 0, .slice none 0 0], .int .i64 0, .int .i64 142]) (by simp [results, Tryd.results15, go_sem, rc0, rc1]) rfl (by rw [← HE.out]; exact read_err hbl)
        · rw [if_neg h512] at hff
          have HE := Lib.hid hff
          have q512 : ¬ (512 : Int) ≤ (N : Int) - (at_ : Int) := by omega
          clear hff h512
          have hz := (HST.out.keep.block _ HLT2.out (by have := HG.out; omega)).trans HZ2.out
          obtain ⟨y0, y1, z0, z1⟩ := two_cells hz
          obtain ⟨rc0, rc1⟩ := res_box hz (.int .i64 0) (.slice none 0 0)
          have hbl := (res_end HST.out HBB.out (by have := HG.out; omega) (Nat.le_refl _) HLT2.out (.int .i64 0) (.slice none 0 0)).1
          clear hz
          go_wp2
          refine bodyPost_ret (v := .tuple #[.agg #[.int .i64 0, .slice none 0 0], .int .i64 0, .int .i64 140]) (by simp [results, Tryd.results15, go_sem, rc0, rc1]) rfl (by rw [← HE.out]; exact read_err hbl)
      · have hi := firstT_lt hft
        obtain ⟨E, hE⟩ : ∃ E, E = at_ + i + 1 := ⟨_, rfl⟩
        rw [← hE] at hev
        subst hev
        have hEN : E ≤ N := by have := HRL.out; omega
        have HEE := Lib.hid hE
        have hnc := (reads_len HR1.out).2
        have qa : (cc = at_) = False := eq_false (by omega)
        have HFT := Lib.hid hft
        have HFS : Hid (readK ((50 - ls.length) + 1) (b.drop at_) at_ c ls = fin) := HF.out
        have hRT : Reads wr (.slice (Option.map (fun x => x.add at_) A) (N - at_) (cc - at_)) (b.drop at_) := by
          have := tail_reads HR1.out HN.out hat
          rw [if_neg (by omega)] at this
          exact this
        have hRL : Reads wr (.slice (Option.map (fun x => x.add at_) A) (E - at_) (cc - at_)) ((b.drop at_).take (i + 1)) := by
          rw [show E - at_ = i + 1 by omega]
          exact reads_take hRT (by rw [HRL.out]; omega)
        have HLC0 := Lib.hid (rLine _ _ wr hRL (by rw [List.length_take]; omega))
        have e0 : (0 : Int) ≤ (E : Int) := by omega
        have e1 : (at_ : Int) ≤ (E : Int) := by omega
        have e2 : (E : Int) ≤ (cc : Int) := by omega
        have e3 : E ≤ cc := by omega
        have e4 : ¬ (E : Int) < 0 := by omega
        obtain ⟨la, lc, rfl, hlc⟩ := HST.out.own.form
        have HZ1 : Hid (at_ = 0 → ls = []) := HZR.out.1
        have HZ3 : Hid (ls = [] → at_ = 0) := HZR.out.2
        clear hft hfu HF HR1 hc hRT hRL hE
        cases hlr : lineR ((b.drop at_).take (i + 1)) with
        | none =>
          have HE : Hid ((0, [], 0, 141) = fin) := by
            have e := HFS.out
            rw [step_bad HFT.out hlr] at e
            exact e
          have HLC : Hid (Calls Tryd.prog 30 #[.slice (Option.map (fun x => x.add at_) A) (E - at_) (cc - at_)] wr fun e w' => e = .returned (.tuple #[.int .i64 0, .bool false, .string ⟨#[]⟩, .bool false]) ∧ Below wr.heap.size wr w') := by rw [hlr] at HLC0; exact HLC0
          clear hlr HFS HFT HLC0 hi HZR HZ1 HZ3
          go_wp2_with (first | (go_at_call 30; refine HLC.out.mono ?_; rintro ee w3 ⟨rfl, hb⟩; refine Hid.out ?_) | fail)
          refine Lib.hid ?_
          have HST3 := Lib.hid (HST.out.on hb)
          clear hb
          obtain ⟨b0, b1, b2, b3⟩ := HST3.out.cells
          have hz := (HST3.out.keep.block _ HLT2.out (by have := HG.out; omega)).trans HZ2.out
          obtain ⟨y0, y1, z0, z1⟩ := two_cells hz
          obtain ⟨rc0, rc1⟩ := res_box hz (.int .i64 0) (.slice none 0 0)
          have hbl := (res_end HST3.out HBB.out (by have := HG.out; omega) (Nat.le_refl _) HLT2.out (.int .i64 0) (.slice none 0 0)).1
          clear hz
          go_wp2
          refine bodyPost_ret (v := .tuple #[.agg #[.int .i64 0, .slice none 0 0], .int .i64 0, .int .i64 141]) (by simp [results, Tryd.results15, go_sem, rc0, rc1]) rfl (by rw [← HE.out]; exact read_err hbl)
        | some p =>
          obtain ⟨k, more, t⟩ := p
          have HLR := Lib.hid hlr
          have HLC : Hid (Calls Tryd.prog 30 #[.slice (Option.map (fun x => x.add at_) A) (E - at_) (cc - at_)] wr fun e w' => e = .returned (.tuple #[.int .i64 (k : Int), .bool more, S t, .bool true]) ∧ Below wr.heap.size wr w') := by rw [hlr] at HLC0; exact HLC0
          clear hlr HLC0 hi HZR
          go_wp2_with (first | (go_at_call 30; refine HLC.out.mono ?_; rintro ee w3 ⟨rfl, hb⟩; refine Hid.out ?_) | fail)
          refine Lib.hid ?_
          have HST3 := Lib.hid (HST.out.on hb)
          clear hb
          obtain ⟨b0, b1, b2, b3⟩ := HST3.out.cells
          by_cases hz0 : at_ = 0
          · have hnil := HZ1.out hz0
            have HKC : Hid (ls = [] ∨ k = c) := Or.inl hnil
            have qn : ¬ (0 : Int) < (at_ : Int) := by omega
            have hne50 : ls.length ≠ 50 := by rw [hnil]; decide
            clear hnil hz0
            have q50 : ((ls.length : Int) == 50) = false := by rw [beq_eq_false_iff_ne]; omega
            go_upto_region 19 with fail
            obtain ⟨w4, hw4⟩ : ∃ w4, w4 = w3.setCell ⟨g, 0, none⟩ (.int .i64 (k : Int)) := ⟨_, rfl⟩
            rw [← hw4]
            have HST4 : Hid (RdSt wB g w4 k (.slice la ls.length lc) ls) := by rw [hw4]; exact HST3.out.setCode k
            clear hw4 b0 b1 b2 b3
            obtain ⟨b0, b1, b2, b3⟩ := HST4.out.cells
            go_wp2_with (at_builtin; go_must (refine wp_addW rfl _ _ rfl HST4.out.own (by omega) HST4.out.keep.size ⟨t.toArray⟩ rfl rfl ?_); intro v5 w5 own5 b5 oth5; refine Hid.out ?_)
            refine Lib.hid ?_
            obtain ⟨a5, c5, hv5, hc5⟩ := OwnsS.form (ls := ls ++ [t]) own5
            rw [show (ls ++ [t]).length = ls.length + 1 by simp] at hv5
            subst hv5
            have HO5 : Hid (OwnsS w5 wB.heap.size (.slice a5 (ls.length + 1) c5) (ls ++ [t])) := own5
            clear hc5
            have HB5 := Lib.hid b5
            have hbx5 : BoxR w5 g (k : Int) (.slice la ls.length lc) := by unfold BoxR; rw [b5.block g hgB]; exact HST4.out.box
            obtain ⟨a0, a1, a2, a3⟩ := two_cells hbx5
            clear own5 b5 oth5 hbx5 b0 b1 b2 b3
            go_upto_region 20 with fail
            obtain ⟨w6, hw6⟩ : ∃ w6, w6 = w5.setCell ⟨g, 1, none⟩ (.slice a5 (ls.length + 1) c5) := ⟨_, rfl⟩
            rw [← hw6]
            have HST6 : Hid (RdSt wB g w6 k (.slice a5 (ls.length + 1) c5) (ls ++ [t])) := by rw [hw6]; exact HST4.out.setLines HB5.out HO5.out
            clear hw6 a0 a1 a2 a3
            obtain ⟨b0, b1, b2, b3⟩ := HST6.out.cells
            cases more with
            | true =>
              have HN2 : Hid (readK (51 - (ls ++ [t]).length) (b.drop E) E k (ls ++ [t]) = fin) := by
                have e := HFS.out
                rw [step_more HFT.out HLR.out HKC.out hne50, List.drop_drop, ← Nat.add_assoc, ← HEE.out] at e
                rw [show 51 - (ls ++ [t]).length = 50 - ls.length by rw [List.length_append, List.length_singleton]; omega]
                exact e
              have hl50 : (ls ++ [t]).length ≤ 50 := by rw [List.length_append, List.length_singleton]; omega
              go_wp2
              go_roundw
              case rel => exact ⟨E, k, _, ls ++ [t], by first | rfl | go_num, hEN, hl50, ⟨fun h => by have := HEE.out; omega, fun h => by simp at h⟩, HST6, HN2⟩
              case measure => have := HEE.out; simp [intOf]; omega
            | false =>
              have HE : Hid ((k, ls ++ [t], E, 0) = fin) := by
                have e := HFS.out
                rw [step_last HFT.out HLR.out HKC.out hne50, ← HEE.out] at e
                exact e
              have hz := (HST6.out.keep.block _ HLT2.out (by have := HG.out; omega)).trans HZ2.out
              obtain ⟨y0, y1, z0, z1⟩ := two_cells hz
              obtain ⟨rc0, rc1⟩ := res_box hz (.int .i64 (k : Int)) (.slice a5 (ls.length + 1) c5)
              have hbl := res_end HST6.out HBB.out (by have := HG.out; omega) (Nat.le_refl _) HLT2.out (.int .i64 (k : Int)) (.slice a5 (ls.length + 1) c5)
              clear hz
              go_wp2
              refine bodyPost_ret (v := .tuple #[.agg #[.int .i64 (k : Int), .slice a5 (ls.length + 1) c5], .int .i64 (E : Int), .int .i64 0]) (by simp [results, Tryd.results15, go_sem, rc0, rc1]) rfl (by rw [← HE.out]; exact ⟨_, rfl, hbl.2, hbl.1⟩)
          · have qn : (0 : Int) < (at_ : Int) := by omega
            have hnil : ls ≠ [] := fun h => hz0 (HZ3.out h)
            clear hz0
            by_cases hkc : k = c
            · have HKC : Hid (ls = [] ∨ k = c) := Or.inr hkc
              have qk : ((k : Int) != (c : Int)) = false := by rw [bne_eq_false_iff_eq]; omega
              clear hnil hkc
              by_cases he50 : ls.length = 50
              · have q50 : ((ls.length : Int) == 50) = true := by rw [beq_iff_eq]; omega
                have HE : Hid ((0, [], 0, 142) = fin) := by
                  have e := HFS.out
                  rw [step_many HFT.out HLR.out HKC.out he50] at e
                  exact e
                clear he50
                have hz := (HST3.out.keep.block _ HLT2.out (by have := HG.out; omega)).trans HZ2.out
                obtain ⟨y0, y1, z0, z1⟩ := two_cells hz
                obtain ⟨rc0, rc1⟩ := res_box hz (.int .i64 0) (.slice none 0 0)
                have hbl := (res_end HST3.out HBB.out (by have := HG.out; omega) (Nat.le_refl _) HLT2.out (.int .i64 0) (.slice none 0 0)).1
                clear hz
                go_wp2
                refine bodyPost_ret (v := .tuple #[.agg #[.int .i64 0, .slice none 0 0], .int .i64 0, .int .i64 142]) (by simp [results, Tryd.results15, go_sem, rc0, rc1]) rfl (by rw [← HE.out]; exact read_err hbl)
              · have hne50 : ls.length ≠ 50 := he50
                clear he50
                have q50 : ((ls.length : Int) == 50) = false := by rw [beq_eq_false_iff_ne]; omega
                go_upto_region 19 with fail
                obtain ⟨w4, hw4⟩ : ∃ w4, w4 = w3.setCell ⟨g, 0, none⟩ (.int .i64 (k : Int)) := ⟨_, rfl⟩
                rw [← hw4]
                have HST4 : Hid (RdSt wB g w4 k (.slice la ls.length lc) ls) := by rw [hw4]; exact HST3.out.setCode k
                clear hw4 b0 b1 b2 b3
                obtain ⟨b0, b1, b2, b3⟩ := HST4.out.cells
                go_wp2_with (at_builtin; go_must (refine wp_addW rfl _ _ rfl HST4.out.own (by omega) HST4.out.keep.size ⟨t.toArray⟩ rfl rfl ?_); intro v5 w5 own5 b5 oth5; refine Hid.out ?_)
                refine Lib.hid ?_
                obtain ⟨a5, c5, hv5, hc5⟩ := OwnsS.form (ls := ls ++ [t]) own5
                rw [show (ls ++ [t]).length = ls.length + 1 by simp] at hv5
                subst hv5
                have HO5 : Hid (OwnsS w5 wB.heap.size (.slice a5 (ls.length + 1) c5) (ls ++ [t])) := own5
                clear hc5
                have HB5 := Lib.hid b5
                have hbx5 : BoxR w5 g (k : Int) (.slice la ls.length lc) := by unfold BoxR; rw [b5.block g hgB]; exact HST4.out.box
                obtain ⟨a0, a1, a2, a3⟩ := two_cells hbx5
                clear own5 b5 oth5 hbx5 b0 b1 b2 b3
                go_upto_region 20 with fail
                obtain ⟨w6, hw6⟩ : ∃ w6, w6 = w5.setCell ⟨g, 1, none⟩ (.slice a5 (ls.length + 1) c5) := ⟨_, rfl⟩
                rw [← hw6]
                have HST6 : Hid (RdSt wB g w6 k (.slice a5 (ls.length + 1) c5) (ls ++ [t])) := by rw [hw6]; exact HST4.out.setLines HB5.out HO5.out
                clear hw6 a0 a1 a2 a3
                obtain ⟨b0, b1, b2, b3⟩ := HST6.out.cells
                cases more with
                | true =>
                  have HN2 : Hid (readK (51 - (ls ++ [t]).length) (b.drop E) E k (ls ++ [t]) = fin) := by
                    have e := HFS.out
                    rw [step_more HFT.out HLR.out HKC.out hne50, List.drop_drop, ← Nat.add_assoc, ← HEE.out] at e
                    rw [show 51 - (ls ++ [t]).length = 50 - ls.length by rw [List.length_append, List.length_singleton]; omega]
                    exact e
                  have hl50 : (ls ++ [t]).length ≤ 50 := by rw [List.length_append, List.length_singleton]; omega
                  go_wp2
                  go_roundw
                  case rel => exact ⟨E, k, _, ls ++ [t], by first | rfl | go_num, hEN, hl50, ⟨fun h => by have := HEE.out; omega, fun h => by simp at h⟩, HST6, HN2⟩
                  case measure => have := HEE.out; simp [intOf]; omega
                | false =>
                  have HE : Hid ((k, ls ++ [t], E, 0) = fin) := by
                    have e := HFS.out
                    rw [step_last HFT.out HLR.out HKC.out hne50, ← HEE.out] at e
                    exact e
                  have hz := (HST6.out.keep.block _ HLT2.out (by have := HG.out; omega)).trans HZ2.out
                  obtain ⟨y0, y1, z0, z1⟩ := two_cells hz
                  obtain ⟨rc0, rc1⟩ := res_box hz (.int .i64 (k : Int)) (.slice a5 (ls.length + 1) c5)
                  have hbl := res_end HST6.out HBB.out (by have := HG.out; omega) (Nat.le_refl _) HLT2.out (.int .i64 (k : Int)) (.slice a5 (ls.length + 1) c5)
                  clear hz
                  go_wp2
                  refine bodyPost_ret (v := .tuple #[.agg #[.int .i64 (k : Int), .slice a5 (ls.length + 1) c5], .int .i64 (E : Int), .int .i64 0]) (by simp [results, Tryd.results15, go_sem, rc0, rc1]) rfl (by rw [← HE.out]; exact ⟨_, rfl, hbl.2, hbl.1⟩)
            · have qk : ((k : Int) != (c : Int)) = true := by rw [bne_iff_ne]; omega
              have HE : Hid ((0, [], 0, 141) = fin) := by
                have e := HFS.out
                rw [step_other HFT.out HLR.out hnil hkc] at e
                exact e
              clear hnil hkc
              have hz := (HST3.out.keep.block _ HLT2.out (by have := HG.out; omega)).trans HZ2.out
              obtain ⟨y0, y1, z0, z1⟩ := two_cells hz
              obtain ⟨rc0, rc1⟩ := res_box hz (.int .i64 0) (.slice none 0 0)
              have hbl := (res_end HST3.out HBB.out (by have := HG.out; omega) (Nat.le_refl _) HLT2.out (.int .i64 0) (.slice none 0 0)).1
              clear hz
              go_wp2
              refine bodyPost_ret (v := .tuple #[.agg #[.int .i64 0, .slice none 0 0], .int .i64 0, .int .i64 141]) (by simp [results, Tryd.results15, go_sem, rc0, rc1]) rfl (by rw [← HE.out]; exact read_err hbl)
end Go.Proofs.YthkabehojmncmaaDoor.Reply
