/-
  REPLY, the program: Read.
-/
import Derived.Test.YthkabehojmncmaaDoorRepRdS
import Derived.Test.YthkabehojmncmaaDoorRepRdLn
import Derived.Deep.CutBlock
import Derived.Deep.DeepCutAuto
namespace Go.Proofs.YthkabehojmncmaaDoor.Reply
open Go.RowKit Base
theorem tail_reads {w : World} {A : Option Addr} {N cc at_ : Nat} {b : List UInt8} (h : Reads w (.slice A N cc) b) (hN : N = b.length) (hle : at_ ≤ N) :
    Reads w (.slice (if cc = at_ then A else Option.map (fun x => x.add at_) A) (N - at_) (cc - at_)) (b.drop at_) := by
  subst hN
  exact h.tail hle
/-- The result's box, written. -/
theorem res_box {w : World} {g : Nat} {x y : Value} (h : w.heap[g]? = some (.cells #[x, y] 24 (0, 0))) (a b : Value) : ((w.setCell ⟨g, 0, none⟩ a).setCell ⟨g, 1, none⟩ b).cell? ⟨g, 0, none⟩ = some a ∧ ((w.setCell ⟨g, 0, none⟩ a).setCell ⟨g, 1, none⟩ b).cell? ⟨g, 1, none⟩ = some b := by
  have := two_cells (set_two h a b)
  exact ⟨this.1, this.2.1⟩
/-- What was read, and stored as the result. -/
theorem res_end {w wB wr : World} {g2 g c : Nat} {lv : Value} {ls : List (List UInt8)} (h : RdSt wB g wr c lv ls) (hb : Below w.heap.size w wB) (hg : w.heap.size ≤ g) (hg2 : w.heap.size ≤ g2) (hlt : g2 < wB.heap.size) (a b : Value) :
    Below w.heap.size w ((wr.setCell ⟨g2, 0, none⟩ a).setCell ⟨g2, 1, none⟩ b) ∧ VReads ((wr.setCell ⟨g2, 0, none⟩ a).setCell ⟨g2, 1, none⟩ b) lv (ls.map S) := by
  refine ⟨((h.below hb hg).setCell (p := ⟨g2, 0, none⟩) hg2 _).setCell (p := ⟨g2, 1, none⟩) hg2 _, VReads.of_row (own_kept h.own fun k hk hk2 => ?_)⟩
  have k1 := (KeepX.set g2 wr 0 a).block k hk2 (by omega)
  have k2 := (KeepX.set g2 (wr.setCell ⟨g2, 0, none⟩ a) 1 b).block k (Nat.lt_of_lt_of_le hk2 (KeepX.set g2 wr 0 a).size) (by omega)
  exact k2.trans k1
set_option maxHeartbeats 16000000 in
set_option maxRecDepth 100000 in
theorem pRead (v : Value) (b : List UInt8) (w : World) (hr : Reads w v b) (hl : b.length ≤ 8000000000000000000) : Calls Tryd.prog 14 #[v] w (ReadEnd (readR b) w) := by
  have hold := old_of hr
  obtain ⟨A, cc, rfl⟩ := hr.form
  obtain ⟨fin, hfin⟩ : ∃ fin, fin = readR b := ⟨_, rfl⟩
  have HF0 : Hid (readK 51 (b.drop 0) 0 0 [] = fin) := hfin.symm
  rw [← hfin]
  clear hfin
  obtain ⟨N, hN⟩ : ∃ N, N = b.length := ⟨_, rfl⟩
  have HN := Lib.hid hN
  rw [← hN] at hr hl hold ⊢
  clear hN
  obtain ⟨w1, hw1⟩ : ∃ w1, w1 = w.alloc (.cells #[.int .i64 0, .slice none 0 0] 24) := ⟨_, rfl⟩
  obtain ⟨wB, hwB⟩ : ∃ wB, wB = w1.alloc (.cells #[.int .i64 0, .slice none 0 0] 24) := ⟨_, rfl⟩
  have hs1 : w1.heap.size = w.heap.size + 1 := by rw [hw1]; exact Array.size_push _
  have hsz : wB.heap.size = w.heap.size + 2 := by rw [hwB]; show (w1.heap.push _).size = _; rw [Array.size_push, hs1]
  have hb1 : Below w.heap.size w w1 := by rw [hw1]; exact Below.alloc1 w _
  have hb2 : Below w1.heap.size w1 wB := by rw [hwB]; exact Below.alloc1 w1 _
  have HBB : Hid (Below w.heap.size w wB) := hb1.trans (hb2.mono hb1.size)
  have hz2 : w1.heap[w.heap.size]? = some (.cells #[.int .i64 0, .slice none 0 0] 24 (0, 0)) := by rw [hw1]; exact heap_alloc_new w _
  have HZ2 : Hid (wB.heap[w.heap.size]? = some (.cells #[.int .i64 0, .slice none 0 0] 24 (0, 0))) := (hb2.block _ (by omega)).trans hz2
  have HZ5 : Hid (wB.heap[w.heap.size + 1]? = some (.cells #[.int .i64 0, .slice none 0 0] 24 (0, 0))) := by show _ = _; rw [← hs1, hwB]; exact heap_alloc_new w1 _
  have HS0 : Hid (RdSt wB (w.heap.size + 1) wB 0 (.slice none 0 0) []) := ⟨by omega, KeepX.refl _ _, World.ownsRow_nil _ _ _ _, HZ5.out⟩
  have HR0 : Hid (Reads wB (.slice A N cc) b) := hr.on HBB.out
  have HOLD := Lib.hid hold
  rw [hw1] at hwB
  have HWB := Lib.hid hwB
  have HSZ := Lib.hid hsz
  clear hr hold hwB hsz hs1 hb1 hb2 hz2 hw1 w1
  obtain ⟨g, hg⟩ : ∃ g, g = w.heap.size + 1 := ⟨_, rfl⟩
  rw [← hg] at HS0 HZ5
  go_enter Tryd.func14, Tryd.ntmps14
  go_wp2
  rw [← HWB.out, ← hg]
  have HG := Lib.hid hg
  clear hg HWB
  go_loopw [6, 7, 8, 9, 10] (fun sv _ _ _ _ wr => ∃ (at_ c : Nat) (lv : Value) (ls : List (List UInt8)), sv = .int .i64 (at_ : Int) ∧ at_ ≤ N ∧ ls.length ≤ 50 ∧ Hid (RdSt wB g wr c lv ls) ∧ Hid (readK (51 - ls.length) (b.drop at_) at_ c ls = fin)) (fun sv _ _ _ _ _ => N - (intOf sv).toNat)
  case atStart => exact ⟨0, 0, _, [], rfl, by omega, by simp, HS0, HF0⟩
  case round =>
    obtain ⟨at_, c, lv, ls, rfl, hat, h50, HST, HF⟩ := hrel
    have i0 : (0 : Int) ≤ (at_ : Int) := by omega
    have i1 : (at_ : Int) ≤ (N : Int) := by omega
    have hgB := HST.out.lt
    have HR1 : Hid (Reads wr (.slice A N cc) b) := HR0.out.keptX HST.out.keep HOLD.out (by have := HG.out; omega) hgB
    have HR2 : Hid (Reads wr (.slice (if cc = at_ then A else Option.map (fun x => x.add at_) A) (N - at_) (cc - at_)) (b.drop at_)) := tail_reads HR1.out HN.out hat
    have hrl : (b.drop at_).length = N - at_ := by rw [List.length_drop, ← HN.out]
    have HLT2 : Hid (w.heap.size < wB.heap.size) := by have := HG.out; show _ < _; omega
    have hfu : 51 - ls.length = (50 - ls.length) + 1 := by omega
    rw [hfu] at HF
    by_cases hca : cc = at_
    · have qa : (cc = at_) = True := eq_true hca
      have hnc := (reads_len HR1.out).2
      have hb0 : b.drop at_ = [] := List.eq_nil_of_length_eq_zero (by omega)
      have hR3 : Reads wr (.slice A (N - at_) (cc - at_)) (b.drop at_) := by have := HR2.out; rw [if_pos hca] at this; exact this
      have HCL : Hid (Calls Tryd.prog 28 #[.slice A (N - at_) (cc - at_)] wr fun e w' => e = .returned (.tuple #[.string ⟨#[]⟩, .int .i64 140]) ∧ wr = w') := by
        have := pCutLine _ _ _ _ wr hR3 (by omega)
        rw [hb0] at this
        exact this
      have HE : Hid ((0, [], 0, 140) = fin) := by
        have e := HF.out
        rw [hb0] at e
        exact e
      clear hfu HF HR1 HR2 hR3 hca hb0 hnc hrl
      go_wp2_with (first | (go_at_call 28; refine HCL.out.mono ?_; rintro ee w2 ⟨rfl, rfl⟩; refine Hid.out ?_) | fail)
      refine Lib.hid ?_
      have hz := (HST.out.keep.block _ HLT2.out (by have := HG.out; omega)).trans HZ2.out
      obtain ⟨y0, y1, z0, z1⟩ := two_cells hz
      obtain ⟨rc0, rc1⟩ := res_box hz (.int .i64 0) (.slice none 0 0)
      have hbl := (res_end HST.out HBB.out (by have := HG.out; omega) (Nat.le_refl _) HLT2.out (.int .i64 0) (.slice none 0 0)).1
      clear hz
      go_wp2
      refine bodyPost_ret (v := .tuple #[.agg #[.int .i64 0, .slice none 0 0], .int .i64 0, .int .i64 140]) (by simp [results, Tryd.results14, go_sem, rc0, rc1]) rfl (by rw [← HE.out]; exact read_err hbl)
    · have qa : (cc = at_) = False := eq_false hca
      have hR3 : Reads wr (.slice (Option.map (fun x => x.add at_) A) (N - at_) (cc - at_)) (b.drop at_) := by have := HR2.out; rw [if_neg hca] at this; exact this
      have HCL : Hid (Calls Tryd.prog 28 #[.slice (Option.map (fun x => x.add at_) A) (N - at_) (cc - at_)] wr fun e w' => e = .returned (cutV (b.drop at_)) ∧ wr = w') := pCutLine _ _ _ _ wr hR3 (by omega)
      clear hca hR3
      cases hft : firstT (b.drop at_) 512 with
      | none =>
        have hff := HF.out
        rw [step_none hft, hrl] at hff
        have hcv := cut_none hft
        rw [hrl] at hcv
        rw [hcv] at HCL
        clear hcv hft hfu HF HR1 HR2
        by_cases h512 : 512 ≤ N - at_
        · rw [if_pos h512] at HCL hff
          have HE := Lib.hid hff
          clear hff h512 hrl
          go_wp2_with (first | (go_at_call 28; refine HCL.out.mono ?_; rintro ee w2 ⟨rfl, rfl⟩; refine Hid.out ?_) | fail)
          refine Lib.hid ?_
          have hz := (HST.out.keep.block _ HLT2.out (by have := HG.out; omega)).trans HZ2.out
          obtain ⟨y0, y1, z0, z1⟩ := two_cells hz
          obtain ⟨rc0, rc1⟩ := res_box hz (.int .i64 0) (.slice none 0 0)
          have hbl := (res_end HST.out HBB.out (by have := HG.out; omega) (Nat.le_refl _) HLT2.out (.int .i64 0) (.slice none 0 0)).1
          clear hz
          go_wp2
          refine bodyPost_ret (v := .tuple #[.agg #[.int .i64 0, .slice none 0 0], .int .i64 0, .int .i64 142]) (by simp [results, Tryd.results14, go_sem, rc0, rc1]) rfl (by rw [← HE.out]; exact read_err hbl)
        · rw [if_neg h512] at HCL hff
          have HE := Lib.hid hff
          clear hff h512 hrl
          go_wp2_with (first | (go_at_call 28; refine HCL.out.mono ?_; rintro ee w2 ⟨rfl, rfl⟩; refine Hid.out ?_) | fail)
          refine Lib.hid ?_
          have hz := (HST.out.keep.block _ HLT2.out (by have := HG.out; omega)).trans HZ2.out
          obtain ⟨y0, y1, z0, z1⟩ := two_cells hz
          obtain ⟨rc0, rc1⟩ := res_box hz (.int .i64 0) (.slice none 0 0)
          have hbl := (res_end HST.out HBB.out (by have := HG.out; omega) (Nat.le_refl _) HLT2.out (.int .i64 0) (.slice none 0 0)).1
          clear hz
          go_wp2
          refine bodyPost_ret (v := .tuple #[.agg #[.int .i64 0, .slice none 0 0], .int .i64 0, .int .i64 140]) (by simp [results, Tryd.results14, go_sem, rc0, rc1]) rfl (by rw [← HE.out]; exact read_err hbl)
      | some i =>
        have hi := firstT_lt hft
        rw [cut_some hft] at HCL
        obtain ⟨LN, hLN⟩ : ∃ LN, LN = (b.drop at_).take (i + 1) := ⟨_, rfl⟩
        have hll : LN.length = i + 1 := by rw [hLN, List.length_take]; omega
        have hlb : at_ + LN.length ≤ N := by omega
        have HLL := Lib.hid hll
        have HFT := Lib.hid hft
        have HDR : Hid ((b.drop at_).drop (i + 1) = b.drop (at_ + LN.length)) := by show _ = _; rw [List.drop_drop, hll]
        have HFS : Hid (readK ((50 - ls.length) + 1) (b.drop at_) at_ c ls = fin) := HF.out
        have HLQ : Hid ((b.drop at_).take (i + 1) = LN) := hLN.symm
        rw [← hLN] at HCL
        have HRL : Hid (∀ w1, Calls Tryd.prog 29 #[S LN] w1 (RdEnd LN w1)) := fun w1 => pReadLine ⟨LN.toArray⟩ w1 (by rw [← str_len]; show LN.length ≤ _; omega)
        obtain ⟨la, lc, rfl, hlc⟩ := HST.out.own.form
        clear hft hfu HF HR1 HR2 hrl hLN hi hll
        cases hlr : lineR LN with
        | none =>
          have HE : Hid ((0, [], 0, 141) = fin) := by
            have e := HFS.out
            rw [step_bad HFT.out (by rw [HLQ.out]; exact hlr)] at e
            exact e
          have HRN : Hid (∀ w1, Calls Tryd.prog 29 #[S LN] w1 fun e w' => (∃ (a m : Int) (x : List UInt8), e = .returned (.tuple #[.agg #[.int .i64 a, .int .u8 m, S x], .bool false])) ∧ Below w1.heap.size w1 w') := fun w1 => (HRL.out w1).mono fun e w' h => by
            unfold RdEnd at h
            rw [hlr] at h
            exact h
          clear hlr HRL HFS HFT HDR HLQ
          go_wp2_with (first | (go_at_call 28; refine HCL.out.mono ?_; rintro ee w2 ⟨rfl, rfl⟩; refine Hid.out ?_) | fail)
          refine Lib.hid ?_
          go_wp2_with (first | (go_at_call 29; refine (HRN.out _).mono ?_; rintro ee w2 ⟨⟨pa, pm, px, rfl⟩, hb⟩; refine Hid.out ?_) | fail)
          refine Lib.hid ?_
          have HST2 := Lib.hid (HST.out.on hb)
          clear hb
          go_upto_region 7 with fail
          obtain ⟨w3, hw3⟩ : ∃ w3, w3 = w2.alloc (.cells #[.int .i64 pa, .int .u8 pm, S px] 48) := ⟨_, rfl⟩
          rw [← hw3]
          have hpb : w3.heap[w2.heap.size]? = some (.cells #[.int .i64 pa, .int .u8 pm, S px] 48 (0, 0)) := by rw [hw3]; exact heap_alloc_new w2 _
          have HST3 : Hid (RdSt wB g w3 c (.slice la ls.length lc) ls) := by rw [hw3]; exact HST2.out.on (Below.alloc1 w2 _)
          have HSZ3 : Hid (w2.heap.size < w3.heap.size ∧ wB.heap.size ≤ w2.heap.size) := ⟨heap_lt hpb, HST2.out.keep.size⟩
          obtain ⟨g9, hg9⟩ : ∃ g9, g9 = w2.heap.size := ⟨_, rfl⟩
          rw [← hg9] at hpb HSZ3 ⊢
          clear hw3 hg9 HST2
          have p0 : w3.cell? ⟨g9, 0, none⟩ = some (.int .i64 pa) := by simp [World.cell?, hpb]
          have HPB := Lib.hid hpb
          clear hpb
          obtain ⟨b0, b1, b2, b3⟩ := HST3.out.cells
          have hz := (HST3.out.keep.block _ HLT2.out (by have := HG.out; omega)).trans HZ2.out
          obtain ⟨y0, y1, z0, z1⟩ := two_cells hz
          obtain ⟨rc0, rc1⟩ := res_box hz (.int .i64 0) (.slice none 0 0)
          have hbl := (res_end HST3.out HBB.out (by have := HG.out; omega) (Nat.le_refl _) HLT2.out (.int .i64 0) (.slice none 0 0)).1
          clear hz
          go_wp2
          refine bodyPost_ret (v := .tuple #[.agg #[.int .i64 0, .slice none 0 0], .int .i64 0, .int .i64 141]) (by simp [results, Tryd.results14, go_sem, rc0, rc1]) rfl (by rw [← HE.out]; exact read_err hbl)
        | some p =>
          obtain ⟨k, more, t⟩ := p
          obtain ⟨mv, hmv⟩ : ∃ mv : Int, mv = (if more = true then 45 else 32) := ⟨_, rfl⟩
          have HMV := Lib.hid hmv
          have HLR : Hid (lineR ((b.drop at_).take (i + 1)) = some (k, more, t)) := by show _ = _; rw [HLQ.out]; exact hlr
          have HRN : Hid (∀ w1, Calls Tryd.prog 29 #[S LN] w1 fun e w' => e = .returned (.tuple #[.agg #[.int .i64 (k : Int), .int .u8 mv, S t], .bool true]) ∧ Below w1.heap.size w1 w') := fun w1 => (HRL.out w1).mono fun e w' h => by
            unfold RdEnd at h
            rw [hlr] at h
            rw [hmv]
            exact h
          clear hlr HRL HLQ hmv
          go_wp2_with (first | (go_at_call 28; refine HCL.out.mono ?_; rintro ee w2 ⟨rfl, rfl⟩; refine Hid.out ?_) | fail)
          refine Lib.hid ?_
          go_wp2_with (first | (go_at_call 29; refine (HRN.out _).mono ?_; rintro ee w2 ⟨rfl, hb⟩; refine Hid.out ?_) | fail)
          refine Lib.hid ?_
          have HST2 := Lib.hid (HST.out.on hb)
          clear hb
          go_upto_region 7 with fail
          obtain ⟨w3, hw3⟩ : ∃ w3, w3 = w2.alloc (.cells #[.int .i64 (k : Int), .int .u8 mv, S t] 48) := ⟨_, rfl⟩
          rw [← hw3]
          have hpb : w3.heap[w2.heap.size]? = some (.cells #[.int .i64 (k : Int), .int .u8 mv, S t] 48 (0, 0)) := by rw [hw3]; exact heap_alloc_new w2 _
          have HST3 : Hid (RdSt wB g w3 c (.slice la ls.length lc) ls) := by rw [hw3]; exact HST2.out.on (Below.alloc1 w2 _)
          have HSZ3 : Hid (w2.heap.size < w3.heap.size ∧ wB.heap.size ≤ w2.heap.size) := ⟨heap_lt hpb, HST2.out.keep.size⟩
          obtain ⟨g9, hg9⟩ : ∃ g9, g9 = w2.heap.size := ⟨_, rfl⟩
          rw [← hg9] at hpb HSZ3 ⊢
          clear hw3 hg9 HST2
          have p0 : w3.cell? ⟨g9, 0, none⟩ = some (.int .i64 (k : Int)) := by simp [World.cell?, hpb]
          have HPB := Lib.hid hpb
          clear hpb
          obtain ⟨b0, b1, b2, b3⟩ := HST3.out.cells
          by_cases hnil : ls = []
          · have HKC : Hid (ls = [] ∨ k = c) := Or.inl hnil
            have qn : ¬ (0 : Int) < (ls.length : Int) := by rw [hnil]; simp
            have hne50 : ls.length ≠ 50 := by rw [hnil]; decide
            clear hnil
            have H5 : Hid (ls.length ≠ 50) := hne50
            have q50 : ((ls.length : Int) == 50) = false := by rw [beq_eq_false_iff_ne]; omega
            have hgo : Hid (fin = fin) := rfl
            go_upto_region 12 with fail
            obtain ⟨w4, hw4⟩ : ∃ w4, w4 = w3.setCell ⟨g, 0, none⟩ (.int .i64 (k : Int)) := ⟨_, rfl⟩
            rw [← hw4]
            have HST4 : Hid (RdSt wB g w4 k (.slice la ls.length lc) ls) := by rw [hw4]; exact HST3.out.setCode k
            have hgg : g9 ≠ g := by have := HSZ3.out; omega
            have hpb4 : w4.heap[g9]? = some (.cells #[.int .i64 (k : Int), .int .u8 mv, S t] 48 (0, 0)) := by rw [hw4]; exact ((KeepX.set g w3 0 _).block g9 HSZ3.out.1 hgg).trans HPB.out
            clear hw4 p0 b0 b1 b2 b3
            have r2 : w4.cell? ⟨g9, 2, none⟩ = some (S t) := by simp [World.cell?, hpb4]
            obtain ⟨b0, b1, b2, b3⟩ := HST4.out.cells
            have HPB4 := Lib.hid hpb4
            have HOTH := Lib.hid (own_other HST4.out.own hpb4 (by decide))
            clear hpb4
            go_wp2_with (at_builtin; go_must (refine wp_addW rfl _ _ rfl HST4.out.own (by omega) HST4.out.keep.size ⟨t.toArray⟩ rfl rfl ?_); intro v5 w5 own5 b5 oth5; refine Hid.out ?_)
            refine Lib.hid ?_
            obtain ⟨a5, c5, hv5, hc5⟩ := OwnsS.form (ls := ls ++ [t]) own5
            rw [show (ls ++ [t]).length = ls.length + 1 by simp] at hv5
            subst hv5
            have HO5 : Hid (OwnsS w5 wB.heap.size (.slice a5 (ls.length + 1) c5) (ls ++ [t])) := own5
            clear hc5
            have HB5 := Lib.hid b5
            have hbx5 : BoxR w5 g (k : Int) (.slice la ls.length lc) := by unfold BoxR; rw [b5.block g hgB]; exact HST4.out.box
            have hpb5 : w5.heap[g9]? = some (.cells #[.int .i64 (k : Int), .int .u8 mv, S t] 48 (0, 0)) := (oth5 g9 (heap_lt HPB4.out) HOTH.out).trans HPB4.out
            obtain ⟨a0, a1, a2, a3⟩ := two_cells hbx5
            have HPB5 := Lib.hid hpb5
            clear own5 b5 oth5 hbx5 hpb5 b0 b1 b2 b3 r2
            go_upto_region 13 with fail
            obtain ⟨w6, hw6⟩ : ∃ w6, w6 = w5.setCell ⟨g, 1, none⟩ (.slice a5 (ls.length + 1) c5) := ⟨_, rfl⟩
            rw [← hw6]
            have HST6 : Hid (RdSt wB g w6 k (.slice a5 (ls.length + 1) c5) (ls ++ [t])) := by rw [hw6]; exact HST4.out.setLines HB5.out HO5.out
            have hpb6 : w6.heap[g9]? = some (.cells #[.int .i64 (k : Int), .int .u8 mv, S t] 48 (0, 0)) := by rw [hw6]; exact ((KeepX.set g w5 1 _).block g9 (heap_lt HPB5.out) hgg).trans HPB5.out
            clear hw6 a0 a1 a2 a3
            have r1 : w6.cell? ⟨g9, 1, none⟩ = some (.int .u8 mv) := by simp [World.cell?, hpb6]
            obtain ⟨b0, b1, b2, b3⟩ := HST6.out.cells
            clear hpb6
            cases more with
            | true =>
              have q32 : (mv == 32) = false := by rw [HMV.out]; rfl
              have HN2 : Hid (readK (51 - (ls ++ [t]).length) (b.drop (at_ + LN.length)) (at_ + LN.length) k (ls ++ [t]) = fin) := by
                have e := HFS.out
                rw [step_more HFT.out HLR.out HKC.out hne50, HDR.out, Nat.add_assoc, ← HLL.out] at e
                rw [show 51 - (ls ++ [t]).length = 50 - ls.length by rw [List.length_append, List.length_singleton]; omega]
                exact e
              have hl50 : (ls ++ [t]).length ≤ 50 := by rw [List.length_append, List.length_singleton]; omega
              go_wp2
              go_roundw
              case rel => exact ⟨at_ + LN.length, k, _, ls ++ [t], by go_num, by omega, hl50, HST6, HN2⟩
              case measure => have := HLL.out; simp [intOf]; omega
            | false =>
              have q32 : (mv == 32) = true := by rw [HMV.out]; rfl
              have HE : Hid ((k, ls ++ [t], at_ + LN.length, 0) = fin) := by
                have e := HFS.out
                rw [step_last HFT.out HLR.out HKC.out hne50, Nat.add_assoc, ← HLL.out] at e
                exact e
              have hz := (HST6.out.keep.block _ HLT2.out (by have := HG.out; omega)).trans HZ2.out
              obtain ⟨y0, y1, z0, z1⟩ := two_cells hz
              obtain ⟨rc0, rc1⟩ := res_box hz (.int .i64 (k : Int)) (.slice a5 (ls.length + 1) c5)
              have hbl := res_end HST6.out HBB.out (by have := HG.out; omega) (Nat.le_refl _) HLT2.out (.int .i64 (k : Int)) (.slice a5 (ls.length + 1) c5)
              clear hz
              go_wp2
              refine bodyPost_ret (v := .tuple #[.agg #[.int .i64 (k : Int), .slice a5 (ls.length + 1) c5], .int .i64 ((at_ + LN.length : Nat) : Int), .int .i64 0]) (by simp [results, Tryd.results14, go_sem, rc0, rc1]) rfl (by rw [← HE.out]; exact ⟨_, rfl, hbl.2, hbl.1⟩)
          · have qn : (0 : Int) < (ls.length : Int) := by cases ls with | nil => exact (hnil rfl).elim | cons => simp
            by_cases hkc : k = c
            · have HKC : Hid (ls = [] ∨ k = c) := Or.inr hkc
              have qk : ((k : Int) != (c : Int)) = false := by rw [bne_eq_false_iff_eq]; omega
              clear hnil hkc
              by_cases he50 : ls.length = 50
              · have q50 : ((ls.length : Int) == 50) = true := by rw [beq_iff_eq]; omega
                have HE : Hid ((0, [], 0, 142) = fin) := by
                  have e := HFS.out
                  rw [step_many HFT.out HLR.out HKC.out he50] at e
                  exact e
                clear he50
                have hz := (HST3.out.keep.block _ HLT2.out (by have := HG.out; omega)).trans HZ2.out
                obtain ⟨y0, y1, z0, z1⟩ := two_cells hz
                obtain ⟨rc0, rc1⟩ := res_box hz (.int .i64 0) (.slice none 0 0)
                have hbl := (res_end HST3.out HBB.out (by have := HG.out; omega) (Nat.le_refl _) HLT2.out (.int .i64 0) (.slice none 0 0)).1
                clear hz
                go_wp2
                refine bodyPost_ret (v := .tuple #[.agg #[.int .i64 0, .slice none 0 0], .int .i64 0, .int .i64 142]) (by simp [results, Tryd.results14, go_sem, rc0, rc1]) rfl (by rw [← HE.out]; exact read_err hbl)
              · have hne50 : ls.length ≠ 50 := he50
                clear he50
                have H5 : Hid (ls.length ≠ 50) := hne50
                have q50 : ((ls.length : Int) == 50) = false := by rw [beq_eq_false_iff_ne]; omega
                have hgo : Hid (fin = fin) := rfl
                go_upto_region 12 with fail
                obtain ⟨w4, hw4⟩ : ∃ w4, w4 = w3.setCell ⟨g, 0, none⟩ (.int .i64 (k : Int)) := ⟨_, rfl⟩
                rw [← hw4]
                have HST4 : Hid (RdSt wB g w4 k (.slice la ls.length lc) ls) := by rw [hw4]; exact HST3.out.setCode k
                have hgg : g9 ≠ g := by have := HSZ3.out; omega
                have hpb4 : w4.heap[g9]? = some (.cells #[.int .i64 (k : Int), .int .u8 mv, S t] 48 (0, 0)) := by rw [hw4]; exact ((KeepX.set g w3 0 _).block g9 HSZ3.out.1 hgg).trans HPB.out
                clear hw4 p0 b0 b1 b2 b3
                have r2 : w4.cell? ⟨g9, 2, none⟩ = some (S t) := by simp [World.cell?, hpb4]
                obtain ⟨b0, b1, b2, b3⟩ := HST4.out.cells
                have HPB4 := Lib.hid hpb4
                have HOTH := Lib.hid (own_other HST4.out.own hpb4 (by decide))
                clear hpb4
                go_wp2_with (at_builtin; go_must (refine wp_addW rfl _ _ rfl HST4.out.own (by omega) HST4.out.keep.size ⟨t.toArray⟩ rfl rfl ?_); intro v5 w5 own5 b5 oth5; refine Hid.out ?_)
                refine Lib.hid ?_
                obtain ⟨a5, c5, hv5, hc5⟩ := OwnsS.form (ls := ls ++ [t]) own5
                rw [show (ls ++ [t]).length = ls.length + 1 by simp] at hv5
                subst hv5
                have HO5 : Hid (OwnsS w5 wB.heap.size (.slice a5 (ls.length + 1) c5) (ls ++ [t])) := own5
                clear hc5
                have HB5 := Lib.hid b5
                have hbx5 : BoxR w5 g (k : Int) (.slice la ls.length lc) := by unfold BoxR; rw [b5.block g hgB]; exact HST4.out.box
                have hpb5 : w5.heap[g9]? = some (.cells #[.int .i64 (k : Int), .int .u8 mv, S t] 48 (0, 0)) := (oth5 g9 (heap_lt HPB4.out) HOTH.out).trans HPB4.out
                obtain ⟨a0, a1, a2, a3⟩ := two_cells hbx5
                have HPB5 := Lib.hid hpb5
                clear own5 b5 oth5 hbx5 hpb5 b0 b1 b2 b3 r2
                go_upto_region 13 with fail
                obtain ⟨w6, hw6⟩ : ∃ w6, w6 = w5.setCell ⟨g, 1, none⟩ (.slice a5 (ls.length + 1) c5) := ⟨_, rfl⟩
                rw [← hw6]
                have HST6 : Hid (RdSt wB g w6 k (.slice a5 (ls.length + 1) c5) (ls ++ [t])) := by rw [hw6]; exact HST4.out.setLines HB5.out HO5.out
                have hpb6 : w6.heap[g9]? = some (.cells #[.int .i64 (k : Int), .int .u8 mv, S t] 48 (0, 0)) := by rw [hw6]; exact ((KeepX.set g w5 1 _).block g9 (heap_lt HPB5.out) hgg).trans HPB5.out
                clear hw6 a0 a1 a2 a3
                have r1 : w6.cell? ⟨g9, 1, none⟩ = some (.int .u8 mv) := by simp [World.cell?, hpb6]
                obtain ⟨b0, b1, b2, b3⟩ := HST6.out.cells
                clear hpb6
                cases more with
                | true =>
                  have q32 : (mv == 32) = false := by rw [HMV.out]; rfl
                  have HN2 : Hid (readK (51 - (ls ++ [t]).length) (b.drop (at_ + LN.length)) (at_ + LN.length) k (ls ++ [t]) = fin) := by
                    have e := HFS.out
                    rw [step_more HFT.out HLR.out HKC.out hne50, HDR.out, Nat.add_assoc, ← HLL.out] at e
                    rw [show 51 - (ls ++ [t]).length = 50 - ls.length by rw [List.length_append, List.length_singleton]; omega]
                    exact e
                  have hl50 : (ls ++ [t]).length ≤ 50 := by rw [List.length_append, List.length_singleton]; omega
                  go_wp2
                  go_roundw
                  case rel => exact ⟨at_ + LN.length, k, _, ls ++ [t], by go_num, by omega, hl50, HST6, HN2⟩
                  case measure => have := HLL.out; simp [intOf]; omega
                | false =>
                  have q32 : (mv == 32) = true := by rw [HMV.out]; rfl
                  have HE : Hid ((k, ls ++ [t], at_ + LN.length, 0) = fin) := by
                    have e := HFS.out
                    rw [step_last HFT.out HLR.out HKC.out hne50, Nat.add_assoc, ← HLL.out] at e
                    exact e
                  have hz := (HST6.out.keep.block _ HLT2.out (by have := HG.out; omega)).trans HZ2.out
                  obtain ⟨y0, y1, z0, z1⟩ := two_cells hz
                  obtain ⟨rc0, rc1⟩ := res_box hz (.int .i64 (k : Int)) (.slice a5 (ls.length + 1) c5)
                  have hbl := res_end HST6.out HBB.out (by have := HG.out; omega) (Nat.le_refl _) HLT2.out (.int .i64 (k : Int)) (.slice a5 (ls.length + 1) c5)
                  clear hz
                  go_wp2
                  refine bodyPost_ret (v := .tuple #[.agg #[.int .i64 (k : Int), .slice a5 (ls.length + 1) c5], .int .i64 ((at_ + LN.length : Nat) : Int), .int .i64 0]) (by simp [results, Tryd.results14, go_sem, rc0, rc1]) rfl (by rw [← HE.out]; exact ⟨_, rfl, hbl.2, hbl.1⟩)
            · have qk : ((k : Int) != (c : Int)) = true := by rw [bne_iff_ne]; omega
              have HE : Hid ((0, [], 0, 141) = fin) := by
                have e := HFS.out
                rw [step_other HFT.out HLR.out hnil hkc] at e
                exact e
              clear hnil hkc
              have hz := (HST3.out.keep.block _ HLT2.out (by have := HG.out; omega)).trans HZ2.out
              obtain ⟨y0, y1, z0, z1⟩ := two_cells hz
              obtain ⟨rc0, rc1⟩ := res_box hz (.int .i64 0) (.slice none 0 0)
              have hbl := (res_end HST3.out HBB.out (by have := HG.out; omega) (Nat.le_refl _) HLT2.out (.int .i64 0) (.slice none 0 0)).1
              clear hz
              go_wp2
              refine bodyPost_ret (v := .tuple #[.agg #[.int .i64 0, .slice none 0 0], .int .i64 0, .int .i64 141]) (by simp [results, Tryd.results14, go_sem, rc0, rc1]) rfl (by rw [← HE.out]; exact read_err hbl)
end Go.Proofs.YthkabehojmncmaaDoor.Reply
