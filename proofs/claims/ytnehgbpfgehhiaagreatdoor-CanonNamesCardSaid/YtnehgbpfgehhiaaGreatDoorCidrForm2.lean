/-
  MERGED by mergefill.py: CidrForm2.
-/
import Derived.Test.YtnehgbpfgehhiaaGreatDoorCidrG3M
import Derived.Deep.RegionHeld3
import Derived.Deep.CutBlock
import Derived.Deep.DeepCutAuto
/-
  CIDR, the given answers: an address of IPv6 as text: the walk.
-/
namespace Go.Proofs.YtnehgbpfgehhiaaGreatDoor.Cidr
open Go.RowKit Base
/-- The groups so far. -/
def partG (a : List UInt8) (k : Nat) : List Value := (((grpsA a).take k).map I) ++ List.replicate (8 - k) (I 0)
theorem partG_set (a : List UInt8) {k : Nat} (h : k < 8) : (partG a k).toArray.setIfInBounds k (I (grpA a k)) = (partG a (k + 1)).toArray := by
  have hl : k < (grpsA a).length := by rw [grpsA_len]; exact h
  apply Array.toList_inj.1
  have e : (grpsA a)[k]? = some (grpA a k) := by unfold grpsA; simp [h]
  have e1 : (grpsA a)[k] = grpA a k := by rw [List.getElem?_eq_getElem hl] at e; exact Option.some.inj e
  have e2 : (List.map I (List.take k (grpsA a))).length = k := by rw [List.length_map, List.length_take, grpsA_len]; omega
  unfold partG
  rw [Array.toList_setIfInBounds]
  show List.set _ _ _ = _
  rw [List.set_append_right _ _ (by omega), e2, Nat.sub_self, show 8 - k = (8 - (k + 1)) + 1 by omega, List.replicate_succ, List.take_succ_eq_append_getElem hl, e1]
  simp
theorem partG_end (a : List UInt8) : partG a 8 = (grpsA a).map I := by
  unfold partG; rw [List.take_of_length_le (by rw [grpsA_len]; omega)]; simp
theorem hexD_len0 : ∀ (k n : Nat), n < 16 ^ (k + 1) → (hexD n).length ≤ k + 1
  | 0, n, h => by rw [hexD, dif_pos (by omega)]; simp
  | k + 1, n, h => by
    rw [hexD]
    split
    · simp
    · have := hexD_len0 k (n / 16) (by rw [Nat.pow_succ] at h; omega)
      simp; omega
theorem hexD_len (n : Nat) (h : n ≤ 65535) : (hexD n).length ≤ 4 := hexD_len0 3 n (by omega)
theorem tw_stop (p : Nat → Bool) : ∀ (l : List Nat), (l.takeWhile p).length < l.length → p (l.getD (l.takeWhile p).length 0) = false
  | [], h => by simp at h
  | x :: r, h => by
    cases hx : p x with
    | true =>
      rw [List.takeWhile_cons_of_pos hx] at h ⊢
      have := tw_stop p r (by simpa using h)
      simpa using this
    | false =>
      rw [List.takeWhile_cons_of_neg (by simp [hx])]
      simpa using hx
theorem runN_stop {G : List Nat} {i : Nat} (h : i + runN G i < G.length) : G.getD (i + runN G i) 0 ≠ 0 := by
  have := tw_stop (· == 0) (G.drop i) (by rw [List.length_drop]; show runN G i < _; omega)
  rw [show ((G.drop i).takeWhile (· == 0)).length = runN G i from rfl] at this
  rw [List.getD_eq_getElem?_getD, List.getElem?_drop] at this
  rw [List.getD_eq_getElem?_getD]
  simpa using this
theorem row_cell {w : World} {g : Nat} {G : List Nat} (h : w.heap[g]? = some (.cells (G.map I).toArray 3 (0, 0))) {j : Nat} (hj : j < G.length) : w.cell? ⟨g, j, none⟩ = some (.int .i64 ((G.getD j 0 : Nat) : Int)) := by
  rw [cell_of_row w g j _ _ _ h]
  simp [List.getD, List.getElem?_eq_getElem hj]
set_option maxHeartbeats 4000000 in
set_option maxRecDepth 100000 in
theorem rForm6 (a : List UInt8) (ha : a.length = 16) (w : World) : Calls Tryz.prog 61 #[.agg (a.map B8).toArray] w (fun e w' => e = .returned (S (form6 a)) ∧ Below w.heap.size w w') := by
  have hmk := mk8 (w.alloc (.cells (a.map B8).toArray 70))
  have hsz : (w.alloc (.cells (a.map B8).toArray 70)).heap.size = w.heap.size + 1 := by simp
  rw [hsz] at hmk
  have HB : Hid (((w.alloc (.cells (a.map B8).toArray 70)).alloc (.cells (List.replicate 8 (I 0)).toArray 3)).heap[w.heap.size]? = some (.cells (a.map B8).toArray 70 (0, 0))) := by
    have := (MapKept.heap_alloc w (.cells (a.map B8).toArray 70)).1
    exact ((Below.alloc1 _ _).block _ (by rw [hsz]; omega)).trans this
  have HG : Hid (((w.alloc (.cells (a.map B8).toArray 70)).alloc (.cells (List.replicate 8 (I 0)).toArray 3)).heap[w.heap.size + 1]? = some (.cells (partG a 0).toArray 3 (0, 0))) := by
    have := (MapKept.heap_alloc (w.alloc (.cells (a.map B8).toArray 70)) (.cells (List.replicate 8 (I 0)).toArray 3)).1
    rw [hsz] at this
    exact this
  have HBW : Hid (Below w.heap.size w ((w.alloc (.cells (a.map B8).toArray 70)).alloc (.cells (List.replicate 8 (I 0)).toArray 3))) := (Below.alloc1 _ _).trans ((Below.alloc1 _ _).mono (by rw [hsz]; omega))
  have HMK := Lib.hid hmk
  clear hmk
  go_enter Tryz.func61, Tryz.ntmps61
  have hmk := HMK.out
  go_upto_region 2 with fail
  clear hmk
  obtain ⟨R, hR⟩ : ∃ R : Value → World → Prop, R = fun i wr => ∃ k : Nat, k ≤ 8 ∧ i = .int .i64 k ∧ wr.heap[w.heap.size]? = some (.cells (a.map B8).toArray 70 (0, 0)) ∧ wr.heap[w.heap.size + 1]? = some (.cells (partG a k).toArray 3 (0, 0)) ∧ Below w.heap.size w wr := ⟨_, rfl⟩
  have HR := Lib.hid hR
  clear hR
  go_wp2
  go_loopw [4] (fun i wr => R i wr) (fun i _ => 8 - (intOf i).toNat)
  case atStart => rw [HR.out]; exact ⟨0, by omega, rfl, HB.out, HG.out, HBW.out⟩
  case round =>
    rw [HR.out] at hrel
    obtain ⟨k, hk, rfl, hb, hg, hbw⟩ := hrel
    by_cases hlt : k < 8
    · obtain ⟨x, hx⟩ : ∃ x, x = (a.getD (2 * k) 0).toNat := ⟨_, rfl⟩
      obtain ⟨y, hy⟩ : ∃ y, y = (a.getD (2 * k + 1) 0).toNat := ⟨_, rfl⟩
      have hx2 : x < 256 := by rw [hx]; exact (a.getD (2 * k) 0).toNat_lt
      have hy2 : y < 256 := by rw [hy]; exact (a.getD (2 * k + 1) 0).toNat_lt
      have c1 : wr.drew.cell? ⟨w.heap.size, 2 * k, none⟩ = some (.int .u8 (x : Int)) := by
        have : wr.cell? ⟨w.heap.size, 2 * k, none⟩ = _ := cell_of_row wr _ (2 * k) _ _ _ hb
        refine (show wr.drew.cell? _ = wr.cell? _ from rfl).trans (this.trans ?_)
        rw [hx]; simp [List.getD, List.getElem?_eq_getElem (show 2 * k < a.length by omega)]
      have c2 : wr.drew.cell? ⟨w.heap.size, 2 * k + 1, none⟩ = some (.int .u8 (y : Int)) := by
        have : wr.cell? ⟨w.heap.size, 2 * k + 1, none⟩ = _ := cell_of_row wr _ (2 * k + 1) _ _ _ hb
        refine (show wr.drew.cell? _ = wr.cell? _ from rfl).trans (this.trans ?_)
        rw [hy]; simp [List.getD, List.getElem?_eq_getElem (show 2 * k + 1 < a.length by omega)]
      have c3 : ∃ v, wr.drew.cell? ⟨w.heap.size + 1, k, none⟩ = some v := by
        have : wr.cell? ⟨w.heap.size + 1, k, none⟩ = _ := cell_of_row wr _ k _ _ _ hg
        refine ⟨(partG a k).toArray[k]'(by simp [partG, grpsA_len]; omega), (show wr.drew.cell? _ = wr.cell? _ from rfl).trans (this.trans (Array.getElem?_eq_getElem _))⟩
      obtain ⟨v, c3⟩ := c3
      have c4 : wr.drew.frozen? ⟨w.heap.size + 1, k, none⟩ = false := by
        have : wr.frozen? ⟨w.heap.size + 1, k, none⟩ = false := by simp [World.frozen?, hg]
        exact this
      have i1 : (k : Int) < 8 := by omega
      have i0 : (0 : Int) ≤ (k : Int) := by omega
      have i2 : (0 : Int) ≤ 2 * (k : Int) := by omega
      have i3 : 2 * (k : Int) < 16 := by omega
      have i4 : (0 : Int) ≤ 2 * (k : Int) + 1 := by omega
      have i5 : 2 * (k : Int) + 1 < 16 := by omega
      have wr1 : IntKind.i64.wrap (2 * (k : Int)) = 2 * (k : Int) := IntWalk.i64_in _ (by omega)
      have wr2 : IntKind.i64.wrap (2 * (k : Int) + 1) = 2 * (k : Int) + 1 := IntWalk.i64_in _ (by omega)
      have wr3 : IntKind.i64.wrap (256 * (x : Int)) = 256 * (x : Int) := IntWalk.i64_in _ (by omega)
      have wr4 : IntKind.i64.wrap (256 * (x : Int) + (y : Int)) = 256 * (x : Int) + (y : Int) := IntWalk.i64_in _ (by omega)
      have wr5 : IntKind.i64.wrap (x : Int) = (x : Int) := IntWalk.i64_in _ (by omega)
      have wr6 : IntKind.i64.wrap (y : Int) = (y : Int) := IntWalk.i64_in _ (by omega)
      have tn1 : (2 * (k : Int)).toNat = 2 * k := by omega
      have tn2 : (2 * (k : Int) + 1).toNat = 2 * k + 1 := by omega
      have n1 : w.heap.size + 1 ≠ w.heap.size := by omega
      have HBr := Lib.hid hb
      have HGr := Lib.hid hg
      have HWr := Lib.hid hbw
      have HGA : Hid (grpA a k = 256 * x + y) := by rw [hx, hy]; rfl
      clear hb hg hbw hx hy
      go_wp2
      go_region_held3 (fun w' => w'.cell? ⟨w.heap.size, 2 * k, none⟩ = some (.int .u8 (x : Int)) ∧ w'.cell? ⟨w.heap.size, 2 * k + 1, none⟩ = some (.int .u8 (y : Int)))
        (first | exact ⟨c1, c2⟩ | exact ⟨(World.cell?_setCell_far _ _ _ _ n1).trans c1, (World.cell?_setCell_far _ _ _ _ n1).trans c2⟩ | fail) (fail)
      have HRK : Hid (R (.int .i64 ((k : Int) + 1)) (wr.setCell ⟨w.heap.size + 1, k, none⟩ (.int .i64 (256 * (x : Int) + (y : Int)))).drew) := by
        show R _ _
        rw [HR.out]
        have hk1 := KeepX.set (w.heap.size + 1) wr k (.int .i64 (256 * (x : Int) + (y : Int)))
        have hg1 := heap_setCell_any wr (w.heap.size + 1) k _ _ _ (.int .i64 (256 * (x : Int) + (y : Int))) HGr.out
        rw [show Value.int .i64 (256 * (x : Int) + (y : Int)) = I (grpA a k) by rw [HGA.out]; simp [I], partG_set a hlt] at hg1
        have hb1 : Below w.heap.size w (wr.setCell ⟨w.heap.size + 1, k, none⟩ (.int .i64 (256 * (x : Int) + (y : Int)))) := HWr.out.trans (hk1.below (by omega) (heap_lt HGr.out))
        refine ⟨k + 1, by omega, by simp, (hk1.block _ (heap_lt HBr.out) (by omega)).trans HBr.out, ?_, ⟨hb1.os, hb1.tape, hb1.output, hb1.size, hb1.block⟩⟩
        rw [show Value.int .i64 (256 * (x : Int) + (y : Int)) = I (grpA a k) by rw [HGA.out]; simp [I]]
        exact hg1
      clear c1 c2 c3 c4
      go_wp2
      go_roundw
      case rel => exact HRK.out
      case measure => simp [intOf]; omega
    · have hk8 : k = 8 := by omega
      subst hk8
      rw [partG_end] at hg
      have HROW := Lib.hid hg
      have HBW2 := Lib.hid hbw
      clear hb hg hbw
      obtain ⟨G, hG⟩ : ∃ G, G = grpsA a := ⟨_, rfl⟩
      have HGL : Hid (G.length = 8) := by rw [hG]; exact grpsA_len a
      have HGS : Hid (∀ j, G.getD j 0 ≤ 65535) := fun j => by
        rw [hG]
        unfold grpsA
        rw [List.getD_eq_getElem?_getD, List.getElem?_map]
        cases (List.range 8)[j]? with
        | none => simp
        | some i => exact grpA_le a i
      rw [← hG] at HROW
      have HFM : Hid (form6 a = outN G (bestN G 8).1 (bestN G 8).2 8 [] 0) := by rw [hG]; rfl
      clear hG
      go_upto_block 2 with fail
      go_cut [5, 6] (fun f m wx => f = .int .i64 (atI (bestN G 8).1) ∧ m = .int .i64 ((bestN G 8).2 : Int) ∧ wx = wr)
      case first =>
        go_wp2
        go_loop [5, 6, 7] (fun f m i => ∃ k : Nat, k ≤ 8 ∧ i = .int .i64 k ∧ f = .int .i64 (atI (bestN G k).1) ∧ m = .int .i64 ((bestN G k).2 : Int)) (fun _ _ i => 8 - (intOf i).toNat)
        case atStart => exact ⟨0, by omega, rfl, rfl, rfl⟩
        case round =>
          obtain ⟨k, hk, rfl, rfl, rfl⟩ := hrel
          by_cases hlt : k < 8
          · have i1 : (k : Int) < 8 := by omega
            obtain ⟨hb1, hb2, hb3⟩ := bestN_le HGL.out k hk
            have hr8 := runN_le G k
            rw [HGL.out] at hr8
            obtain ⟨bf, hbf⟩ : ∃ bf, bf = atI (bestN G k).1 := ⟨_, rfl⟩
            obtain ⟨bm, hbm⟩ : ∃ bm, bm = (bestN G k).2 := ⟨_, rfl⟩
            obtain ⟨rn, hrn⟩ : ∃ rn, rn = runN G k := ⟨_, rfl⟩
            have HBF := Lib.hid hbf
            have HBM := Lib.hid hbm
            have HRN := Lib.hid hrn
            rw [← hbf, ← hbm]
            rw [← hbm] at hb1 hb2
            rw [← hrn] at hr8
            clear hb3 hbf hbm hrn
            go_upto_block 4 with fail
            go_cut [8] (fun n wx => n = .int .i64 (rn : Int) ∧ wx = wr)
            case first =>
              go_wp2
              go_loop [8] (fun n => ∃ j : Nat, j ≤ rn ∧ n = .int .i64 j) (fun n => 8 - (intOf n).toNat)
              case atStart => exact ⟨0, Nat.zero_le _, rfl⟩
              case round =>
                obtain ⟨j, hj, rfl⟩ := hrel
                have w1 : IntKind.i64.wrap ((k : Int) + (j : Int)) = (k : Int) + (j : Int) := IntWalk.i64_in _ (by omega)
                have w2 : ((k : Int) + (j : Int)).toNat = k + j := by omega
                have i0 : (0 : Int) ≤ (k : Int) + (j : Int) := by omega
                by_cases hjr : j < rn
                · have hz : G.getD (k + j) 0 = 0 := by
                    have := runN_zero (G := G) (i := k) (n := j) (by rw [← HRN.out]; exact hjr)
                    rw [List.getD_eq_getElem?_getD, List.getElem?_eq_getElem (by rw [HGL.out]; omega)] at this ⊢
                    simpa using this
                  have hc := row_cell HROW.out (j := k + j) (by rw [HGL.out]; omega)
                  rw [hz] at hc
                  have i2 : (k : Int) + (j : Int) < 8 := by omega
                  clear hz
                  go_wp2
                  go_round
                  case rel => exact ⟨j + 1, by omega, by go_num⟩
                  case measure => simp [intOf]; omega
                · obtain rfl : j = rn := by omega
                  by_cases h8 : k + j < 8
                  · have hz : G.getD (k + j) 0 ≠ 0 := by
                      rw [HRN.out]; exact runN_stop (by rw [← HRN.out, HGL.out]; exact h8)
                    have hc := row_cell HROW.out (j := k + j) (by rw [HGL.out]; omega)
                    generalize G.getD (k + j) 0 = gz at hz hc
                    have e1 : ((gz : Int) == 0) = false := by rw [beq_eq_false_iff_ne]; omega
                    have i2 : (k : Int) + (j : Int) < 8 := by omega
                    go_wp2
                    go_meet
                    exact ⟨rfl, rfl⟩
                  · have i2 : ¬ (k : Int) + (j : Int) < 8 := by omega
                    go_wp2
                    go_meet
                    exact ⟨rfl, rfl⟩
            case rest =>
              obtain ⟨rfl, rfl⟩ := hcut
              by_cases hgt : bm < rn
              · have i2 : (bm : Int) < (rn : Int) := by omega
                have HN1 : Hid ((bestN G (k + 1)).1 = some k ∧ (bestN G (k + 1)).2 = rn) := by
                  rw [bestN, if_pos (by rw [← HBM.out, ← HRN.out]; exact hgt)]
                  exact ⟨rfl, HRN.out.symm⟩
                clear hgt
                go_wp2
                go_round
                case rel => exact ⟨k + 1, by omega, by go_num, by rw [HN1.out.1]; rfl, by rw [HN1.out.2]⟩
                case measure => simp [intOf]; omega
              · have i2 : ¬ (bm : Int) < (rn : Int) := by omega
                have HN1 : Hid (bestN G (k + 1) = bestN G k) := by
                  show _ = _
                  rw [bestN, if_neg (by rw [← HBM.out, ← HRN.out]; exact hgt)]
                clear hgt
                go_wp2
                go_round
                case rel => exact ⟨k + 1, by omega, by go_num, by rw [HN1.out, HBF.out], by rw [HN1.out, HBM.out]⟩
                case measure => simp [intOf]; omega
          · have hk8 : k = 8 := by omega
            subst hk8
            go_wp2
            go_meet
            exact ⟨rfl, rfl, rfl⟩
      case rest =>
        obtain ⟨rfl, rfl, rfl⟩ := hcut
        obtain ⟨hm1, hm2, hm3⟩ := bestN_le HGL.out 8 (by omega)
        generalize (bestN G 8).1 = q at hm3 HFM
        generalize (bestN G 8).2 = m at hm1 hm2 hm3 HFM
        have HM3 := Lib.hid hm3
        clear hm3
        obtain ⟨R2, hR2⟩ : ∃ R : Value → Value → World → Prop, R = fun s i wr => ∃ (f i0 : Nat) (T : ByteArray), i0 ≤ 8 ∧ 8 ≤ f + i0 ∧ i = .int .i64 (i0 : Int) ∧ s = .string T ∧ T.size ≤ 5 * i0 ∧ wr.heap[w.heap.size + 1]? = some (.cells (G.map I).toArray 3 (0, 0)) ∧ Below w.heap.size w wr ∧ Hid (form6 a = outN G q m f T.data.toList i0) := ⟨_, rfl⟩
        have HR2 := Lib.hid hR2
        clear hR2
        go_wp2
        go_loopw [9, 10] (fun s i wr => R2 s i wr) (fun _ i _ => 8 - (intOf i).toNat)
        case atStart => rw [HR2.out]; exact ⟨8, 0, ⟨#[]⟩, by omega, by omega, rfl, rfl, Nat.zero_le _, HROW.out, HBW2.out, HFM.out⟩
        case round =>
          rw [HR2.out] at hrel
          obtain ⟨f, i0, T, hi8, hf, rfl, rfl, hT, hrow, hbw, hout⟩ := hrel
          by_cases hlt : i0 < 8
          · obtain ⟨f, rfl⟩ : ∃ f', f = f' + 1 := ⟨f - 1, by omega⟩
            have i1 : (i0 : Int) < 8 := by omega
            have HRW := Lib.hid hrow
            have HBWr := Lib.hid hbw
            by_cases hq : q = some i0
            · have e1 : ((i0 : Int) == atI q) = true := by rw [hq]; simp [atI]
              have hs8 := HM3.out i0 hq
              have HOUT : Hid (form6 a = outN G q m f (T ++ ⟨#[58, 58]⟩).data.toList (i0 + m)) := by
                refine hout.out.trans ?_
                rw [outN, if_pos hlt, if_pos hq, Joins.data_append]
              have hts : (T ++ (⟨#[58, 58]⟩ : ByteArray)).size = T.size + 2 := by rw [ByteArray.size_append]; rfl
              clear hq hout hrow hbw
              go_wp2
              go_roundw
              case rel => rw [HR2.out]; exact ⟨f, i0 + m, _, by omega, by omega, by go_num, rfl, by rw [hts]; omega, HRW.out, HBWr.out, HOUT.out⟩
              case measure => simp [intOf]; omega
            · have e1 : ((i0 : Int) == atI q) = false := by
                rw [beq_eq_false_iff_ne]
                intro h
                apply hq
                cases q with
                | none => have h' : (i0 : Int) = -1 := h; omega
                | some b => have h' : (i0 : Int) = (b : Int) := h; rw [show b = i0 by omega]
              obtain ⟨gv, hgv⟩ : ∃ gv, gv = G.getD i0 0 := ⟨_, rfl⟩
              have hgs : gv ≤ 65535 := by rw [hgv]; exact HGS.out i0
              have hc := row_cell hrow (j := i0) (by rw [HGL.out]; exact hlt)
              rw [← hgv] at hc
              have i0' : (0 : Int) ≤ (i0 : Int) := by omega
              have HHX := Lib.hid (rHex gv (by omega) wr)
              have HXL := Lib.hid (hexD_len gv hgs)
              obtain ⟨T2, hT2⟩ : ∃ T2 : ByteArray, T2 = (if T.data.toList ≠ [] ∧ T.data.toList.getLastD 0 ≠ 58 then T ++ ⟨#[58]⟩ else T) := ⟨_, rfl⟩
              have HOUT : Hid (form6 a = outN G q m f (T2 ++ ⟨(hexD gv).toArray⟩).data.toList (i0 + 1)) := by
                refine hout.out.trans ?_
                rw [outN, if_pos hlt, if_neg hq, Joins.data_append, ← hgv, hT2]
                split <;> first | rfl | (simp [Joins.data_append]; done) | rw [Joins.data_append]
              have hsz2 : T2.size ≤ T.size + 1 := by
                rw [hT2]; split
                · rw [ByteArray.size_append]; exact Nat.le_refl _
                · omega
              have HT2 := Lib.hid hT2
              clear hq hout hrow hbw hT2 hgv
              obtain ⟨cb, hcb⟩ : ∃ cb, cb = decide (T.data.toList ≠ [] ∧ T.data.toList.getLastD 0 ≠ 58) := ⟨_, rfl⟩
              have HCB := Lib.hid hcb
              have HT3 : Hid (T2 = if cb = true then T ++ ⟨#[58]⟩ else T) := by
                refine HT2.out.trans ?_
                rw [hcb]; simp
              clear hcb HT2
              go_upto_region 24 with fail
              go_cut [78] (fun c wx => c = .bool cb ∧ wx = wr)
              case first =>
                by_cases h0 : T.size = 0
                · obtain rfl := str_empty h0
                  have HE : Hid (cb = false) := HCB.out.trans (by simp)
                  go_wp2
                  go_meet
                  exact ⟨by rw [HE.out], rfl⟩
                · obtain ⟨q1, q2⟩ := str_ne h0
                  have q3 : (T.toList == []) = false := by rw [beq_eq_false_iff_ne]; exact q2
                  have q4 : (T.toList != []) = true := by rw [bne_iff_ne]; exact q2
                  have hlast : T.data.toList.getLastD 0 = T[T.size - 1]'(by omega) := by
                    have h1 := str_get T (T.size - 1) (by omega)
                    rw [← h1, List.getLastD_eq_getLast?, List.getLast?_eq_getElem?, List.getD_eq_getElem?_getD, str_len]
                  have i5 : (0 : Int) ≤ (T.size : Int) - 1 := by omega
                  have i6 : ((T.size : Int) - 1).toNat = T.size - 1 := by omega
                  have HE : Hid (cb = decide (T[T.size - 1]'(by omega) ≠ 58)) := by
                    refine HCB.out.trans ?_
                    rw [hlast]
                    have : T.data.toList ≠ [] := fun h => h0 (by rw [← str_len, h]; rfl)
                    simp [this]
                  clear hlast
                  by_cases h58 : T[T.size - 1]'(by omega) = 58
                  · have e8 : (((T[T.size - 1]'(by omega)).toNat : Int) != 58) = false := by rw [h58]; rfl
                    have HE2 : Hid (cb = false) := by refine HE.out.trans ?_; simp [h58]
                    clear HE h58
                    go_wp2
                    go_meet
                    exact ⟨by rw [HE2.out], rfl⟩
                  · have e8 : (((T[T.size - 1]'(by omega)).toNat : Int) != 58) = true := by rw [bne_iff_ne]; intro h; exact h58 (UInt8.toNat_inj.1 (by show _ = 58; omega))
                    have HE2 : Hid (cb = true) := by refine HE.out.trans ?_; simp [h58]
                    clear HE h58
                    go_wp2
                    go_meet
                    exact ⟨by rw [HE2.out], rfl⟩
              case rest =>
                obtain ⟨rfl, hwc⟩ := hcut
                have hwc' := hwc.symm
                subst hwc'
                cases cb with
                | true =>
                  have hT3 : T2 = T ++ ⟨#[58]⟩ := HT3.out
                  subst hT3
                  go_wp2_with (go_at_call 94; refine HHX.out.mono ?_; rintro e w5 ⟨rfl, b5⟩; refine Hid.out ?_)
                  refine Lib.hid ?_
                  have HR5 : Hid (w5.heap[w.heap.size + 1]? = some (.cells (G.map I).toArray 3 (0, 0))) := (b5.block _ (heap_lt HRW.out)).trans HRW.out
                  have HB5 : Hid (Below w.heap.size w w5) := HBWr.out.trans (b5.mono HBWr.out.size)
                  have hxl := HXL.out
                  have hts : (T ++ ⟨#[58]⟩ ++ (⟨(hexD gv).toArray⟩ : ByteArray)).size = (T ++ ⟨#[58]⟩).size + (hexD gv).length := by rw [ByteArray.size_append, show (⟨(hexD gv).toArray⟩ : ByteArray).size = (hexD gv).length by show (hexD gv).toArray.size = _; simp]
                  have HXZ : Hid ((T ++ ⟨#[58]⟩ ++ (⟨(hexD gv).toArray⟩ : ByteArray)).size ≤ 5 * (i0 + 1)) := by show _ ≤ _; rw [hts]; omega
                  have hxs : (⟨(hexD gv).toArray⟩ : ByteArray).size ≤ 4 := by show (hexD gv).toArray.size ≤ 4; simpa using hxl
                  generalize (⟨(hexD gv).toArray⟩ : ByteArray) = HX at HOUT HXZ hxs
                  have HRR : Hid (R2 (.string (T ++ ⟨#[58]⟩ ++ HX)) (.int .i64 ((i0 : Int) + 1)) w5) := by
                    show R2 _ _ _
                    rw [HR2.out]
                    exact ⟨f, i0 + 1, _, by omega, by omega, by simp, rfl, HXZ.out, HR5.out, HB5.out, HOUT.out⟩
                  clear b5 hts hxl
                  go_wp2
                  go_roundw
                  case rel =>
                    (repeat apply Exists.intro)
                    exact ⟨HRR.out, rfl⟩
                  case measure => simp [intOf]; omega
                | false =>
                  have hT3 : T2 = T := HT3.out
                  subst hT3
                  go_wp2_with (go_at_call 94; refine HHX.out.mono ?_; rintro e w5 ⟨rfl, b5⟩; refine Hid.out ?_)
                  refine Lib.hid ?_
                  have HR5 : Hid (w5.heap[w.heap.size + 1]? = some (.cells (G.map I).toArray 3 (0, 0))) := (b5.block _ (heap_lt HRW.out)).trans HRW.out
                  have HB5 : Hid (Below w.heap.size w w5) := HBWr.out.trans (b5.mono HBWr.out.size)
                  have hxl := HXL.out
                  have hts : (T2 ++ (⟨(hexD gv).toArray⟩ : ByteArray)).size = (T2).size + (hexD gv).length := by rw [ByteArray.size_append, show (⟨(hexD gv).toArray⟩ : ByteArray).size = (hexD gv).length by show (hexD gv).toArray.size = _; simp]
                  have HXZ : Hid ((T2 ++ (⟨(hexD gv).toArray⟩ : ByteArray)).size ≤ 5 * (i0 + 1)) := by show _ ≤ _; rw [hts]; omega
                  have hxs : (⟨(hexD gv).toArray⟩ : ByteArray).size ≤ 4 := by show (hexD gv).toArray.size ≤ 4; simpa using hxl
                  generalize (⟨(hexD gv).toArray⟩ : ByteArray) = HX at HOUT HXZ hxs
                  have HRR : Hid (R2 (.string (T2 ++ HX)) (.int .i64 ((i0 : Int) + 1)) w5) := by
                    show R2 _ _ _
                    rw [HR2.out]
                    exact ⟨f, i0 + 1, _, by omega, by omega, by simp, rfl, HXZ.out, HR5.out, HB5.out, HOUT.out⟩
                  clear b5 hts hxl
                  go_wp2
                  go_roundw
                  case rel =>
                    (repeat apply Exists.intro)
                    exact ⟨HRR.out, rfl⟩
                  case measure => simp [intOf]; omega
          · have hfin : Hid (form6 a = T.data.toList) := by
              refine hout.out.trans ?_
              cases f with
              | zero => rfl
              | succ f => rw [outN, if_neg hlt]
            have i1 : ¬ (i0 : Int) < 8 := by omega
            have HBWr := Lib.hid hbw
            clear hrow hbw hout
            go_wp2
            go_ret
            exact ⟨by rw [hfin.out]; rfl, HBWr.out⟩
end Go.Proofs.YtnehgbpfgehhiaaGreatDoor.Cidr
