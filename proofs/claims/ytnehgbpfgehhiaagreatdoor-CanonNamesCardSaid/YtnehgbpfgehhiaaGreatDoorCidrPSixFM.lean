/-
  MERGED by mergefill.py: CidrPSixF, CidrPShow.
-/
import Derived.Test.YtnehgbpfgehhiaaGreatDoorCidrG5
import Derived.Deep.RegionHeld3
import Derived.Deep.CutBlock
import Derived.Deep.DeepCutAuto
import Derived.Test.YtnehgbpfgehhiaaGreatDoorCidrPRight
/-
  CIDR, the program: the form of an address of IPv6.
-/
namespace Go.Proofs.YtnehgbpfgehhiaaGreatDoor.Cidr
open Go.RowKit Base
/-- The groups so far. -/
def partU (a : List UInt8) (k : Nat) : List Value := (((grpsA a).take k).map U64) ++ List.replicate (8 - k) (U64 0)
theorem partU_set (a : List UInt8) {k : Nat} (h : k < 8) : (partU a k).toArray.setIfInBounds k (U64 (grpA a k)) = (partU a (k + 1)).toArray := by
  have hl : k < (grpsA a).length := by rw [grpsA_len]; exact h
  apply Array.toList_inj.1
  have e : (grpsA a)[k]? = some (grpA a k) := by unfold grpsA; simp [h]
  have e1 : (grpsA a)[k] = grpA a k := by rw [List.getElem?_eq_getElem hl] at e; exact Option.some.inj e
  have e2 : (List.map U64 (List.take k (grpsA a))).length = k := by rw [List.length_map, List.length_take, grpsA_len]; omega
  unfold partU
  rw [Array.toList_setIfInBounds]
  show List.set _ _ _ = _
  rw [List.set_append_right _ _ (by omega), e2, Nat.sub_self, show 8 - k = (8 - (k + 1)) + 1 by omega, List.replicate_succ, List.take_succ_eq_append_getElem hl, e1]
  simp
theorem partU_end (a : List UInt8) : partU a 8 = (grpsA a).map U64 := by
  unfold partU; rw [List.take_of_length_le (by rw [grpsA_len]; omega)]; simp
def GrpAt (w : World) (b : Nat) (vs : List Value) : Prop := w.heap[b]? = some (.cells vs.toArray 232 (0, 0))
theorem GrpAt.range {w : World} {b : Nat} {vs : List Value} (h : GrpAt w b vs) : w.rangeAt b 0 vs := fun j v hv => by
  rw [Nat.zero_add, cell_of_row w b j _ _ _ h]; simpa using hv
theorem GrpAt.on {w w' : World} {b : Nat} {vs : List Value} (h : GrpAt w b vs) (hb : Below w.heap.size w w') : GrpAt w' b vs := (hb.block b (heap_lt h)).trans h
theorem GrpAt.reads {w : World} {b : Nat} {G : List Nat} (h : GrpAt w b (G.map U64)) (o n c : Nat) (hn : o + n ≤ G.length) (hc : n ≤ c) : VReads w (.slice (some ⟨b, o, none⟩) n c) (((G.drop o).take n).map U64) := by
  have hl : ((G.drop o).take n).length = n := by rw [List.length_take, List.length_drop]; omega
  refine Or.inr ⟨b, o, c, by rw [List.length_map, hl], by rw [List.length_map, hl]; exact hc, fun i x hx => ?_⟩
  refine h.range (o + i) x ?_ |> fun h => by rwa [Nat.zero_add] at h
  rw [List.getElem?_map] at hx ⊢
  rw [← hx, List.getElem?_take]
  split
  · rw [List.getElem?_drop]
  · rename_i hi
    rw [List.getElem?_take, if_neg hi] at hx
    cases hx
theorem slice_to (w : World) (b f : Nat) (h : f ≤ 8) : (Instr.sliceAt 232 (.pointer (some ⟨b, 0, none⟩)) none (some (.int .i64 (f : Int))) none).run Tryz.prog w = .ok (.slice (some ⟨b, 0, none⟩) f 8) w := by
  rcases (by omega : f = 0 ∨ f = 1 ∨ f = 2 ∨ f = 3 ∨ f = 4 ∨ f = 5 ∨ f = 6 ∨ f = 7 ∨ f = 8) with rfl | rfl | rfl | rfl | rfl | rfl | rfl | rfl | rfl
  all_goals kernel_rfl
theorem slice_all (w : World) (b : Nat) : (Instr.sliceAt 232 (.pointer (some ⟨b, 0, none⟩)) none none none).run Tryz.prog w = .ok (.slice (some ⟨b, 0, none⟩) 8 8) w := by kernel_rfl
theorem slice_from (b f : Nat) (h : f ≤ 8) : ∃ p, (∀ w, (Instr.sliceAt 232 (.pointer (some ⟨b, 0, none⟩)) (some (.int .i64 (f : Int))) none none).run Tryz.prog w = .ok (.slice p (8 - f) (8 - f)) w) ∧ (f < 8 → p = some ⟨b, f, none⟩) := by
  rcases (by omega : f = 0 ∨ f = 1 ∨ f = 2 ∨ f = 3 ∨ f = 4 ∨ f = 5 ∨ f = 6 ∨ f = 7 ∨ f = 8) with rfl | rfl | rfl | rfl | rfl | rfl | rfl | rfl | rfl
  rotate_left 8
  · exact ⟨some ⟨b, 0, none⟩, fun w => by kernel_rfl, fun h => by omega⟩
  all_goals exact ⟨_, fun w => by kernel_rfl, fun _ => rfl⟩
theorem or_sum (x y : Nat) (hx : x < 256) (hy : y < 256) : bits .or .u64 ((x : Int) * 256) (y : Int) = ((256 * x + y : Nat) : Int) := by
  have h := bits_or_u64_nat (x * 256) y (by omega) (by omega)
  rw [show ((x * 256 : Nat) : Int) = (x : Int) * 256 from Int.natCast_mul x 256] at h
  rw [h]
  congr 1
  have := Nat.shiftLeft_add_eq_or_of_lt (i := 8) (show y < 2 ^ 8 by omega) x
  rw [Nat.shiftLeft_eq, show 2 ^ 8 = 256 from rfl] at this
  omega
set_option linter.unusedSimpArgs false in
set_option maxHeartbeats 4000000 in
set_option maxRecDepth 100000 in
theorem pFormSix (a : List UInt8) (ha : a.length = 16) (w : World) (he : EnvS w) : Calls Tryz.prog 139 #[.agg (a.map B8).toArray] w (fun e w' => e = .returned (S (form6 a)) ∧ Below w.heap.size w w') := by
  have HA := Lib.hid ha
  have H0 := Lib.hid (AddrAt.new w a)
  have HB1 := Lib.hid (Below.alloc1 w (.cells (a.map B8).toArray 70))
  have hsz : (w.alloc (.cells (a.map B8).toArray 70)).heap.size = w.heap.size + 1 := by simp
  have HG : Hid (((w.alloc (.cells (a.map B8).toArray 70)).alloc (.cells (partU a 0).toArray 232)).heap[w.heap.size + 1]? = some (.cells (partU a 0).toArray 232 (0, 0))) := by
    have := (MapKept.heap_alloc (w.alloc (.cells (a.map B8).toArray 70)) (.cells (partU a 0).toArray 232)).1
    rw [hsz] at this
    exact this
  have HBW : Hid (Below w.heap.size w ((w.alloc (.cells (a.map B8).toArray 70)).alloc (.cells (partU a 0).toArray 232))) := (Below.alloc1 _ _).trans ((Below.alloc1 _ _).mono (by rw [hsz]; omega))
  have HAT : Hid (AddrAt ((w.alloc (.cells (a.map B8).toArray 70)).alloc (.cells (partU a 0).toArray 232)) w.heap.size a) := H0.out.on (Below.alloc1 _ _)
  obtain ⟨R, hR⟩ : ∃ R : Value → World → Prop, R = fun i wr => ∃ k : Nat, k ≤ 8 ∧ i = .int .i64 (k : Int) ∧ AddrAt wr w.heap.size a ∧ GrpAt wr (w.heap.size + 1) (partU a k) ∧ Below w.heap.size w wr := ⟨_, rfl⟩
  have HR := Lib.hid hR
  have HST : Hid (R (.int .i64 0) ((w.alloc (.cells (a.map B8).toArray 70)).alloc (.cells (partU a 0).toArray 232))) := by
    show R _ _
    rw [HR.out]; exact ⟨0, by omega, rfl, HAT.out, HG.out, HBW.out⟩
  have HE := Lib.hid he
  clear hR ha hsz he
  go_enter Tryz.func139, Tryz.ntmps139
  go_wp2
  go_loopw [7] (fun i wr => R i wr) (fun i _ => 8 - (intOf i).toNat)
  case atStart => exact HST.out
  case round =>
    rw [HR.out] at hrel
    obtain ⟨k, hk, rfl, hb, hg, hbw⟩ := hrel
    by_cases hlt : k < 8
    · obtain ⟨x, hx⟩ : ∃ x, x = (a.getD (2 * k) 0).toNat := ⟨_, rfl⟩
      obtain ⟨y, hy⟩ : ∃ y, y = (a.getD (2 * k + 1) 0).toNat := ⟨_, rfl⟩
      have hx2 : x < 256 := by rw [hx]; exact (a.getD (2 * k) 0).toNat_lt
      have hy2 : y < 256 := by rw [hy]; exact (a.getD (2 * k + 1) 0).toNat_lt
      have c1 : wr.drew.cell? ⟨w.heap.size, 2 * k, none⟩ = some (.int .u8 (x : Int)) := by
        rw [hx]; exact (hb.cell (k := 2 * k) (by rw [HA.out]; omega)).1
      have c2 : wr.drew.cell? ⟨w.heap.size, 2 * k + 1, none⟩ = some (.int .u8 (y : Int)) := by
        rw [hy]; exact (hb.cell (k := 2 * k + 1) (by rw [HA.out]; omega)).1
      have c3 : ∃ v, wr.drew.cell? ⟨w.heap.size + 1, k, none⟩ = some v := by
        have : wr.cell? ⟨w.heap.size + 1, k, none⟩ = _ := cell_of_row wr _ k _ _ _ hg
        refine ⟨(partU a k).toArray[k]'(by simp [partU, grpsA_len]; omega), (show wr.drew.cell? _ = wr.cell? _ from rfl).trans (this.trans (Array.getElem?_eq_getElem _))⟩
      obtain ⟨v, c3⟩ := c3
      have c4 : wr.drew.frozen? ⟨w.heap.size + 1, k, none⟩ = false := by
        have : wr.frozen? ⟨w.heap.size + 1, k, none⟩ = false := by simp [World.frozen?, show wr.heap[w.heap.size + 1]? = _ from hg]
        exact this
      have i1 : (k : Int) < 8 := by omega
      have i0 : (0 : Int) ≤ (k : Int) := by omega
      have i2 : (0 : Int) ≤ 2 * (k : Int) := by omega
      have i3 : 2 * (k : Int) < 16 := by omega
      have i4 : (0 : Int) ≤ 2 * (k : Int) + 1 := by omega
      have i5 : 2 * (k : Int) + 1 < 16 := by omega
      have wr1 : IntKind.i64.wrap (2 * (k : Int)) = 2 * (k : Int) := IntWalk.i64_in _ (by omega)
      have wr2 : IntKind.i64.wrap (2 * (k : Int) + 1) = 2 * (k : Int) + 1 := IntWalk.i64_in _ (by omega)
      have tn1 : (2 * (k : Int)).toNat = 2 * k := by omega
      have tn2 : (2 * (k : Int) + 1).toNat = 2 * k + 1 := by omega
      have hor := or_sum x y hx2 hy2
      have wr3 : IntKind.u64.wrap (x : Int) = (x : Int) := IntWalk.u64_in _ (by omega)
      have wr4 : IntKind.u64.wrap (y : Int) = (y : Int) := IntWalk.u64_in _ (by omega)
      have wr5 : IntKind.u64.wrap ((x : Int) * 256) = (x : Int) * 256 := IntWalk.u64_in _ (by omega)
      have n1 : w.heap.size + 1 ≠ w.heap.size := by omega
      have HBr := Lib.hid hb
      have HGr := Lib.hid hg
      have HWr := Lib.hid hbw
      have HGA : Hid (grpA a k = 256 * x + y) := by rw [hx, hy]; rfl
      clear hb hg hbw hx hy
      go_wp2
      go_region_held3 (fun w' => w'.cell? ⟨w.heap.size, 2 * k, none⟩ = some (.int .u8 (x : Int)) ∧ w'.cell? ⟨w.heap.size, 2 * k + 1, none⟩ = some (.int .u8 (y : Int)))
        (first | exact ⟨c1, c2⟩ | exact ⟨(World.cell?_setCell_far _ _ _ _ n1).trans c1, (World.cell?_setCell_far _ _ _ _ n1).trans c2⟩ | fail) (fail)
      have HRK : Hid (R (.int .i64 ((k : Int) + 1)) (wr.setCell ⟨w.heap.size + 1, k, none⟩ (.int .u64 ((256 * x + y : Nat) : Int))).drew) := by
        show R _ _
        rw [HR.out]
        have hk1 := KeepX.set (w.heap.size + 1) wr k (.int .u64 ((256 * x + y : Nat) : Int))
        have hg1 := heap_setCell_any wr (w.heap.size + 1) k _ _ _ (.int .u64 ((256 * x + y : Nat) : Int)) HGr.out
        rw [show Value.int .u64 ((256 * x + y : Nat) : Int) = U64 (grpA a k) by rw [HGA.out], partU_set a hlt] at hg1
        have hb1 : Below w.heap.size w (wr.setCell ⟨w.heap.size + 1, k, none⟩ (.int .u64 ((256 * x + y : Nat) : Int))) := HWr.out.trans (hk1.below (by omega) (heap_lt HGr.out))
        refine ⟨k + 1, by omega, by simp, (hk1.block _ (heap_lt HBr.out) (by omega)).trans HBr.out, ?_, ⟨hb1.os, hb1.tape, hb1.output, hb1.size, hb1.block⟩⟩
        rw [show Value.int .u64 ((256 * x + y : Nat) : Int) = U64 (grpA a k) by rw [HGA.out]]
        exact hg1
      clear c1 c2 c3 c4
      go_wp2
      go_roundw
      case rel => exact HRK.out
      case measure => simp [intOf]; omega
    · have hk8 : k = 8 := by omega
      subst hk8
      rw [partU_end] at hg
      have i1 : ¬ ((8 : Nat) : Int) < 8 := by omega
      have HROW := Lib.hid hg
      have HBW2 := Lib.hid hbw
      have HES := Lib.hid (HE.out.on hbw)
      clear hb hg hbw
      have hF := form6_eq (grpsA a) (grpsA_len a)
      have HFM : Hid (form6 a = form6P (grpsA a)) := hF
      have hGL := grpsA_len a
      have hGS : ∀ g ∈ grpsA a, g ≤ 65535 := fun g hg => by
        unfold grpsA at hg
        obtain ⟨i, _, rfl⟩ := List.mem_map.1 hg
        exact grpA_le a i
      generalize grpsA a = G at HROW HFM hGL hGS
      have HGS := Lib.hid hGS
      have HGL := Lib.hid hGL
      have HS81 : Hid ((Tryz.prog.info? 232).map (·.size) = some (G.map U64).length) := by show _ = _; rw [size81]; simp [hGL]
      have HZ := Lib.hid (pZeros G hGL wr)
      have HRG := Lib.hid (GrpAt.range HROW.out)
      obtain ⟨z1, z2, -⟩ := zN_ok G 8
      unfold form6P at HFM
      have hfull := fun w' h => GrpAt.reads (w := w') (G := G) (b := w.heap.size + 1) h 0 8 8 (by omega) (by omega)
      have hto := fun w' h f (hf : f ≤ 8) => GrpAt.reads (w := w') (G := G) (b := w.heap.size + 1) h 0 f 8 (by omega) (by omega)
      have hfrom := fun w' h f (hf : f ≤ 8) => GrpAt.reads (w := w') (G := G) (b := w.heap.size + 1) h f (8 - f) (8 - f) (by omega) (by omega)
      generalize (zN G 8).1 = f at HZ z1 HFM
      generalize (zN G 8).2.1 = t at HZ z1 z2 HFM
      clear hF hGL hGS
      go_wp2_with (first | (refine wpList_load_mid rfl 232 (.tmp 3) rfl (w.heap.size + 1) 0 rfl (G.map U64) _ HRG.out Tryz.underlying232 rfl HS81.out ?_) | (go_at_call 184; refine HZ.out.mono ?_; rintro e w2 ⟨rfl, b2⟩; refine Hid.out ?_) | fail)
      refine Lib.hid ?_
      have HROW2 := Lib.hid (GrpAt.on HROW.out b2)
      have HBW3 : Hid (Below w.heap.size w w2) := HBW2.out.trans (b2.mono HBW2.out.size)
      have HES2 := Lib.hid (HES.out.on b2)
      clear b2
      by_cases hft : f = t
      · subst hft
        have hsl := slice_all w2 (w.heap.size + 1)
        rw [if_pos rfl] at HFM
        have hr := hfull w2 HROW2.out
        rw [List.drop_zero, List.take_of_length_le (by rw [HGL.out]; omega)] at hr
        have HFG := Lib.hid (pFormGroups (some ⟨w.heap.size + 1, 0, none⟩) 8 G HGS.out (by rw [HGL.out]; omega) w2 (by rw [HGL.out]; exact hr) HES2.out)
        rw [HGL.out] at HFG
        clear hr hfull hto hfrom
        go_wp2_with (first | (go_at_call 185; refine HFG.out.mono ?_; rintro e w3 ⟨rfl, b3⟩; refine Hid.out ?_) | fail)
        refine Lib.hid ?_
        go_wp2
        go_ret
        exact ⟨by rw [HFM.out]; rfl, HBW3.out.trans (b3.mono HBW3.out.size)⟩
      · have e1 : ((f : Int) == (t : Int)) = false := by rw [beq_eq_false_iff_ne]; omega
        rw [if_neg hft] at HFM
        have hst := fun w' => slice_to w' (w.heap.size + 1) f (by omega)
        obtain ⟨p, hsf, hp⟩ := slice_from (w.heap.size + 1) t (by omega)
        have H1 : Hid (∀ w', Below w2.heap.size w2 w' → Calls Tryz.prog 185 #[.slice (some ⟨w.heap.size + 1, 0, none⟩) f 8] w' fun e w3 => e = .returned (.string ⟨(Lib.join ((G.take f).map hexD) [58]).toArray⟩) ∧ Below w'.heap.size w' w3) := fun w' hb => by
          have hr := hto w' (HROW2.out.on hb) f (by omega)
          rw [List.drop_zero] at hr
          have := pFormGroups (some ⟨w.heap.size + 1, 0, none⟩) 8 (G.take f) (fun g hg => HGS.out g (List.mem_of_mem_take hg)) (by rw [List.length_take]; omega) w' (by rw [List.length_take, HGL.out, show min f 8 = f by omega]; exact hr) (HES2.out.on hb)
          rw [List.length_take, HGL.out, show min f 8 = f by omega] at this
          exact this
        have H2 : Hid (∀ w', Below w2.heap.size w2 w' → Calls Tryz.prog 185 #[.slice p (8 - t) (8 - t)] w' fun e w3 => e = .returned (.string ⟨(Lib.join ((G.drop t).map hexD) [58]).toArray⟩) ∧ Below w'.heap.size w' w3) := fun w' hb => by
          have hl : (G.drop t).length = 8 - t := by rw [List.length_drop, HGL.out]
          have hr : VReads w' (.slice p (8 - t) (8 - t)) ((G.drop t).map U64) := by
            by_cases h8 : t < 8
            · have hr := hfrom w' (HROW2.out.on hb) t (by omega)
              rw [List.take_of_length_le (by omega)] at hr
              rw [hp h8]; exact hr
            · obtain rfl : t = 8 := by omega
              have : G.drop 8 = [] := List.eq_nil_of_length_eq_zero (by omega)
              rw [this]
              exact Or.inl ⟨rfl, p, 0, rfl, fun _ => rfl⟩
          have := pFormGroups p (8 - t) (G.drop t) (fun g hg => HGS.out g (List.mem_of_mem_drop hg)) (by omega) w' (by rw [hl]; exact hr) (HES2.out.on hb)
          rw [hl] at this
          exact this
        have hl1 : (⟨(Lib.join ((G.take f).map hexD) [58]).toArray⟩ : ByteArray).size ≤ 1000 := by
          rw [arr_size]
          have := join_small 58 ((G.take f).map hexD) fun l hl => by
            obtain ⟨g, hg, rfl⟩ := List.mem_map.1 hl
            exact hexD_len4 g (HGS.out g (List.mem_of_mem_take hg))
          have h2 := HGL.out
          rw [List.length_map, List.length_take] at this; omega
        have hl2 : (⟨(Lib.join ((G.drop t).map hexD) [58]).toArray⟩ : ByteArray).size ≤ 1000 := by
          rw [arr_size]
          have := join_small 58 ((G.drop t).map hexD) fun l hl => by
            obtain ⟨g, hg, rfl⟩ := List.mem_map.1 hl
            exact hexD_len4 g (HGS.out g (List.mem_of_mem_drop hg))
          have h2 := HGL.out
          rw [List.length_map, List.length_drop] at this; omega
        have HFIN : Hid ((⟨(Lib.join ((G.take f).map hexD) [58]).toArray⟩ : ByteArray) ++ ⟨#[58, 58]⟩ ++ ⟨(Lib.join ((G.drop t).map hexD) [58]).toArray⟩ = ⟨(form6 a).toArray⟩) := by
          show _ = _
          apply ByteArray.ext
          apply Array.toList_inj.1
          rw [Joins.data_append, Joins.data_append, HFM.out]
        generalize (⟨(Lib.join ((G.take f).map hexD) [58]).toArray⟩ : ByteArray) = T1 at H1 hl1 HFIN
        generalize (⟨(Lib.join ((G.drop t).map hexD) [58]).toArray⟩ : ByteArray) = T2 at H2 hl2 HFIN
        have hb1 : ¬ 9223372036854775807 < T1.size + 2 := by omega
        have hb2 : ¬ 9223372036854775807 < T1.size + 2 + T2.size := by omega
        have hts : (T1 ++ (⟨#[58, 58]⟩ : ByteArray)).size = T1.size + 2 := by rw [ByteArray.size_append]; rfl
        clear hfull hto hfrom hp hft
        go_wp2
        refine wp_region_noPanic ?_
        refine wp_region_held_drew (S := fun w' => Below w2.heap.size w2 w') (by kernel_rfl) (Below.refl _ _).drew (fun hHeld => ?_)
        refine wpAnyH_take (i := 0) (v := ?vz1) rfl (by kernel_rfl) (by kernel_rfl) (by kernel_rfl) (fun _ _ _ h => h) (Or.inl ⟨by rfl, ?hyz1⟩) (by assumption) ?restz1
        case hyz1 => (intro w hSw; (try dsimp only at hSw); go_simp; try with_reducible rfl)
        (try simp only [Act.put, List.getElem_toArray, List.getElem_cons_succ, List.getElem_cons_zero, List.setIfInBounds_toArray, List.set_cons_zero, List.set_cons_succ])
        refine wpAnyH_take (i := 1) (v := ?vz2) rfl (by kernel_rfl) (by kernel_rfl) (by kernel_rfl) (fun _ _ _ h => h) (Or.inl ⟨by rfl, ?hyz2⟩) (by assumption) ?restz2
        case hyz2 => (intro w hSw; (try dsimp only at hSw); go_simp; try with_reducible rfl)
        (try simp only [Act.put, List.getElem_toArray, List.getElem_cons_succ, List.getElem_cons_zero, List.setIfInBounds_toArray, List.set_cons_zero, List.set_cons_succ])
        refine wpAnyH_take (i := 4) (v := ?vz3) rfl (by kernel_rfl) (by kernel_rfl) (by kernel_rfl) (fun _ _ _ h => h) (Or.inl ⟨by rfl, ?hyz3⟩) (by assumption) ?restz3
        case hyz3 => (intro w hSw; (try dsimp only at hSw); go_simp; try with_reducible rfl)
        (try simp only [Act.put, List.getElem_toArray, List.getElem_cons_succ, List.getElem_cons_zero, List.setIfInBounds_toArray, List.set_cons_zero, List.set_cons_succ])
        refine wpAnyH_take (i := 5) (v := ?vz4) rfl (by kernel_rfl) (by kernel_rfl) (by kernel_rfl) (fun _ _ _ h => h) (Or.inl ⟨by rfl, ?hyz4⟩) (by assumption) ?restz4
        case hyz4 => (intro w hSw; (try dsimp only at hSw); go_simp; try with_reducible rfl)
        (try simp only [Act.put, List.getElem_toArray, List.getElem_cons_succ, List.getElem_cons_zero, List.setIfInBounds_toArray, List.set_cons_zero, List.set_cons_succ])
        refine wpAnyH_ready (rs := [2]) (by kernel_rfl) (by simp) ?_
        refine AllReadyH.cons rfl (fun K hK => ?_) AllReadyH.nil
        go_simp
        go_wp2_with (go_at_call 185; refine (H1.out _ (by assumption)).mono ?_; rintro e wn1 ⟨rfl, hb1⟩)
        refine hK.out _ _ ((by assumption : Below w2.heap.size w2 _).trans (hb1.mono (Below.size (by assumption)))) (fun hHeld => ?_)
        clear hK K
        (try simp only [Act.put, List.getElem_toArray, List.getElem_cons_succ, List.getElem_cons_zero, List.setIfInBounds_toArray, List.set_cons_zero, List.set_cons_succ])
        refine wpAnyH_take (i := 3) (v := ?vz6) rfl (by kernel_rfl) (by kernel_rfl) (by kernel_rfl) (fun _ _ _ h => h) (Or.inl ⟨by rfl, ?hyz6⟩) (by assumption) ?restz6
        case hyz6 => (intro w hSw; (try dsimp only at hSw); go_simp; try with_reducible rfl)
        (try simp only [Act.put, List.getElem_toArray, List.getElem_cons_succ, List.getElem_cons_zero, List.setIfInBounds_toArray, List.set_cons_zero, List.set_cons_succ])
        refine wpAnyH_ready (rs := [6]) (by kernel_rfl) (by simp) ?_
        refine AllReadyH.cons rfl (fun K hK => ?_) AllReadyH.nil
        go_simp
        go_wp2_with (go_at_call 185; refine (H2.out _ (by assumption)).mono ?_; rintro e wn2 ⟨rfl, hb2⟩)
        refine hK.out _ _ ((by assumption : Below w2.heap.size w2 _).trans (hb2.mono (Below.size (by assumption)))) (fun hHeld => ?_)
        clear hK K
        (try simp only [Act.put, List.getElem_toArray, List.getElem_cons_succ, List.getElem_cons_zero, List.setIfInBounds_toArray, List.set_cons_zero, List.set_cons_succ])
        refine wpAnyH_take (i := 7) (v := ?vz8) rfl (by kernel_rfl) (by kernel_rfl) (by kernel_rfl) (fun _ _ _ h => h) (Or.inl ⟨by rfl, ?hyz8⟩) (by assumption) ?restz8
        case hyz8 => (intro w hSw; (try dsimp only at hSw); go_simp; try with_reducible rfl)
        (try simp only [Act.put, List.getElem_toArray, List.getElem_cons_succ, List.getElem_cons_zero, List.setIfInBounds_toArray, List.set_cons_zero, List.set_cons_succ])
        refine wpAnyH_take (i := 8) (v := ?vz9) rfl (by kernel_rfl) (by kernel_rfl) (by kernel_rfl) (fun _ _ _ h => h) (Or.inl ⟨by rfl, ?hyz9⟩) (by assumption) ?restz9
        case hyz9 => (intro w hSw; (try dsimp only at hSw); go_simp; try with_reducible rfl)
        (try simp only [Act.put, List.getElem_toArray, List.getElem_cons_succ, List.getElem_cons_zero, List.setIfInBounds_toArray, List.set_cons_zero, List.set_cons_succ])
        refine wpAnyH_done (by kernel_rfl) ?_ _
        refine NoPanic.normal ?_
        go_wp2
        go_ret
        exact ⟨by rw [HFIN.out]; rfl, HBW3.out.trans (Below.mono (by assumption) HBW3.out.size)⟩
end Go.Proofs.YtnehgbpfgehhiaaGreatDoor.Cidr
/-
  CIDR, the program: a range's form.
-/
namespace Go.Proofs.YtnehgbpfgehhiaaGreatDoor.Cidr
open Go.RowKit Base
def bitsS (n : NetM) : List UInt8 := if n.bits = sizeN n.six then [] else 47 :: Lib.decDigits n.bits.toNat
set_option maxHeartbeats 4000000 in
set_option maxRecDepth 100000 in
theorem pFormBits (n : NetM) (h0 : 0 ≤ n.bits) (h1 : n.bits ≤ 128) (w : World) (he : Env w) : Calls Tryz.prog 140 #[netV n] w fun e w' => e = .returned (S (bitsS n)) ∧ Below w.heap.size w w' := by
  have HN0 := Lib.hid (NetAt.new w n)
  have HB0 := Lib.hid (Below.alloc1 w (.cells (netC n) 72))
  have HM := Lib.hid (fun wx => pMost n.six wx)
  obtain ⟨o, ho⟩ : ∃ o, o = bitsS n := ⟨_, rfl⟩
  have HO := Lib.hid ho
  rw [← ho]
  obtain ⟨w1, hw1⟩ : ∃ w1, w1 = w.alloc (.cells (netC n) 72) := ⟨_, rfl⟩
  rw [← hw1] at HN0 HB0
  have HE1 := Lib.hid (he.on HB0.out)
  have hs0 := HN0.out.six
  have hb := HN0.out.bits
  unfold bitsS at HO
  generalize sizeN n.six = sz at HM HO
  clear ho
  by_cases hq : n.bits = sz
  · have e1 : (n.bits == sz) = true := by rw [hq]; simp
    have HY : Hid (o = []) := by have := HO.out; rw [if_pos hq] at this; exact this
    clear hq
    have HST : Hid (Below w1.heap.size w1 w1.drew ∧ w1.drew.cell? ⟨w.heap.size, 0, none⟩ = some (.bool n.six) ∧ w1.drew.cell? ⟨w.heap.size, 1, none⟩ = some (.int .i64 n.bits)) := ⟨⟨rfl, rfl, rfl, Nat.le_refl _, fun _ _ => rfl⟩, hs0, hb⟩
    go_enter Tryz.func140, Tryz.ntmps140
    go_upto_region 1 with fail
    rw [← hw1]
    clear hw1
    go_region_held3 (fun w' => Below w1.heap.size w1 w' ∧ w'.cell? ⟨w.heap.size, 0, none⟩ = some (.bool n.six) ∧ w'.cell? ⟨w.heap.size, 1, none⟩ = some (.int .i64 n.bits))
      (first | exact HST.out | assumption | fail)
      (first | (go_at_call 136; refine (HM.out _).mono ?_; rintro e wn ⟨rfl, rfl⟩) | fail)
    go_wp2
    go_ret
    exact ⟨by rw [HY.out]; rfl, (HB0.out.trans (Below.mono (Below.refl _ _).drew HB0.out.size))⟩
  · have e1 : (n.bits == sz) = false := by rw [beq_eq_false_iff_ne]; exact hq
    obtain ⟨m, hm⟩ := Int.eq_ofNat_of_zero_le h0
    have HY : Hid (o = 47 :: Lib.decDigits m) := by have := HO.out; rw [if_neg hq, hm] at this; exact this
    have hdl := dec_len0 2 m (by omega)
    have hds : (⟨(Lib.decDigits m).toArray⟩ : ByteArray).size ≤ 3 := by rw [arr_size]; exact hdl
    have hb1 : ¬ 9223372036854775807 < 1 + (⟨(Lib.decDigits m).toArray⟩ : ByteArray).size := by omega
    have HI : Hid (∀ wx, Env wx → Calls Tryz.prog 182 #[.int .i64 (m : Int)] wx fun e w' => e = .returned (.string ⟨(Lib.decDigits m).toArray⟩) ∧ Below wx.heap.size wx w') := fun wx hx => pItoa m (by omega) wx hx
    have HFIN : Hid ((⟨#[47]⟩ : ByteArray) ++ (⟨(Lib.decDigits m).toArray⟩ : ByteArray) = ⟨o.toArray⟩) := by
      show _ = _
      apply ByteArray.ext
      apply Array.toList_inj.1
      rw [Joins.data_append, HY.out]
      simp
    rw [hm] at hb e1
    have HST : Hid (Below w1.heap.size w1 w1.drew ∧ w1.drew.cell? ⟨w.heap.size, 0, none⟩ = some (.bool n.six) ∧ w1.drew.cell? ⟨w.heap.size, 1, none⟩ = some (.int .i64 (m : Int))) := ⟨⟨rfl, rfl, rfl, Nat.le_refl _, fun _ _ => rfl⟩, hs0, hb⟩
    clear hq hm HO
    generalize (⟨(Lib.decDigits m).toArray⟩ : ByteArray) = DX at HI hds hb1 HFIN
    go_enter Tryz.func140, Tryz.ntmps140
    go_upto_region 1 with fail
    rw [← hw1]
    clear hw1
    go_region_held3 (fun w' => Below w1.heap.size w1 w' ∧ w'.cell? ⟨w.heap.size, 0, none⟩ = some (.bool n.six) ∧ w'.cell? ⟨w.heap.size, 1, none⟩ = some (.int .i64 (m : Int)))
      (first | exact HST.out | assumption | fail)
      (first | (go_at_call 136; refine (HM.out _).mono ?_; rintro e wn ⟨rfl, rfl⟩) | fail)
    have HE2 := Lib.hid (HE1.out.on (Below.refl _ _).drew)
    go_wp2_with (first | (go_at_call 182; refine (HI.out _ HE2.out).mono ?_; rintro e w5 ⟨rfl, b5⟩; refine Hid.out ?_) | fail)
    refine Lib.hid ?_
    have HB5 : Hid (Below w.heap.size w w5) := HB0.out.trans (((Below.refl _ _).drew.trans (b5.mono (Nat.le_refl _))).mono HB0.out.size)
    clear b5
    go_wp2
    go_ret
    exact ⟨by rw [HFIN.out]; rfl, HB5.out⟩
set_option maxHeartbeats 4000000 in
set_option maxRecDepth 100000 in
theorem pShow (n : NetM) (ha : n.a.length = 16) (w : World) (he : EnvS w) : Calls Tryz.prog 102 #[netV n] w (ShowEnd (showN n) w) := by
  obtain ⟨o, ho⟩ : ∃ o, o = showN n := ⟨_, rfl⟩
  rw [← ho]
  unfold showN at ho
  have hnb := fun h => rightN_bits (n := n) h
  have HRI := Lib.hid (fun wx => pRight n ha wx)
  have HA := Lib.hid ha
  have HN0 := Lib.hid (NetAt.new w n)
  have HB0 := Lib.hid (Below.alloc1 w (.cells (netC n) 72))
  have HE0 := Lib.hid (he.on HB0.out)
  have HS := Lib.hid (size25_of ha)
  have HS23 := Lib.hid (size23_of ha)
  have HPB := Lib.hid (fun h0 h1 wx hx => pFormBits n h0 h1 wx hx)
  have HF4 := Lib.hid (fun wx hx => pFormFour n.a ha wx hx)
  have HF6 := Lib.hid (fun wx hx => pFormSix n.a ha wx hx)
  generalize rightN n = r at ho hnb HRI
  have HO := Lib.hid ho
  clear ho ha he
  go_enter Tryz.func102, Tryz.ntmps102
  go_wp2_with (first | (refine wpList_load_mid rfl 72 (.tmp 1) rfl w.heap.size 0 rfl (netL n) _ HN0.out.range0 Tryz.underlying72 rfl HS.out ?_) | (go_at_call 137; refine (HRI.out _).mono ?_; rintro e w1 ⟨rfl, b1⟩; refine Hid.out ?_) | fail)
  refine Lib.hid ?_
  have HN1 := Lib.hid (HN0.out.on b1)
  have HB1 : Hid (Below w.heap.size w w1) := HB0.out.trans (b1.mono HB0.out.size)
  have HE1 := Lib.hid (HE0.out.on b1)
  clear b1
  cases r with
  | false =>
    have HNO : Hid (o = none) := HO.out
    go_wp2
    go_ret2
    exact ⟨HB1.out, Or.inl ⟨HNO.out, rfl⟩⟩
  | true =>
    obtain ⟨hb0, hb1⟩ := hnb rfl
    have HYES : Hid (o = some (addrS n ++ bitsS n)) := by
      show _ = _
      rw [HO.out, if_pos rfl]
      unfold bitsS
      split
      · simp
      · simp
    have HPB2 := Lib.hid (HPB.out hb0 (by have : sizeN n.six ≤ 128 := by unfold sizeN; split <;> decide
                                          omega))
    have HRG := Lib.hid HN1.out.range
    have hsix := HN1.out.six
    clear hnb HO
    go_wp2_with (first | (refine wpList_load_mid rfl 70 (.tmp 8) rfl w.heap.size 2 rfl (n.a.map B8) _ HRG.out Tryz.underlying70 rfl HS23.out ?_) | (go_at_call 138; refine (HF4.out _ HE1.out.env).mono ?_; rintro e w2 ⟨rfl, b2⟩; refine Hid.out ?_) | fail)
    refine Lib.hid ?_
    have HN2 := Lib.hid (HN1.out.on b2)
    have HB2 : Hid (Below w.heap.size w w2) := HB1.out.trans (b2.mono HB1.out.size)
    have HE2 := Lib.hid (HE1.out.on b2)
    clear b2 hsix
    have hsix := HN2.out.six
    obtain ⟨T, hT⟩ : ∃ T : ByteArray, T = ⟨(addrS n).toArray⟩ := ⟨_, rfl⟩
    have HT := Lib.hid hT
    clear hT
    go_upto_if 12 with fail
    go_cut [4] (fun s wx => s = .string T ∧ Below w2.heap.size w2 wx ∧ T.size ≤ 100)
    case first =>
      cases h6 : n.six with
      | true =>
        have HRG2 := Lib.hid HN2.out.range
        have HF := Lib.hid (HF6.out w2 HE2.out)
        rw [h6] at hsix
        have HE : Hid ((⟨(form6 n.a).toArray⟩ : ByteArray) = T) := by
          show _ = _
          rw [HT.out]; unfold addrS; rw [if_pos h6]
        have HL : Hid (T.size ≤ 100) := by
          have := form6_len n.a
          show T.size ≤ 100
          rw [← HE.out, arr_size]; omega
        clear h6
        go_wp2_with (first | (refine wpList_load_mid rfl 70 (.tmp 13) rfl w.heap.size 2 rfl (n.a.map B8) _ HRG2.out Tryz.underlying70 rfl HS23.out ?_) | (go_at_call 139; refine HF.out.mono ?_; rintro e w3 ⟨rfl, b3⟩; refine Hid.out ?_) | fail)
        refine Lib.hid ?_
        have B3 := Lib.hid b3
        clear b3
        go_wp2
        go_meet
        exact ⟨by rw [← HE.out], B3.out, HL.out⟩
      | false =>
        rw [h6] at hsix
        have HE : Hid ((⟨(fourA n.a 4).toArray⟩ : ByteArray) = T) := by
          show _ = _
          rw [HT.out]; unfold addrS; rw [if_neg (by rw [h6]; simp)]
        have HL : Hid (T.size ≤ 100) := by
          have := fourA_len n.a 4
          show T.size ≤ 100
          rw [← HE.out, arr_size]; omega
        clear h6
        go_wp2
        go_meet
        exact ⟨by rw [← HE.out], Below.refl _ _, HL.out⟩
    case rest =>
      obtain ⟨rfl, hbc, hTl⟩ := hcut
      have HN3 := Lib.hid (HN2.out.on hbc)
      have HB3 : Hid (Below w.heap.size w wc) := HB2.out.trans (hbc.mono HB2.out.size)
      have HE3 := Lib.hid (HE2.out.on hbc)
      have hbl : (bitsS n).length ≤ 4 := by
        unfold bitsS
        split
        · simp
        · have := dec_len0 2 n.bits.toNat (by omega)
          rw [List.length_cons]; omega
      have HP : Hid (Calls Tryz.prog 140 #[netV n] wc fun e w' => e = .returned (.string ⟨(bitsS n).toArray⟩) ∧ Below wc.heap.size wc w') := HPB2.out wc HE3.out.env
      have hds : (⟨(bitsS n).toArray⟩ : ByteArray).size ≤ 4 := by rw [arr_size]; exact hbl
      have HFIN : Hid (T ++ (⟨(bitsS n).toArray⟩ : ByteArray) = ⟨(addrS n ++ bitsS n).toArray⟩) := by
        show _ = _
        apply ByteArray.ext
        apply Array.toList_inj.1
        rw [Joins.data_append, HT.out]
      generalize (⟨(bitsS n).toArray⟩ : ByteArray) = DX at HP hds HFIN
      have hb9 : ¬ 9223372036854775807 < T.size + DX.size := by omega
      clear hbc hsix hbl
      go_wp2_with (first | (refine wpList_load_mid rfl 72 (.tmp 1) rfl w.heap.size 0 rfl (netL n) _ HN3.out.range0 Tryz.underlying72 rfl HS.out ?_) | (go_at_call 140; refine HP.out.mono ?_; rintro e w5 ⟨rfl, b5⟩; refine Hid.out ?_) | fail)
      refine Lib.hid ?_
      have HB5 : Hid (Below w.heap.size w w5) := HB3.out.trans (b5.mono HB3.out.size)
      clear b5
      go_wp2
      go_ret2
      exact ⟨HB5.out, Or.inr ⟨_, HYES.out, by rw [HFIN.out]; rfl⟩⟩
end Go.Proofs.YtnehgbpfgehhiaaGreatDoor.Cidr
