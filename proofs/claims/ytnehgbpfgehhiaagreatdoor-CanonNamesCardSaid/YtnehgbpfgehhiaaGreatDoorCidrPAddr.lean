/-
  MERGED by mergefill.py: CidrPAddr.
-/
import Derived.Test.YtnehgbpfgehhiaaGreatDoorCidrPSixM
import Derived.Deep.RegionHeld3
/-
  CIDR, the program: an address.
-/
namespace Go.Proofs.YtnehgbpfgehhiaaGreatDoor.Cidr
open Go.RowKit Base
/-- The boxes while the range is laid. -/
structure AS (w : World) (b : Nat) (n : NetM) (w' : World) : Prop where
  bel : Below w.heap.size w w'
  at_ : ∃ m : NetM, NetAt w' w.heap.size m ∧ m.a.length = 16
  addr : AddrAt w' b n.a
  rng : w'.rangeAt b 0 (n.a.map B8)
set_option maxHeartbeats 8000000 in
set_option maxRecDepth 100000 in
set_option linter.unusedSimpArgs false in
theorem pAddr (s : ByteArray) (w : World) (he : Env w) : Calls Tryz.prog 101 #[.string s] w (AddrEnd (addrN s) w) := by
  have HB0 := Lib.hid (Below.alloc1 w (.cells (netC zeroN) 72))
  have HN0 := Lib.hid (NetAt.new w zeroN)
  have HE0 := Lib.hid (he.on HB0.out)
  clear he
  obtain ⟨o, ho⟩ : ∃ o, o = addrN s := ⟨_, rfl⟩
  rw [← ho]
  unfold addrN at ho
  rcases byte_cases s.data.toList 58 with hix | ⟨k, hix⟩
  · have HO : Hid (o = fourN s.data.toList) := by
      show _ = _
      rw [ho, six_none (byte_none hix)]
      cases fourN s.data.toList <;> rfl
    have HCT : Hid (∀ w, Calls Tryz.prog 129 #[.string s, .string ⟨#[58]⟩] w fun e w' => e = .returned (.bool false) ∧ w' = w) := fun w => by
      have := Tryz.strings_Contains_one s 58 w
      rwa [hix] at this
    have HF := Lib.hid (fun w he => pFour s w he)
    have HKIND := Lib.hid (fun n => @four_kind s.data.toList n)
    clear ho hix
    cases hres : fourN s.data.toList with
    | none =>
      have HNO : Hid (o = none) := by rw [HO.out, hres]; rfl
      rw [hres] at HF
      clear hres
      go_enter Tryz.func101, Tryz.ntmps101
      go_wp2_with (first | (go_at_call 129; refine (HCT.out _).mono ?_; rintro e w1 ⟨rfl, rfl⟩; refine Hid.out ?_) | fail)
      refine Lib.hid ?_
      go_wp2_with (first | (go_at_call 134; refine (a_no (HF.out _ HE0.out)).mono ?_; rintro e w2 ⟨rfl, b2⟩; refine Hid.out ?_) | fail)
      refine Lib.hid ?_
      have HN2 := Lib.hid (HN0.out.on b2)
      have HB2 := Lib.hid (HB0.out.trans (b2.mono HB0.out.size))
      have HN3 := Lib.hid (HN2.out.on (Below.alloc1 w2 (.cells (List.replicate 16 (Value.int .u8 0)).toArray 70)))
      clear b2
      have HZ := Lib.hid (zA_new w2)
      have HTz := Lib.hid (HZ.out.there (c := zA) rfl rfl)
      have HSCz := Lib.hid (size23a (a := zA) rfl)
      have HALLz := Lib.hid (cells_all zA)
      go_wp2_with (first | (refine wpList_store_mid rfl 70 (.tmp 6) (.tmp 15) rfl w2.heap.size 0 (zA.map B8).toArray rfl rfl HTz.out HSCz.out HALLz.out ?_; generalize hw3 : World.setCells _ _ _ _ = w3; refine Hid.out ?_) | fail)
      refine Lib.hid ?_
      obtain ⟨hnf, hkf, hzf⟩ := AddrAt.put HZ.out rfl (c := zA) rfl hw3
      have HADR := Lib.hid hnf
      have HB23 : Hid (Below w2.heap.size w2 w3) := (Below.alloc1 _ _).trans (hkf.below (Nat.le_refl _) (heap_lt HZ.out))
      clear hnf hkf hzf hw3
      have HN4 := Lib.hid (HN2.out.on HB23.out)
      have HB4 := Lib.hid (HB2.out.trans (HB23.out.mono HB2.out.size))
      have HTt := Lib.hid (there_net (n := zeroN) HN4.out rfl rfl)
      have HCt := Lib.hid (size25c (n := zeroN) rfl)
      go_wp2_with (first | (refine wpList_store_mid rfl 72 (.tmp 2) (.tmp 19) rfl w.heap.size 0 (netC zeroN) rfl rfl HTt.out HCt.out (netC_all _) ?_; generalize hwf : World.setCells _ _ _ _ = wf; refine Hid.out ?_) | fail)
      refine Lib.hid ?_
      obtain ⟨hnf, hbf, _⟩ := net_again (n := zeroN) HN4.out rfl rfl (Nat.le_refl _) hwf
      have HNF := Lib.hid hnf
      have HBF := Lib.hid hbf
      clear hnf hbf hwf
      go_wp2
      exact bodyPost_ret (results_net Tryz.results101 rfl rfl HNF.out rfl) rfl ⟨HB4.out.trans HBF.out, Or.inl ⟨HNO.out, rfl⟩⟩
    | some NN =>
      have HYES : Hid (o = some NN) := by rw [HO.out, hres]; rfl
      have HNN : Hid ((⟨false, (sizeN false), NN.a⟩ : NetM) = NN) := HKIND.out NN hres
      rw [hres] at HF
      clear hres
      go_enter Tryz.func101, Tryz.ntmps101
      go_wp2_with (first | (go_at_call 129; refine (HCT.out _).mono ?_; rintro e w1 ⟨rfl, rfl⟩; refine Hid.out ?_) | fail)
      refine Lib.hid ?_
      go_wp2_with (first | (go_at_call 134; refine (a_yes (HF.out _ HE0.out)).mono ?_; rintro e w2 ⟨hna, rfl, b2⟩; refine Hid.out ?_) | fail)
      have HNA : Hid (NN.a.length = 16) := hna
      clear hna
      refine Lib.hid ?_
      have HN2 := Lib.hid (HN0.out.on b2)
      have HB2 := Lib.hid (HB0.out.trans (b2.mono HB0.out.size))
      have HN3 := Lib.hid (HN2.out.on (Below.alloc1 w2 (.cells (List.replicate 16 (Value.int .u8 0)).toArray 70)))
      clear b2
      have HZ := Lib.hid (zA_new w2)
      have HTz := Lib.hid (HZ.out.there (c := NN.a) rfl HNA.out)
      have HSCz := Lib.hid (size23a (a := NN.a) HNA.out)
      have HALLz := Lib.hid (cells_all NN.a)
      go_wp2_with (first | (refine wpList_store_mid rfl 70 (.tmp 6) (.tmp 15) rfl w2.heap.size 0 (NN.a.map B8).toArray rfl rfl HTz.out HSCz.out HALLz.out ?_; generalize hw3 : World.setCells _ _ _ _ = w3; refine Hid.out ?_) | fail)
      refine Lib.hid ?_
      obtain ⟨hnf, hkf, hzf⟩ := AddrAt.put HZ.out rfl (c := NN.a) HNA.out hw3
      have HADR := Lib.hid hnf
      have HB23 : Hid (Below w2.heap.size w2 w3) := (Below.alloc1 _ _).trans (hkf.below (Nat.le_refl _) (heap_lt HZ.out))
      clear hnf hkf hzf hw3
      have HN4 := Lib.hid (HN2.out.on HB23.out)
      have HB4 := Lib.hid (HB2.out.trans (HB23.out.mono HB2.out.size))
      have HNE : Hid (w2.heap.size ≠ w.heap.size) := Nat.ne_of_gt (heap_lt HN2.out)
      have HAS : Hid (AS w w2.heap.size NN w3.drew) := ⟨HB4.out.trans (Below.refl _ _).drew, ⟨zeroN, HN4.out, rfl⟩, HADR.out, AddrAt.range (w := w3.drew) HADR.out⟩
      have HSZ := Lib.hid (size23_of HNA.out)
      have HBUILD : Hid (∀ w', (Instr.build 72 #[(0, .bool false), (1, .int .i64 (sizeN false)), (2, .agg (NN.a.map B8).toArray)]).run Tryz.prog w' = .ok (netV NN) w') := fun w' => by
        have := run_net false (sizeN false) HNA.out w'
        have e : (⟨false, (sizeN false), NN.a⟩ : NetM) = NN := HNN.out
        rwa [e] at this
      go_wp2
      refine wp_region_noPanic ?_
      refine wp_region_held_drew (S := AS w w2.heap.size NN) (by kernel_rfl) HAS.out (fun hHeld => ?_)
      refine wpAnyH_take (i := 0) (v := ?vt0) rfl (by kernel_rfl) (by kernel_rfl) (by kernel_rfl) (fun _ _ _ h => h) (Or.inl ⟨by rfl, ?hyt0⟩) (by assumption) ?restt0
      case hyt0 => (intro w hSw; (try dsimp only at hSw); go_simp; try with_reducible rfl)
      (try simp only [Act.put, List.getElem_toArray, List.getElem_cons_succ, List.getElem_cons_zero, List.setIfInBounds_toArray, List.set_cons_zero, List.set_cons_succ])
      refine wpAnyH_take (i := 1) (v := ?vt1) rfl (by kernel_rfl) (by kernel_rfl) (by kernel_rfl) (fun _ _ _ h => h) (Or.inl ⟨by rfl, ?hyt1⟩) (by assumption) ?restt1
      case hyt1 => (intro w hSw; (try dsimp only at hSw); go_simp; try with_reducible rfl)
      (try simp only [Act.put, List.getElem_toArray, List.getElem_cons_succ, List.getElem_cons_zero, List.setIfInBounds_toArray, List.set_cons_zero, List.set_cons_succ])
      refine wpAnyH_take (i := 3) rfl (by kernel_rfl) (by kernel_rfl) (by kernel_rfl) (fun _ _ _ h => h) (yieldsIf_load_mid (by rfl) 70 (.tmp 6) rfl w2.heap.size 0 (by kernel_rfl) (NN.a.map B8) _ (fun w' h => h.rng) Tryz.underlying70 rfl HSZ.out) (by assumption) ?_
      (try simp only [Act.put, List.getElem_toArray, List.getElem_cons_succ, List.getElem_cons_zero, List.setIfInBounds_toArray, List.set_cons_zero, List.set_cons_succ])
      refine wpAnyH_ready (rs := [2]) (by kernel_rfl) (by simp) ?_
      refine AllReadyH.cons rfl (fun K hK => ?_) AllReadyH.nil
      go_simp
      go_wp2_with (go_at_call 136; refine (pMost _ _).mono ?_; rintro e wn1 ⟨rfl, rfl⟩)
      refine hK.out _ _ (by assumption) (fun hHeld => ?_)
      clear hK K
      (try simp only [Act.put, List.getElem_toArray, List.getElem_cons_succ, List.getElem_cons_zero, List.setIfInBounds_toArray, List.set_cons_zero, List.set_cons_succ])
      refine wpAnyH_take (i := 4) (v := netV NN) rfl (by kernel_rfl) (by kernel_rfl) (by kernel_rfl) (fun _ _ _ h => h) (Or.inl ⟨by rfl, fun w' _ => exec_build rfl (HBUILD.out w')⟩) (by assumption) ?_
      (try simp only [Act.put, List.getElem_toArray, List.getElem_cons_succ, List.getElem_cons_zero, List.setIfInBounds_toArray, List.set_cons_zero, List.set_cons_succ])
      have hpre := (by assumption : AS w w2.heap.size NN _)
      refine wpAnyH_ready (rs := [5]) (by kernel_rfl) (by simp) ?_
      refine AllReadyH.cons rfl (fun K hK => ?_) AllReadyH.nil
      rw [if_pos (by rfl)]
      obtain ⟨m0, hat0, hm0⟩ := hpre.at_
      refine wp_store_mid 72 (.tmp 2) (.tmp 24) rfl w.heap.size 0 (netC NN) rfl rfl (there_net hat0 hm0 HNA.out) (size25c HNA.out) (netC_all _) ?_
      generalize hw4 : World.setCells _ _ _ _ = w4
      obtain ⟨hn4, hb4, hk4⟩ := net_again hat0 hm0 HNA.out (Nat.le_refl _) hw4
      have HN4 := Lib.hid hn4
      have hpost : AS w w2.heap.size NN w4 := ⟨hpre.bel.trans hb4, ⟨NN, hn4, HNA.out⟩, hpre.addr.kept hk4 HNE.out, (hpre.addr.kept hk4 HNE.out).range⟩
      clear hw4 hn4 hb4 hk4 hat0 hm0
      refine hK.out _ _ hpost (fun hHeld => ?_)
      clear hK K
      (try simp only [Act.put, List.getElem_toArray, List.getElem_cons_succ, List.getElem_cons_zero, List.setIfInBounds_toArray, List.set_cons_zero, List.set_cons_succ])
      refine wpAnyH_take (i := 6) (v := ?vt6) rfl (by kernel_rfl) (by kernel_rfl) (by kernel_rfl) (fun _ _ _ h => h) (Or.inl ⟨by rfl, ?hyt6⟩) (by assumption) ?restt6
      case hyt6 => (intro w hSw; (try dsimp only at hSw); go_simp; try with_reducible rfl)
      (try simp only [Act.put, List.getElem_toArray, List.getElem_cons_succ, List.getElem_cons_zero, List.setIfInBounds_toArray, List.set_cons_zero, List.set_cons_succ])
      refine wpAnyH_done (by kernel_rfl) ?_ _
      refine NoPanic.normal ?_
      go_wp2
      exact bodyPost_ret (results_net Tryz.results101 rfl rfl HN4.out HNA.out) rfl ⟨hpost.bel, Or.inr ⟨NN, HYES.out, HNA.out, rfl⟩⟩
  · have hmem : (58 : UInt8) ∈ s.data.toList := List.mem_of_getElem? (Lib.indexByte_some hix).1
    have HO : Hid (o = sixS s) := by
      show _ = _
      rw [ho, four_colon hmem]
    have HCT : Hid (∀ w, Calls Tryz.prog 129 #[.string s, .string ⟨#[58]⟩] w fun e w' => e = .returned (.bool true) ∧ w' = w) := fun w => by
      have := Tryz.strings_Contains_one s 58 w
      rw [hix, decide_eq_true (Int.natCast_nonneg k)] at this
      exact this
    have HF := Lib.hid (fun w he => pSix s w he)
    have HKIND := Lib.hid (fun n => @six_kind s n)
    clear ho hix hmem
    cases hres : sixS s with
    | none =>
      have HNO : Hid (o = none) := by rw [HO.out, hres]; rfl
      rw [hres] at HF
      clear hres
      go_enter Tryz.func101, Tryz.ntmps101
      go_wp2_with (first | (go_at_call 129; refine (HCT.out _).mono ?_; rintro e w1 ⟨rfl, rfl⟩; refine Hid.out ?_) | fail)
      refine Lib.hid ?_
      go_wp2_with (first | (go_at_call 135; refine (a_no (HF.out _ HE0.out)).mono ?_; rintro e w2 ⟨rfl, b2⟩; refine Hid.out ?_) | fail)
      refine Lib.hid ?_
      have HN2 := Lib.hid (HN0.out.on b2)
      have HB2 := Lib.hid (HB0.out.trans (b2.mono HB0.out.size))
      have HN3 := Lib.hid (HN2.out.on (Below.alloc1 w2 (.cells (List.replicate 16 (Value.int .u8 0)).toArray 70)))
      clear b2
      have HZ := Lib.hid (zA_new w2)
      have HTz := Lib.hid (HZ.out.there (c := zA) rfl rfl)
      have HSCz := Lib.hid (size23a (a := zA) rfl)
      have HALLz := Lib.hid (cells_all zA)
      go_wp2_with (first | (refine wpList_store_mid rfl 70 (.tmp 6) (.tmp 15) rfl w2.heap.size 0 (zA.map B8).toArray rfl rfl HTz.out HSCz.out HALLz.out ?_; generalize hw3 : World.setCells _ _ _ _ = w3; refine Hid.out ?_) | fail)
      refine Lib.hid ?_
      obtain ⟨hnf, hkf, hzf⟩ := AddrAt.put HZ.out rfl (c := zA) rfl hw3
      have HADR := Lib.hid hnf
      have HB23 : Hid (Below w2.heap.size w2 w3) := (Below.alloc1 _ _).trans (hkf.below (Nat.le_refl _) (heap_lt HZ.out))
      clear hnf hkf hzf hw3
      have HN4 := Lib.hid (HN2.out.on HB23.out)
      have HB4 := Lib.hid (HB2.out.trans (HB23.out.mono HB2.out.size))
      have HTt := Lib.hid (there_net (n := zeroN) HN4.out rfl rfl)
      have HCt := Lib.hid (size25c (n := zeroN) rfl)
      go_wp2_with (first | (refine wpList_store_mid rfl 72 (.tmp 2) (.tmp 19) rfl w.heap.size 0 (netC zeroN) rfl rfl HTt.out HCt.out (netC_all _) ?_; generalize hwf : World.setCells _ _ _ _ = wf; refine Hid.out ?_) | fail)
      refine Lib.hid ?_
      obtain ⟨hnf, hbf, _⟩ := net_again (n := zeroN) HN4.out rfl rfl (Nat.le_refl _) hwf
      have HNF := Lib.hid hnf
      have HBF := Lib.hid hbf
      clear hnf hbf hwf
      go_wp2
      exact bodyPost_ret (results_net Tryz.results101 rfl rfl HNF.out rfl) rfl ⟨HB4.out.trans HBF.out, Or.inl ⟨HNO.out, rfl⟩⟩
    | some NN =>
      have HYES : Hid (o = some NN) := by rw [HO.out, hres]; rfl
      have HNN : Hid ((⟨true, (sizeN true), NN.a⟩ : NetM) = NN) := HKIND.out NN hres
      rw [hres] at HF
      clear hres
      go_enter Tryz.func101, Tryz.ntmps101
      go_wp2_with (first | (go_at_call 129; refine (HCT.out _).mono ?_; rintro e w1 ⟨rfl, rfl⟩; refine Hid.out ?_) | fail)
      refine Lib.hid ?_
      go_wp2_with (first | (go_at_call 135; refine (a_yes (HF.out _ HE0.out)).mono ?_; rintro e w2 ⟨hna, rfl, b2⟩; refine Hid.out ?_) | fail)
      have HNA : Hid (NN.a.length = 16) := hna
      clear hna
      refine Lib.hid ?_
      have HN2 := Lib.hid (HN0.out.on b2)
      have HB2 := Lib.hid (HB0.out.trans (b2.mono HB0.out.size))
      have HN3 := Lib.hid (HN2.out.on (Below.alloc1 w2 (.cells (List.replicate 16 (Value.int .u8 0)).toArray 70)))
      clear b2
      have HZ := Lib.hid (zA_new w2)
      have HTz := Lib.hid (HZ.out.there (c := NN.a) rfl HNA.out)
      have HSCz := Lib.hid (size23a (a := NN.a) HNA.out)
      have HALLz := Lib.hid (cells_all NN.a)
      go_wp2_with (first | (refine wpList_store_mid rfl 70 (.tmp 6) (.tmp 15) rfl w2.heap.size 0 (NN.a.map B8).toArray rfl rfl HTz.out HSCz.out HALLz.out ?_; generalize hw3 : World.setCells _ _ _ _ = w3; refine Hid.out ?_) | fail)
      refine Lib.hid ?_
      obtain ⟨hnf, hkf, hzf⟩ := AddrAt.put HZ.out rfl (c := NN.a) HNA.out hw3
      have HADR := Lib.hid hnf
      have HB23 : Hid (Below w2.heap.size w2 w3) := (Below.alloc1 _ _).trans (hkf.below (Nat.le_refl _) (heap_lt HZ.out))
      clear hnf hkf hzf hw3
      have HN4 := Lib.hid (HN2.out.on HB23.out)
      have HB4 := Lib.hid (HB2.out.trans (HB23.out.mono HB2.out.size))
      have HNE : Hid (w2.heap.size ≠ w.heap.size) := Nat.ne_of_gt (heap_lt HN2.out)
      have HAS : Hid (AS w w2.heap.size NN w3.drew) := ⟨HB4.out.trans (Below.refl _ _).drew, ⟨zeroN, HN4.out, rfl⟩, HADR.out, AddrAt.range (w := w3.drew) HADR.out⟩
      have HSZ := Lib.hid (size23_of HNA.out)
      have HBUILD : Hid (∀ w', (Instr.build 72 #[(0, .bool true), (1, .int .i64 (sizeN true)), (2, .agg (NN.a.map B8).toArray)]).run Tryz.prog w' = .ok (netV NN) w') := fun w' => by
        have := run_net true (sizeN true) HNA.out w'
        have e : (⟨true, (sizeN true), NN.a⟩ : NetM) = NN := HNN.out
        rwa [e] at this
      go_wp2
      refine wp_region_noPanic ?_
      refine wp_region_held_drew (S := AS w w2.heap.size NN) (by kernel_rfl) HAS.out (fun hHeld => ?_)
      refine wpAnyH_take (i := 0) (v := ?vu0) rfl (by kernel_rfl) (by kernel_rfl) (by kernel_rfl) (fun _ _ _ h => h) (Or.inl ⟨by rfl, ?hyu0⟩) (by assumption) ?restu0
      case hyu0 => (intro w hSw; (try dsimp only at hSw); go_simp; try with_reducible rfl)
      (try simp only [Act.put, List.getElem_toArray, List.getElem_cons_succ, List.getElem_cons_zero, List.setIfInBounds_toArray, List.set_cons_zero, List.set_cons_succ])
      refine wpAnyH_take (i := 1) (v := ?vu1) rfl (by kernel_rfl) (by kernel_rfl) (by kernel_rfl) (fun _ _ _ h => h) (Or.inl ⟨by rfl, ?hyu1⟩) (by assumption) ?restu1
      case hyu1 => (intro w hSw; (try dsimp only at hSw); go_simp; try with_reducible rfl)
      (try simp only [Act.put, List.getElem_toArray, List.getElem_cons_succ, List.getElem_cons_zero, List.setIfInBounds_toArray, List.set_cons_zero, List.set_cons_succ])
      refine wpAnyH_take (i := 3) rfl (by kernel_rfl) (by kernel_rfl) (by kernel_rfl) (fun _ _ _ h => h) (yieldsIf_load_mid (by rfl) 70 (.tmp 6) rfl w2.heap.size 0 (by kernel_rfl) (NN.a.map B8) _ (fun w' h => h.rng) Tryz.underlying70 rfl HSZ.out) (by assumption) ?_
      (try simp only [Act.put, List.getElem_toArray, List.getElem_cons_succ, List.getElem_cons_zero, List.setIfInBounds_toArray, List.set_cons_zero, List.set_cons_succ])
      refine wpAnyH_ready (rs := [2]) (by kernel_rfl) (by simp) ?_
      refine AllReadyH.cons rfl (fun K hK => ?_) AllReadyH.nil
      go_simp
      go_wp2_with (go_at_call 136; refine (pMost _ _).mono ?_; rintro e wn1 ⟨rfl, rfl⟩)
      refine hK.out _ _ (by assumption) (fun hHeld => ?_)
      clear hK K
      (try simp only [Act.put, List.getElem_toArray, List.getElem_cons_succ, List.getElem_cons_zero, List.setIfInBounds_toArray, List.set_cons_zero, List.set_cons_succ])
      refine wpAnyH_take (i := 4) (v := netV NN) rfl (by kernel_rfl) (by kernel_rfl) (by kernel_rfl) (fun _ _ _ h => h) (Or.inl ⟨by rfl, fun w' _ => exec_build rfl (HBUILD.out w')⟩) (by assumption) ?_
      (try simp only [Act.put, List.getElem_toArray, List.getElem_cons_succ, List.getElem_cons_zero, List.setIfInBounds_toArray, List.set_cons_zero, List.set_cons_succ])
      have hpre := (by assumption : AS w w2.heap.size NN _)
      refine wpAnyH_ready (rs := [5]) (by kernel_rfl) (by simp) ?_
      refine AllReadyH.cons rfl (fun K hK => ?_) AllReadyH.nil
      rw [if_pos (by rfl)]
      obtain ⟨m0, hat0, hm0⟩ := hpre.at_
      refine wp_store_mid 72 (.tmp 2) (.tmp 24) rfl w.heap.size 0 (netC NN) rfl rfl (there_net hat0 hm0 HNA.out) (size25c HNA.out) (netC_all _) ?_
      generalize hw4 : World.setCells _ _ _ _ = w4
      obtain ⟨hn4, hb4, hk4⟩ := net_again hat0 hm0 HNA.out (Nat.le_refl _) hw4
      have HN4 := Lib.hid hn4
      have hpost : AS w w2.heap.size NN w4 := ⟨hpre.bel.trans hb4, ⟨NN, hn4, HNA.out⟩, hpre.addr.kept hk4 HNE.out, (hpre.addr.kept hk4 HNE.out).range⟩
      clear hw4 hn4 hb4 hk4 hat0 hm0
      refine hK.out _ _ hpost (fun hHeld => ?_)
      clear hK K
      (try simp only [Act.put, List.getElem_toArray, List.getElem_cons_succ, List.getElem_cons_zero, List.setIfInBounds_toArray, List.set_cons_zero, List.set_cons_succ])
      refine wpAnyH_take (i := 6) (v := ?vu6) rfl (by kernel_rfl) (by kernel_rfl) (by kernel_rfl) (fun _ _ _ h => h) (Or.inl ⟨by rfl, ?hyu6⟩) (by assumption) ?restu6
      case hyu6 => (intro w hSw; (try dsimp only at hSw); go_simp; try with_reducible rfl)
      (try simp only [Act.put, List.getElem_toArray, List.getElem_cons_succ, List.getElem_cons_zero, List.setIfInBounds_toArray, List.set_cons_zero, List.set_cons_succ])
      refine wpAnyH_done (by kernel_rfl) ?_ _
      refine NoPanic.normal ?_
      go_wp2
      exact bodyPost_ret (results_net Tryz.results101 rfl rfl HN4.out HNA.out) rfl ⟨hpost.bel, Or.inr ⟨NN, HYES.out, HNA.out, rfl⟩⟩
end Go.Proofs.YtnehgbpfgehhiaaGreatDoor.Cidr
