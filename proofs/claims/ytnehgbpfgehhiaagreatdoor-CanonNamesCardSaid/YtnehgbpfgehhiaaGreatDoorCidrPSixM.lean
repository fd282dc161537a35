/-
  MERGED by mergefill.py: CidrPSix, CidrPAddrP.
-/
import Derived.Test.YtnehgbpfgehhiaaGreatDoorCidrPGrpsM
import Derived.Deep.RegionHeld3
/-
  CIDR, the program: eight groups.
-/
namespace Go.Proofs.YtnehgbpfgehhiaaGreatDoor.Cidr
open Go.RowKit Base
theorem slice_run (w : World) (b lb : Nat) (h : lb ≤ 16) : ∃ p, (Instr.sliceAt 70 (.pointer (some ⟨b, 0, none⟩)) (some (.int .i64 (16 - (lb : Int)))) none none).run Tryz.prog w = .ok (.slice p lb lb) w ∧ (0 < lb → p = some ⟨b, 16 - lb, none⟩) := by
  rcases (by omega : lb = 0 ∨ lb = 1 ∨ lb = 2 ∨ lb = 3 ∨ lb = 4 ∨ lb = 5 ∨ lb = 6 ∨ lb = 7 ∨ lb = 8 ∨ lb = 9 ∨ lb = 10 ∨ lb = 11 ∨ lb = 12 ∨ lb = 13 ∨ lb = 14 ∨ lb = 15 ∨ lb = 16) with rfl | rfl | rfl | rfl | rfl | rfl | rfl | rfl | rfl | rfl | rfl | rfl | rfl | rfl | rfl | rfl | rfl
  · exact ⟨some ⟨b, 0, none⟩, by kernel_rfl, fun h => by omega⟩
  all_goals exact ⟨_, by kernel_rfl, fun _ => rfl⟩
theorem grps_count {l : List UInt8} {A : List Nat} (h : grpsN l = some A) : A.length ≤ l.length + 1 := by
  unfold grpsN at h
  split at h
  · cases h; simp
  · have h1 := (mapO_all h).1
    have := splitB_len 58 l
    omega
theorem g_no {f : FuncId} {args : Array Value} {w : World} (h : Calls Tryz.prog f args w (GEnd none w)) : Calls Tryz.prog f args w (fun e w' => e = .returned (.tuple #[.slice none 0 0, .bool false]) ∧ Below w.heap.size w w') :=
  h.mono fun e w' h => by
    rcases h with ⟨hb, ⟨_, h2⟩ | ⟨ns, v, h1, _⟩⟩
    · exact ⟨h2, hb⟩
    · cases h1
theorem g_yes {f : FuncId} {args : Array Value} {w : World} {A : List Nat} (h : Calls Tryz.prog f args w (GEnd (some A) w)) (n : Nat) (hn : n = (A.flatMap two).length) : Calls Tryz.prog f args w (fun e w' => ∃ a c, e = .returned (.tuple #[.slice a n c, .bool true]) ∧ Owns w' w.heap.size (.slice a n c) (A.flatMap two) ∧ Below w.heap.size w w') :=
  h.mono fun e w' h => by
    rcases h with ⟨hb, ⟨h1, _⟩ | ⟨ns, v, h1, h2, h3⟩⟩
    · cases h1
    · cases h1
      obtain ⟨a, c, rfl, _⟩ := row_form h3
      subst hn
      exact ⟨a, c, h2, h3, hb⟩
theorem head_size (s : ByteArray) (o : Option Nat) : (headS s o).size ≤ s.size := by
  cases o with
  | none => exact Nat.le_refl _
  | some a => unfold headS; rw [ByteArray.size_extract]; omega
theorem tail_size (s : ByteArray) (o : Option Nat) : (tailS s o).size ≤ s.size := by
  cases o with
  | none => exact Nat.zero_le _
  | some a => unfold tailS; rw [ByteArray.size_extract]; omega
set_option maxHeartbeats 8000000 in
set_option maxRecDepth 100000 in
theorem pSix (s : ByteArray) (w : World) (he : Env w) : Calls Tryz.prog 135 #[.string s] w (AEnd (sixS s) w) := by
  obtain ⟨o, ho⟩ : ∃ o, o = sixS s := ⟨_, rfl⟩
  rw [← ho]
  have H0 := Lib.hid (zA_new w)
  have HB0 := Lib.hid (Below.alloc1 w (.cells (List.replicate 16 (Value.int .u8 0)).toArray 70))
  have HSC := Lib.hid (size23a (a := zA) rfl)
  have HALL := Lib.hid (cells_all zA)
  have HE0 := Lib.hid (he.on HB0.out)
  clear he
  by_cases hs : s.size ≤ 39
  · have e39 : ¬ (39 : Int) < (s.size : Int) := by omega
    unfold sixS at ho
    have HCC := Lib.hid (pCC s _ (by omega) HE0.out)
    have hh := head_size s (firstCC s.data.toList)
    have ht := tail_size s (firstCC s.data.toList)
    have hbn : firstCC s.data.toList = none → grpsN (tailS s (firstCC s.data.toList)).data.toList = some [] := fun h => by rw [h]; rfl
    generalize firstCC s.data.toList = cc at *
    generalize headS s cc = HS at *
    generalize tailS s cc = TS at *
    have hcA : ∀ A, grpsN HS.data.toList = some A → A.length ≤ 40 := fun A h => by have := grps_count h; rw [str_len] at this; omega
    have hcB : ∀ A, grpsN TS.data.toList = some A → A.length ≤ 40 := fun A h => by have := grps_count h; rw [str_len] at this; omega
    have HG1 := Lib.hid (fun wx he => pGroups HS (by omega) wx he)
    have HG2 := Lib.hid (fun wx he => pGroups TS (by omega) wx he)
    generalize grpsN HS.data.toList = gA at *
    generalize grpsN TS.data.toList = gB at *
    have HCA := Lib.hid hcA
    have HCB := Lib.hid hcB
    clear hcA hcB
    have HO := Lib.hid ho
    have HBN := Lib.hid hbn
    clear ho hh ht hbn
    go_enter Tryz.func135, Tryz.ntmps135
    go_wp2_with (first | (go_at_call 179; refine HCC.out.mono ?_; rintro e w1 ⟨rfl, b1⟩; refine Hid.out ?_) | fail)
    refine Lib.hid ?_
    have HN1 := Lib.hid (H0.out.on b1)
    have HB1 := Lib.hid (HB0.out.trans (b1.mono HB0.out.size))
    have HE1 := Lib.hid (HE0.out.on b1)
    clear b1
    cases gA with
    | none =>
      have HNO : Hid (o = none) := HO.out
      go_wp2_with (first | (go_at_call 180; refine (g_no (HG1.out _ HE1.out)).mono ?_; rintro e w2 ⟨rfl, b2⟩; refine Hid.out ?_) | fail)
      refine Lib.hid ?_
      have HN2 := Lib.hid (HN1.out.on b2)
      have HB2 := Lib.hid (HB1.out.trans (b2.mono HB1.out.size))
      have HE2 := Lib.hid (HE1.out.on b2)
      clear b2
      cases gB with
      | none =>
        go_wp2_with (first | (go_at_call 180; refine (g_no (HG2.out _ HE2.out)).mono ?_; rintro e w3 ⟨rfl, b3⟩; refine Hid.out ?_) | fail)
        refine Lib.hid ?_
        have HN3 := Lib.hid (HN2.out.on b3)
        have HB3 := Lib.hid (HB2.out.trans (b3.mono HB2.out.size))
        have HTt := Lib.hid (HN3.out.there (c := zA) rfl rfl)
        clear b3
        go_wp2_with (first | (refine wpList_store_mid rfl 70 (.tmp 2) (.tmp 59) rfl w.heap.size 0 (zA.map B8).toArray rfl rfl HTt.out HSC.out HALL.out ?_; generalize hwf : World.setCells _ _ _ _ = wf; refine Hid.out ?_) | fail)
        refine Lib.hid ?_
        obtain ⟨hnf, hkf, hzf⟩ := AddrAt.put HN3.out rfl (c := zA) rfl hwf
        have HNF := Lib.hid hnf
        have HKF := Lib.hid hkf
        clear hnf hkf hzf hwf
        go_wp2
        exact bodyPost_ret (results_addr2 Tryz.results135 rfl rfl HNF.out rfl) rfl ⟨HB3.out.trans (HKF.out.below (Nat.le_refl _) (heap_lt HN3.out)), Or.inl ⟨HNO.out, rfl⟩⟩
      | some B =>
        go_wp2_with (first | (go_at_call 180; refine (g_yes (HG2.out _ HE2.out) _ rfl).mono ?_; rintro e w3 ⟨qa, qc, rfl, _, b3⟩; refine Hid.out ?_) | fail)
        refine Lib.hid ?_
        have HN3 := Lib.hid (HN2.out.on b3)
        have HB3 := Lib.hid (HB2.out.trans (b3.mono HB2.out.size))
        have HTt := Lib.hid (HN3.out.there (c := zA) rfl rfl)
        clear b3
        go_wp2_with (first | (refine wpList_store_mid rfl 70 (.tmp 2) (.tmp 59) rfl w.heap.size 0 (zA.map B8).toArray rfl rfl HTt.out HSC.out HALL.out ?_; generalize hwf : World.setCells _ _ _ _ = wf; refine Hid.out ?_) | fail)
        refine Lib.hid ?_
        obtain ⟨hnf, hkf, hzf⟩ := AddrAt.put HN3.out rfl (c := zA) rfl hwf
        have HNF := Lib.hid hnf
        have HKF := Lib.hid hkf
        clear hnf hkf hzf hwf
        go_wp2
        exact bodyPost_ret (results_addr2 Tryz.results135 rfl rfl HNF.out rfl) rfl ⟨HB3.out.trans (HKF.out.below (Nat.le_refl _) (heap_lt HN3.out)), Or.inl ⟨HNO.out, rfl⟩⟩
    | some A =>
      obtain ⟨la, hla⟩ : ∃ la, la = (A.flatMap two).length := ⟨_, rfl⟩
      have HLA := Lib.hid hla
      have HLA2 : Hid (la = 2 * A.length) := hla.trans (flat_two_len A)
      have hla1 : la ≤ 80 := by have := HCA.out A rfl; have := flat_two_len A; omega
      clear hla
      go_wp2_with (first | (go_at_call 180; refine (g_yes (HG1.out _ HE1.out) la HLA.out).mono ?_; rintro e w2 ⟨ea, ec, rfl, owA, b2⟩; refine Hid.out ?_) | fail)
      refine Lib.hid ?_
      have HN2 := Lib.hid (HN1.out.on b2)
      have HB2 := Lib.hid (HB1.out.trans (b2.mono HB1.out.size))
      have HE2 := Lib.hid (HE1.out.on b2)
      have HOA := Lib.hid owA
      clear b2 owA
      cases gB with
      | none =>
        have HNO : Hid (o = none) := HO.out
        go_wp2_with (first | (go_at_call 180; refine (g_no (HG2.out _ HE2.out)).mono ?_; rintro e w3 ⟨rfl, b3⟩; refine Hid.out ?_) | fail)
        refine Lib.hid ?_
        have HN3 := Lib.hid (HN2.out.on b3)
        have HB3 := Lib.hid (HB2.out.trans (b3.mono HB2.out.size))
        have HTt := Lib.hid (HN3.out.there (c := zA) rfl rfl)
        clear b3
        go_wp2_with (first | (refine wpList_store_mid rfl 70 (.tmp 2) (.tmp 59) rfl w.heap.size 0 (zA.map B8).toArray rfl rfl HTt.out HSC.out HALL.out ?_; generalize hwf : World.setCells _ _ _ _ = wf; refine Hid.out ?_) | fail)
        refine Lib.hid ?_
        obtain ⟨hnf, hkf, hzf⟩ := AddrAt.put HN3.out rfl (c := zA) rfl hwf
        have HNF := Lib.hid hnf
        have HKF := Lib.hid hkf
        clear hnf hkf hzf hwf
        go_wp2
        exact bodyPost_ret (results_addr2 Tryz.results135 rfl rfl HNF.out rfl) rfl ⟨HB3.out.trans (HKF.out.below (Nat.le_refl _) (heap_lt HN3.out)), Or.inl ⟨HNO.out, rfl⟩⟩
      | some B =>
        obtain ⟨lb, hlb⟩ : ∃ lb, lb = (B.flatMap two).length := ⟨_, rfl⟩
        have HLB := Lib.hid hlb
        have HLB2 : Hid (lb = 2 * B.length) := hlb.trans (flat_two_len B)
        have hlb1 : lb ≤ 80 := by have := HCB.out B rfl; have := flat_two_len B; omega
        clear hlb
        have HOK : Hid (o = if okG cc A.length B.length = true then some ⟨true, 128, (allG A B).flatMap two⟩ else none) := HO.out
        have HBE : Hid (cc = none → B.length = 0) := fun h => by have := HBN.out h; cases this; rfl
        clear HO HBN
        go_wp2_with (first | (go_at_call 180; refine (g_yes (HG2.out _ HE2.out) lb HLB.out).mono ?_; rintro e w3 ⟨qa, qc, rfl, owB, b3⟩; refine Hid.out ?_) | fail)
        refine Lib.hid ?_
        have HN3 := Lib.hid (HN2.out.on b3)
        have HB3 := Lib.hid (HB2.out.trans (b3.mono HB2.out.size))
        have HTt := Lib.hid (HN3.out.there (c := zA) rfl rfl)
        have HOA3 := Lib.hid (HOA.out.on b3)
        have HOB3 := Lib.hid owB
        clear b3 owB
        cases hok : okG cc A.length B.length with
        | false =>
          have HNO : Hid (o = none) := by have := HOK.out; rw [hok] at this; exact this
          cases cc with
          | none =>
            have c1 : ((la : Int) + (lb : Int) != 16) = true := by
              have := of_decide_eq_false hok
              have h1 := HLA2.out; have h2 := HLB2.out; have h3 := HBE.out rfl
              rw [bne_iff_ne]; omega
            clear hok HBE
            go_wp2_with (first | (refine wpList_store_mid rfl 70 (.tmp 2) (.tmp 59) rfl w.heap.size 0 (zA.map B8).toArray rfl rfl HTt.out HSC.out HALL.out ?_; generalize hwf : World.setCells _ _ _ _ = wf; refine Hid.out ?_) | fail)
            refine Lib.hid ?_
            obtain ⟨hnf, hkf, hzf⟩ := AddrAt.put HN3.out rfl (c := zA) rfl hwf
            have HNF := Lib.hid hnf
            have HKF := Lib.hid hkf
            clear hnf hkf hzf hwf
            go_wp2
            exact bodyPost_ret (results_addr2 Tryz.results135 rfl rfl HNF.out rfl) rfl ⟨HB3.out.trans (HKF.out.below (Nat.le_refl _) (heap_lt HN3.out)), Or.inl ⟨HNO.out, rfl⟩⟩
          | some cp =>
            have c1 : (14 : Int) < (la : Int) + (lb : Int) := by
              have := of_decide_eq_false hok
              have h1 := HLA2.out; have h2 := HLB2.out
              omega
            clear hok HBE
            go_wp2_with (first | (refine wpList_store_mid rfl 70 (.tmp 2) (.tmp 59) rfl w.heap.size 0 (zA.map B8).toArray rfl rfl HTt.out HSC.out HALL.out ?_; generalize hwf : World.setCells _ _ _ _ = wf; refine Hid.out ?_) | fail)
            refine Lib.hid ?_
            obtain ⟨hnf, hkf, hzf⟩ := AddrAt.put HN3.out rfl (c := zA) rfl hwf
            have HNF := Lib.hid hnf
            have HKF := Lib.hid hkf
            clear hnf hkf hzf hwf
            go_wp2
            exact bodyPost_ret (results_addr2 Tryz.results135 rfl rfl HNF.out rfl) rfl ⟨HB3.out.trans (HKF.out.below (Nat.le_refl _) (heap_lt HN3.out)), Or.inl ⟨HNO.out, rfl⟩⟩
        | true =>
          have HYES : Hid (o = some ⟨true, 128, (allG A B).flatMap two⟩) := by have := HOK.out; rw [hok] at this; exact this
          have HLE : Hid (A.length + B.length ≤ 8) := ok_len (o := cc) (fun h => List.eq_nil_of_length_eq_zero (HBE.out h)) hok
          have HC : Hid ((cc.isSome = true ∧ ¬ (14 : Int) < (la : Int) + (lb : Int)) ∨ (cc.isSome = false ∧ ((la : Int) + (lb : Int) != 16) = false)) := by
            have h1 := HLA2.out; have h2 := HLB2.out
            cases cc with
            | none =>
              have := of_decide_eq_true hok
              have h3 := HBE.out rfl
              refine Or.inr ⟨rfl, ?_⟩
              rw [bne_eq_false_iff_eq]; omega
            | some cp =>
              have := of_decide_eq_true hok
              exact Or.inl ⟨rfl, by omega⟩
          have HN4 := Lib.hid (zA_new w3)
          have HB4 := Lib.hid (Below.alloc1 w3 (.cells (List.replicate 16 (Value.int .u8 0)).toArray 70))
          have HA4 := Lib.hid (HOA3.out.on HB4.out)
          have HBo4 := Lib.hid (HOB3.out.on HB4.out)
          have HZ1 := Lib.hid (show (Tryz.prog.info? 5).map (·.size) = some 1 by kernel_rfl)
          have HCA := Lib.hid (copy_src8 HA4.out)
          have HG0 : Hid ((w3.alloc (.cells (List.replicate 16 (Value.int .u8 0)).toArray 70)).heap[w3.heap.size]? = some (.cells (zA.map B8).toArray 70 (0, 0))) := HN4.out
          have hla16 : la ≤ 16 := by have h1 := HLA2.out; have h2 := HLE.out; omega
          have hlb16 : lb ≤ 16 := by have h1 := HLB2.out; have h2 := HLE.out; omega
          have hlbi : (lb : Int) ≤ 16 := by omega
          have HN1c : Hid (((A.flatMap two).map B8).length = Nat.min la 16) := by show _ = _; rw [List.length_map, ← HLA.out]; exact (Nat.min_eq_left hla16).symm
          have HF1c : Hid (0 + ((A.flatMap two).map B8).length ≤ (zA.map B8).length) := by show _ ≤ _; rw [List.length_map, ← HLA.out]; simpa using hla16
          clear hok HBE HOK
          rcases HC.out with ⟨c1, c2⟩ | ⟨c1, c2⟩
          all_goals
            clear HC
            go_wp2_with (first | (refine wpList_copy_splice rfl (.tmp 60) (.tmp 61) 87 87 rfl 5 Tryz.underlying87 HZ1.out (some ⟨w3.heap.size, 0, none⟩) ea 16 16 la ec rfl rfl w3.heap.size 0 (zA.map B8) 70 HG0.out ((A.flatMap two).map B8) HN1c.out (fun h => ⟨rfl, HCA.out h⟩) HF1c.out (bytes_one _) w3.heap.size w3 HB4.out (Nat.le_refl _) ?_; intro w5 h5 b5; refine Hid.out ?_) | fail)
            refine Lib.hid ?_
            have HH5 := Lib.hid h5.out
            have HBB5 := Lib.hid b5
            have HBW := Lib.hid (copy_src8 (HOB3.out.on b5))
            obtain ⟨sp, hsl, hsp⟩ := slice_run w5 w3.heap.size lb hlb16
            have HN1d : Hid (((B.flatMap two).map B8).length = Nat.min lb lb) := by
              show _ = _
              rw [List.length_map, ← HLB.out]; exact (Nat.min_eq_left (Nat.le_refl _)).symm
            have HP1d : Hid (0 < ((B.flatMap two).map B8).length → sp = some ⟨w3.heap.size, 16 - lb, none⟩ ∧ ∃ ad, qa = some ad ∧ ∀ j v, ((B.flatMap two).map B8)[j]? = some v → w5.cell? (ad.add j) = some v) := fun h => ⟨hsp (by rw [List.length_map, ← HLB.out] at h; exact h), HBW.out h⟩
            clear hsp
            have HF1d : Hid (16 - lb + ((B.flatMap two).map B8).length ≤ (splice (zA.map B8) 0 ((A.flatMap two).map B8)).length) := by
              show _ ≤ _
              rw [length_splice _ _ _ HF1c.out, List.length_map, ← HLB.out]
              show _ ≤ 16
              omega
            clear h5 b5
            go_upto_region 11 with (fail)
            go_cut [12] (fun a wx => a = .pointer (some ⟨w3.heap.size, 0, none⟩) ∧ AddrAt wx w3.heap.size ((allG A B).flatMap two) ∧ Below w3.heap.size w3 wx)
            case first =>
              iterate 40 (first | (refine wpList_copy_splice rfl (.tmp 66) (.tmp 67) 87 87 rfl 5 Tryz.underlying87 HZ1.out sp qa lb lb lb qc rfl rfl w3.heap.size (16 - lb) (splice (zA.map B8) 0 ((A.flatMap two).map B8)) 70 HH5.out ((B.flatMap two).map B8) HN1d.out HP1d.out HF1d.out (bytes_one _) w3.heap.size w3 HBB5.out (Nat.le_refl _) ?_; intro w6 h6 b6; refine Hid.out ?_) | go_step | skip)
              refine Lib.hid ?_
              have h6' := h6.out
              have e6 := splice_all HLE.out
              rw [List.length_map, ← HLB.out] at e6
              rw [e6] at h6'
              have HR6 := Lib.hid h6'
              have HB6 := Lib.hid b6
              clear h6 h6' b6 e6
              iterate 10 (try go_step)
              go_meet
              exact ⟨rfl, HR6.out, HB6.out⟩
            case rest =>
            obtain ⟨rfl, hat6, b6⟩ := hcut
            obtain ⟨c, hc⟩ : ∃ c, c = (allG A B).flatMap two := ⟨_, rfl⟩
            have HCL : Hid (c.length = 16) := by show _ = _; rw [hc, flat_two_len, allG_len HLE.out]
            rw [← hc] at hat6 HYES
            have HAT := Lib.hid hat6
            have HN6 := Lib.hid (HN3.out.on b6)
            have HB6 := Lib.hid (HB3.out.trans (b6.mono HB3.out.size))
            have HT6 := Lib.hid (HN6.out.there (c := c) rfl HCL.out)
            have HSZ := Lib.hid (size23_of HCL.out)
            have HSC2 := Lib.hid (size23a HCL.out)
            have HAL2 := Lib.hid (cells_all c)
            clear hat6 b6 hc hsl
            go_wp2_with (first | (refine wpList_load_mid rfl 70 (.tmp 12) rfl w3.heap.size 0 rfl (c.map B8) _ HAT.out.range Tryz.underlying70 rfl HSZ.out ?_) | (refine wpList_store_mid rfl 70 (.tmp 2) (.tmp 69) rfl w.heap.size 0 (c.map B8).toArray rfl rfl HT6.out HSC2.out HAL2.out ?_; generalize hwf : World.setCells _ _ _ _ = wf; refine Hid.out ?_) | fail)
            refine Lib.hid ?_
            obtain ⟨hnf, hkf, hzf⟩ := AddrAt.put HN6.out rfl HCL.out hwf
            have HNF := Lib.hid hnf
            have HKF := Lib.hid hkf
            clear hnf hkf hzf hwf
            go_wp2
            exact bodyPost_ret (results_addr2 Tryz.results135 rfl rfl HNF.out HCL.out) rfl ⟨HB6.out.trans (HKF.out.below (Nat.le_refl _) (heap_lt HN6.out)), Or.inr ⟨_, HYES.out, HCL.out, rfl⟩⟩
  · have e39 : (39 : Int) < (s.size : Int) := by omega
    have HNO : Hid (o = none) := ho.trans (sixS_big (by omega))
    have HTt := Lib.hid (H0.out.there (c := zA) rfl rfl)
    clear ho
    go_enter Tryz.func135, Tryz.ntmps135
    go_wp2_with (first | (refine wpList_store_mid rfl 70 (.tmp 2) (.tmp 16) rfl w.heap.size 0 (zA.map B8).toArray rfl rfl HTt.out HSC.out HALL.out ?_; generalize hwf : World.setCells _ _ _ _ = wf; refine Hid.out ?_) | fail)
    refine Lib.hid ?_
    obtain ⟨hnf, hkf, hzf⟩ := AddrAt.put H0.out rfl (c := zA) rfl hwf
    have HNF := Lib.hid hnf
    have HKF := Lib.hid hkf
    clear hnf hkf hzf hwf
    go_wp2
    exact bodyPost_ret (results_addr2 Tryz.results135 rfl rfl HNF.out rfl) rfl ⟨HB0.out.trans (HKF.out.below (Nat.le_refl _) (heap_lt H0.out)), Or.inl ⟨HNO.out, rfl⟩⟩
end Go.Proofs.YtnehgbpfgehhiaaGreatDoor.Cidr
/-
  CIDR, the program: an address.
-/
namespace Go.Proofs.YtnehgbpfgehhiaaGreatDoor.Cidr
open Go.RowKit Base
theorem list16 {c : List UInt8} (h : c.length = 16) : ∃ a0 a1 a2 a3 a4 a5 a6 a7 a8 a9 a10 a11 a12 a13 a14 a15, c = [a0, a1, a2, a3, a4, a5, a6, a7, a8, a9, a10, a11, a12, a13, a14, a15] := by
  rcases c with _ | ⟨a0, c⟩
  · simp at h
  rcases c with _ | ⟨a1, c⟩
  · simp at h
  rcases c with _ | ⟨a2, c⟩
  · simp at h
  rcases c with _ | ⟨a3, c⟩
  · simp at h
  rcases c with _ | ⟨a4, c⟩
  · simp at h
  rcases c with _ | ⟨a5, c⟩
  · simp at h
  rcases c with _ | ⟨a6, c⟩
  · simp at h
  rcases c with _ | ⟨a7, c⟩
  · simp at h
  rcases c with _ | ⟨a8, c⟩
  · simp at h
  rcases c with _ | ⟨a9, c⟩
  · simp at h
  rcases c with _ | ⟨a10, c⟩
  · simp at h
  rcases c with _ | ⟨a11, c⟩
  · simp at h
  rcases c with _ | ⟨a12, c⟩
  · simp at h
  rcases c with _ | ⟨a13, c⟩
  · simp at h
  rcases c with _ | ⟨a14, c⟩
  · simp at h
  rcases c with _ | ⟨a15, c⟩
  · simp at h
  have hc : c = [] := by simpa using h
  subst hc
  exact ⟨a0, a1, a2, a3, a4, a5, a6, a7, a8, a9, a10, a11, a12, a13, a14, a15, rfl⟩
theorem run_net (six : Bool) (b : Int) {c : List UInt8} (hc : c.length = 16) (w : World) : (Instr.build 72 #[(0, .bool six), (1, .int .i64 b), (2, .agg (c.map B8).toArray)]).run Tryz.prog w = .ok (netV ⟨six, b, c⟩) w := by
  obtain ⟨a0, a1, a2, a3, a4, a5, a6, a7, a8, a9, a10, a11, a12, a13, a14, a15, rfl⟩ := list16 hc
  kernel_rfl
theorem exec_build {ρ : Operand → Value} {o : Oper} {t : TypeId} {i j k : Nat} {a b c : Operand} {v : Value} {w : World} (ho : o.op = .build t #[(i, a), (j, b), (k, c)]) (h : (Instr.build t #[(i, ρ a), (j, ρ b), (k, ρ c)]).run Tryz.prog w = .ok v w) : (execOp ρ o).run Tryz.prog w = .ok (.value v) w := by
  unfold execOp
  simp only [ho, List.map_toArray, List.map_cons, List.map_nil, Sem.run_bind, h, Result.andThen_ok, Sem.run_pure]
theorem a_no {f : FuncId} {args : Array Value} {w : World} (h : Calls Tryz.prog f args w (AEnd none w)) : Calls Tryz.prog f args w (fun e w' => e = .returned (.tuple #[.agg (zA.map B8).toArray, .bool false]) ∧ Below w.heap.size w w') :=
  h.mono fun e w' h => by
    rcases h with ⟨hb, ⟨_, h2⟩ | ⟨n, h1, _⟩⟩
    · exact ⟨h2, hb⟩
    · cases h1
theorem a_yes {f : FuncId} {args : Array Value} {w : World} {n : NetM} (h : Calls Tryz.prog f args w (AEnd (some n) w)) : Calls Tryz.prog f args w (fun e w' => n.a.length = 16 ∧ e = .returned (.tuple #[.agg (n.a.map B8).toArray, .bool true]) ∧ Below w.heap.size w w') :=
  h.mono fun e w' h => by
    rcases h with ⟨hb, ⟨h1, _⟩ | ⟨m, h1, h2, h3⟩⟩
    · cases h1
    · cases h1; exact ⟨h2, h3, hb⟩
theorem mem_split {c x : UInt8} : ∀ {l : List UInt8}, x ∈ l → x = c ∨ ∃ p ∈ splitB c l, x ∈ p
  | [], h => by simp at h
  | y :: r, h => by
    rw [splitB_eq]
    by_cases hy : y = c
    · rw [if_pos hy]
      rcases List.mem_cons.1 h with rfl | h
      · exact Or.inl hy
      · rcases mem_split (c := c) h with h | ⟨p, hp, hx⟩
        · exact Or.inl h
        · exact Or.inr ⟨p, List.mem_cons_of_mem _ hp, hx⟩
    · rw [if_neg hy]
      split
      · rename_i hq; exact absurd hq (splitB_ne c r)
      · rename_i hd tl hq
        rcases List.mem_cons.1 h with rfl | h
        · exact Or.inr ⟨_, List.mem_cons_self, List.mem_cons_self⟩
        · rcases mem_split (c := c) h with h | ⟨p, hp, hx⟩
          · exact Or.inl h
          · rw [hq] at hp
            rcases List.mem_cons.1 hp with rfl | hp
            · exact Or.inr ⟨_, List.mem_cons_self, List.mem_cons_of_mem _ hx⟩
            · exact Or.inr ⟨p, List.mem_cons_of_mem _ hp, hx⟩
theorem four_colon {l : List UInt8} (h : (58 : UInt8) ∈ l) : fourN l = none := by
  cases hf : fourN l with
  | none => rfl
  | some n =>
    exfalso
    unfold fourN fourB at hf
    split at hf
    · cases hm : mapO byteN (splitB 46 l) with
      | none => rw [hm] at hf; cases hf
      | some ns =>
        obtain ⟨_, h2⟩ := mapO_all hm
        rcases mem_split (c := 46) h with h | ⟨p, hp, hx⟩
        · exact absurd h (by decide)
        · obtain ⟨y, hy⟩ := h2 p hp
          have hd := (byteN_le hy).2
          unfold decN at hd
          split at hd
          · rename_i hh
            have := List.all_eq_true.1 hh.2.2.2 58 hx
            exact absurd this (by decide)
          · cases hd
    · cases hf
theorem six_none {s : ByteArray} (h : ∀ x ∈ s.data.toList, x ≠ 58) : sixS s = none := by
  have hcc : firstCC s.data.toList = none := by
    unfold firstCC
    rw [List.find?_eq_none]
    intro j hj
    rw [List.mem_range] at hj
    unfold ccB
    rw [List.getD_eq_getElem?_getD, List.getElem?_eq_getElem (show j < s.data.toList.length by omega)]
    have e : decide (s.data.toList[j]'(by omega) = 58) = false := decide_eq_false (h _ (List.getElem_mem (show j < s.data.toList.length by omega)))
    simp only [Option.getD_some, e, Bool.false_and]
    simp
  unfold sixS
  rw [hcc]
  show (match grpsN s.data.toList, grpsN [] with | some A, some B => if okG none A.length B.length = true then some (⟨true, 128, (allG A B).flatMap two⟩ : NetM) else none | _, _ => none) = none
  cases hA : grpsN s.data.toList with
  | none => rfl
  | some A =>
    have hl : A.length ≤ 1 := by
      unfold grpsN at hA
      split at hA
      · cases hA; simp
      · rw [splitB_none h] at hA
        have := (mapO_all hA).1; simpa using Nat.le_of_eq this
    simp only [grpsN, if_true]
    rw [if_neg]
    intro hok
    have := of_decide_eq_true hok
    omega
theorem four_kind {l : List UInt8} {n : NetM} (h : fourN l = some n) : (⟨false, sizeN false, n.a⟩ : NetM) = n := by
  unfold fourN at h
  cases hb : fourB l with
  | none => rw [hb] at h; cases h
  | some ns => rw [hb] at h; cases h; rfl
theorem six_kind {s : ByteArray} {n : NetM} (h : sixS s = some n) : (⟨true, sizeN true, n.a⟩ : NetM) = n := by
  unfold sixS at h
  split at h
  · split at h
    · cases h; rfl
    · cases h
  · cases h
end Go.Proofs.YtnehgbpfgehhiaaGreatDoor.Cidr
