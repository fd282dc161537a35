/-
  MERGED by mergefill.py: CidrSix.
-/
import Derived.Test.YtnehgbpfgehhiaaGreatDoorCidrFourM
import Derived.Deep.CutBlock
import Derived.Deep.DeepCutAuto
/-
  CIDR, the given answers: an address of IPv6: the walk.
-/
namespace Go.Proofs.YtnehgbpfgehhiaaGreatDoor.Cidr
open Go.RowKit Base
theorem grps_no {f : FuncId} {args : Array Value} {w : World} (h : Calls Tryz.prog f args w (GrpsEnd none w)) : Calls Tryz.prog f args w (fun e w' => e = .returned (.tuple #[.slice none 0 0, .bool false]) ∧ Below w.heap.size w w') :=
  h.mono fun e w' h => by
    rcases h with ⟨_, h1, h2⟩ | ⟨A, v, h1, _⟩
    · exact ⟨h1, h2⟩
    · cases h1
theorem grps_yes {f : FuncId} {args : Array Value} {w : World} {A : List Nat} (h : Calls Tryz.prog f args w (GrpsEnd (some A) w)) : Calls Tryz.prog f args w (fun e w' => ∃ v, e = .returned (.tuple #[v, .bool true]) ∧ OwnsI w' w.heap.size v A ∧ Below w.heap.size w w') :=
  h.mono fun e w' h => by
    rcases h with ⟨h1, _⟩ | ⟨A', v, h1, h2, h3, h4⟩
    · cases h1
    · cases h1; exact ⟨v, h2, h3, h4⟩
theorem mk8 (w : World) : (Instr.makeSlice 108 (.int .i64 8) (.int .i64 8)).run Tryz.prog w = .ok (.slice (some ⟨w.heap.size, 0, none⟩) 8 8) (w.alloc (.cells (List.replicate 8 (I 0)).toArray 3)) := by
  kernel_rfl
theorem ints_one (A : List Nat) : ∀ v ∈ A.map I, v.oneCell' = true := fun v hv => by
  obtain ⟨x, _, rfl⟩ := List.mem_map.1 hv; rfl
theorem copy_src {w : World} {B : Nat} {a : Option Addr} {n c : Nat} {A : List Nat} (h : OwnsI w B (.slice a n c) A) : 0 < (A.map I).length → ∃ ad, a = some ad ∧ ∀ j v, (A.map I)[j]? = some v → w.cell? (ad.add j) = some v := fun h0 => by
  rw [List.length_map] at h0
  obtain ⟨b, hb, _⟩ := h.cell (i := 0) (x := A[0]) (List.getElem?_eq_getElem h0)
  refine ⟨⟨b, 0, none⟩, hb, fun j v hv => ?_⟩
  rw [List.getElem?_map] at hv
  cases hj : A[j]? with
  | none => rw [hj] at hv; cases hv
  | some x =>
    rw [hj] at hv
    cases hv
    obtain ⟨b', hb', hc⟩ := h.cell hj
    rw [hb] at hb'
    cases hb'
    rw [Addr.add_lit, Nat.zero_add]
    exact hc
theorem mapO_lenG {l : List UInt8} {A : List Nat} (h : grpsN l = some A) : A.length ≤ l.length + 1 := by
  unfold grpsN at h
  split at h
  · cases h; simp
  · rw [mapO_len grpN h]; exact splitB_len _ _
set_option maxHeartbeats 8000000 in
set_option maxRecDepth 100000 in
theorem rSix (s : ByteArray) (w : World) (hs : s.size ≤ 4294967280) : Calls Tryz.prog 59 #[.string s] w (NetEnd (sixS s) w) := by
  obtain ⟨o, ho⟩ : ∃ o, o = sixS s := ⟨_, rfl⟩
  rw [← ho]
  unfold sixS at ho
  obtain ⟨o1, ho1⟩ : ∃ o1, o1 = firstCC s.data.toList := ⟨_, rfl⟩
  rw [← ho1] at ho
  have HF1 := Lib.hid ho1
  have HO := Lib.hid ho
  have hn0 := NetAt.new w zeroN
  have hb0 := Below.alloc1 w (.cells (netC zeroN) 72)
  have hn1 := NetAt.new (w.alloc (.cells (netC zeroN) 72)) zeroN
  rw [show (w.alloc (.cells (netC zeroN) 72)).heap.size = w.heap.size + 1 by simp] at hn1
  have HN0 := Lib.hid (hn0.on (Below.alloc1 _ (.cells (netC zeroN) 72)))
  have HB0 : Hid (Below w.heap.size w ((w.alloc (.cells (netC zeroN) 72)).alloc (.cells (netC zeroN) 72))) := hb0.trans ((Below.alloc1 _ _).mono (by simp))
  have HT := Lib.hid (there_of hn1 (n := (netC (⟨true, 128, List.replicate 16 0⟩ : NetM)).size) (by decide))
  have HZ := Lib.hid (size25c (n := ⟨true, 128, List.replicate 16 0⟩) rfl)
  have HPUT := Lib.hid (fun w2 => @net_put _ w2 _ _ hn1 rfl ⟨true, 128, List.replicate 16 0⟩ rfl)
  clear ho ho1 hn0 hb0 hn1
  go_enter Tryz.func59, Tryz.ntmps59
  go_wp2_with (first | (refine wpList_store_mid rfl 72 (.tmp 4) (.tmp 15) rfl (w.heap.size + 1) 0 (netC (⟨true, 128, List.replicate 16 0⟩ : NetM)) rfl rfl HT.out HZ.out (netC_all _) ?_; generalize hw2 : World.setCells _ _ _ _ = w2; refine Hid.out ?_) | fail)
  refine Lib.hid ?_
  obtain ⟨hn2, hk2, hz2⟩ := HPUT.out w2 hw2
  have HN2 := Lib.hid hn2
  have HN20 : Hid (NetAt w2 w.heap.size zeroN) := HN0.out.kept hk2 (by omega)
  have HB2 : Hid (Below w.heap.size w w2) := HB0.out.trans (hk2.below (by omega) (by simp))
  clear hw2 hn2 hk2 hz2 HPUT HT HZ HN0 HB0
  go_upto_block 0 with fail
  go_cut [5] (fun a wx => a = .int .i64 (atI o1) ∧ wx = w2)
  case first =>
    go_wp2
    go_loop [5, 6] (fun a i => ∃ (k : Nat) (q : Option Nat), i = .int .i64 k ∧ a = .int .i64 (atI q) ∧ k ≤ s.size ∧ Hid (q = none → ∀ j, j < k → ccB s.data.toList j = false) ∧ Hid (∀ b, q = some b → o1 = some b)) (fun _ i => s.size - (intOf i).toNat)
    case atStart => exact ⟨0, none, rfl, rfl, Nat.zero_le _, (fun _ j h => by omega), (fun b h => by cases h)⟩
    case round =>
      obtain ⟨k, q, rfl, rfl, hk, hno, hyes⟩ := hrel
      cases q with
      | some b =>
        rw [show atI (some b) = (b : Int) from rfl]
        have HD : Hid (o1 = some b) := hyes.out b rfl
        clear hno hyes
        by_cases hl : k + 1 < s.size
        · have i1 : (k : Int) + 1 < (s.size : Int) := by omega
          go_wp2
          go_meet
          exact ⟨by rw [HD.out]; rfl, rfl⟩
        · have i1 : ¬ (k : Int) + 1 < (s.size : Int) := by omega
          go_wp2
          go_meet
          exact ⟨by rw [HD.out]; rfl, rfl⟩
      | none =>
        rw [show atI none = -1 from rfl]
        have HNO : Hid (∀ j, j < k → ccB s.data.toList j = false) := hno.out rfl
        clear hno hyes
        by_cases hl : k + 1 < s.size
        · have i1 : (k : Int) + 1 < (s.size : Int) := by omega
          have hcc := ccB_at s k hl
          have HCC := Lib.hid hcc
          clear hcc
          by_cases c1 : s[k] = 58
          · have e1 : ((s[k].toNat : Int) == 58) = true := by rw [c1]; rfl
            by_cases c2 : s[k + 1] = 58
            · have e2 : ((s[k + 1].toNat : Int) == 58) = true := by rw [c2]; rfl
              have HD : Hid (o1 = some k) := HF1.out.trans (firstCC_some hl HNO.out (by rw [HCC.out, c1, c2]; rfl))
              clear c1 c2
              go_wp2
              go_round
              case rel => exact ⟨k + 1, some k, by go_num, rfl, by omega, (fun h => by cases h), (fun b h => by cases h; exact HD.out)⟩
              case measure => simp [intOf]; omega
            · have e2 : ((s[k + 1].toNat : Int) == 58) = false := by rw [beq_eq_false_iff_ne]; intro h; exact c2 (UInt8.toNat_inj.1 (by show _ = 58; omega))
              have HD : Hid (∀ j, j < k + 1 → ccB s.data.toList j = false) := fun j hj => by
                rcases Nat.lt_or_ge j k with h | h
                · exact HNO.out j h
                · obtain rfl : j = k := by omega
                  rw [HCC.out, decide_eq_false c2, Bool.and_false]
              clear c1 c2
              go_wp2
              go_round
              case rel => exact ⟨k + 1, none, by go_num, rfl, by omega, (fun _ => HD.out), (fun b h => by cases h)⟩
              case measure => simp [intOf]; omega
          · have e1 : ((s[k].toNat : Int) == 58) = false := by rw [beq_eq_false_iff_ne]; intro h; exact c1 (UInt8.toNat_inj.1 (by show _ = 58; omega))
            have HD : Hid (∀ j, j < k + 1 → ccB s.data.toList j = false) := fun j hj => by
              rcases Nat.lt_or_ge j k with h | h
              · exact HNO.out j h
              · obtain rfl : j = k := by omega
                rw [HCC.out, decide_eq_false c1, Bool.false_and]
            clear c1
            go_wp2
            go_round
            case rel => exact ⟨k + 1, none, by go_num, rfl, by omega, (fun _ => HD.out), (fun b h => by cases h)⟩
            case measure => simp [intOf]; omega
        · have i1 : ¬ (k : Int) + 1 < (s.size : Int) := by omega
          have HD : Hid (o1 = none) := HF1.out.trans (firstCC_none hl HNO.out)
          go_wp2
          go_meet
          exact ⟨by rw [HD.out]; rfl, rfl⟩
  case rest =>
    obtain ⟨rfl, rfl⟩ := hcut
    go_upto_if 41 with fail
    go_cut [7, 8] (fun a b wx => a = .string (headS s o1) ∧ b = .string (tailS s o1) ∧ wx = wc)
    case first =>
      cases o1 with
      | none =>
        rw [show atI none = -1 from rfl]
        go_wp2
        go_meet
        exact ⟨rfl, rfl, rfl⟩
      | some a =>
        have hlt := firstCC_lt HF1.out.symm
        rw [show atI (some a) = (a : Int) from rfl]
        have i1 : (0 : Int) ≤ (a : Int) := by omega
        have i2 : (a : Int) ≤ (s.size : Int) := by omega
        have i3 : (a : Int) + 2 ≤ (s.size : Int) := by omega
        go_wp2
        go_meet
        exact ⟨rfl, rfl, rfl⟩
    case rest =>
      obtain ⟨rfl, rfl, rfl⟩ := hcut
      have hH : (headS s o1).size ≤ s.size := by unfold headS; cases o1 <;> simp [ByteArray.size_extract] <;> omega
      have hT : (tailS s o1).size ≤ s.size := by
        unfold tailS
        cases o1 with
        | none => exact Nat.zero_le _
        | some a => (simp [ByteArray.size_extract]; try omega)
      have HTE : Hid (o1 = none → grpsN (tailS s o1).data.toList = some []) := fun h => by rw [h]; rfl
      generalize headS s o1 = H at HO hH
      generalize tailS s o1 = T at HO hT HTE
      have HGH := Lib.hid (rGroups H wc (by omega))
      have HGT := Lib.hid (fun wx => rGroups T wx (by omega))
      have HLH := Lib.hid hH
      have HLT := Lib.hid hT
      clear hH hT HF1
      obtain ⟨ga, hga⟩ : ∃ ga, ga = grpsN H.data.toList := ⟨_, rfl⟩
      obtain ⟨gb, hgb⟩ : ∃ gb, gb = grpsN T.data.toList := ⟨_, rfl⟩
      have HGA := Lib.hid hga
      have HGB := Lib.hid hgb
      rw [← hga] at HGH HO
      rw [← hgb] at HGT HO HTE
      clear hga hgb
      cases ga with
      | none =>
        have HNO : Hid (o = none) := HO.out
        have HGH2 := Lib.hid (grps_no HGH.out)
        clear HO HGH
        cases gb with
        | none =>
          have HGT2 := Lib.hid (fun wx => grps_no (HGT.out wx))
          clear HGT HTE
          go_wp2_with (go_at_call 92; refine HGH2.out.mono ?_; rintro e w3 ⟨rfl, b3⟩; refine Hid.out ?_)
          refine Lib.hid ?_
          go_wp2_with (go_at_call 92; refine (HGT2.out _).mono ?_; rintro e w4 ⟨rfl, b4⟩; refine Hid.out ?_)
          refine Lib.hid ?_
          have b34 := Lib.hid (b3.trans (b4.mono b3.size))
          clear b3 b4
          have hnq := HN2.out.on b34.out
          have hzq := HN20.out.on b34.out
          have HNt := Lib.hid hnq
          have HBt : Hid (Below w.heap.size w w4) := HB2.out.trans (Below.mono b34.out HB2.out.size)
          have HSt := Lib.hid (size25_of (n := ⟨true, 128, List.replicate 16 0⟩) rfl)
          have HTt := Lib.hid (there_of hzq (n := (netC (⟨true, 128, List.replicate 16 0⟩ : NetM)).size) (by decide))
          have HCt := Lib.hid (size25c (n := ⟨true, 128, List.replicate 16 0⟩) rfl)
          have HPt := Lib.hid (fun wf => @net_put _ wf _ _ hzq rfl ⟨true, 128, List.replicate 16 0⟩ rfl)
          clear hnq hzq
          go_wp2_with (first | (refine wpList_load_mid rfl 72 (.tmp 4) rfl (w.heap.size + 1) 0 rfl (netL (⟨true, 128, List.replicate 16 0⟩ : NetM)) _ HNt.out.range0 Tryz.underlying72 rfl HSt.out ?_) | (refine wpList_store_mid rfl 72 (.tmp 2) (.tmp 86) rfl w.heap.size 0 (netC (⟨true, 128, List.replicate 16 0⟩ : NetM)) rfl rfl HTt.out HCt.out (netC_all _) ?_; generalize hwf : World.setCells _ _ _ _ = wf; refine Hid.out ?_) | fail)
          refine Lib.hid ?_
          obtain ⟨hnf, hkf, hzf⟩ := HPt.out wf hwf
          have HNF := Lib.hid hnf
          have HKF := Lib.hid hkf
          clear hnf hkf hzf hwf
          go_wp2
          exact bodyPost_ret (results_net Tryz.results59 rfl rfl HNF.out rfl) rfl ⟨HBt.out.trans (HKF.out.below (Nat.le_refl _) (Nat.lt_of_lt_of_le (heap_lt HN20.out) (Below.size b34.out))), Or.inl ⟨HNO.out, _, rfl, rfl⟩⟩
        | some B =>
          have HGT2 := Lib.hid (fun wx => grps_yes (HGT.out wx))
          clear HGT HTE
          go_wp2_with (go_at_call 92; refine HGH2.out.mono ?_; rintro e w3 ⟨rfl, b3⟩; refine Hid.out ?_)
          refine Lib.hid ?_
          go_wp2_with (go_at_call 92; refine (HGT2.out _).mono ?_; rintro e w4 ⟨v4, rfl, o4, b4⟩; refine Hid.out ?_)
          refine Lib.hid ?_
          obtain ⟨qa, qc, rfl, _⟩ := o4.form
          have b34 := Lib.hid (b3.trans (b4.mono b3.size))
          clear b3 b4 o4
          have hnq := HN2.out.on b34.out
          have hzq := HN20.out.on b34.out
          have HNt := Lib.hid hnq
          have HBt : Hid (Below w.heap.size w w4) := HB2.out.trans (Below.mono b34.out HB2.out.size)
          have HSt := Lib.hid (size25_of (n := ⟨true, 128, List.replicate 16 0⟩) rfl)
          have HTt := Lib.hid (there_of hzq (n := (netC (⟨true, 128, List.replicate 16 0⟩ : NetM)).size) (by decide))
          have HCt := Lib.hid (size25c (n := ⟨true, 128, List.replicate 16 0⟩) rfl)
          have HPt := Lib.hid (fun wf => @net_put _ wf _ _ hzq rfl ⟨true, 128, List.replicate 16 0⟩ rfl)
          clear hnq hzq
          go_wp2_with (first | (refine wpList_load_mid rfl 72 (.tmp 4) rfl (w.heap.size + 1) 0 rfl (netL (⟨true, 128, List.replicate 16 0⟩ : NetM)) _ HNt.out.range0 Tryz.underlying72 rfl HSt.out ?_) | (refine wpList_store_mid rfl 72 (.tmp 2) (.tmp 86) rfl w.heap.size 0 (netC (⟨true, 128, List.replicate 16 0⟩ : NetM)) rfl rfl HTt.out HCt.out (netC_all _) ?_; generalize hwf : World.setCells _ _ _ _ = wf; refine Hid.out ?_) | fail)
          refine Lib.hid ?_
          obtain ⟨hnf, hkf, hzf⟩ := HPt.out wf hwf
          have HNF := Lib.hid hnf
          have HKF := Lib.hid hkf
          clear hnf hkf hzf hwf
          go_wp2
          exact bodyPost_ret (results_net Tryz.results59 rfl rfl HNF.out rfl) rfl ⟨HBt.out.trans (HKF.out.below (Nat.le_refl _) (Nat.lt_of_lt_of_le (heap_lt HN20.out) (Below.size b34.out))), Or.inl ⟨HNO.out, _, rfl, rfl⟩⟩
      | some A =>
        have HGH2 := Lib.hid (grps_yes HGH.out)
        clear HGH
        cases gb with
        | none =>
          have HNO : Hid (o = none) := HO.out
          have HGT2 := Lib.hid (fun wx => grps_no (HGT.out wx))
          clear HGT HTE HO
          go_wp2_with (go_at_call 92; refine HGH2.out.mono ?_; rintro e w3 ⟨v3, rfl, o3, b3⟩; refine Hid.out ?_)
          refine Lib.hid ?_
          obtain ⟨ea, ec, rfl, _⟩ := o3.form
          go_wp2_with (go_at_call 92; refine (HGT2.out _).mono ?_; rintro e w4 ⟨rfl, b4⟩; refine Hid.out ?_)
          refine Lib.hid ?_
          have b34 := Lib.hid (b3.trans (b4.mono b3.size))
          clear b3 b4 o3
          have hnq := HN2.out.on b34.out
          have hzq := HN20.out.on b34.out
          have HNt := Lib.hid hnq
          have HBt : Hid (Below w.heap.size w w4) := HB2.out.trans (Below.mono b34.out HB2.out.size)
          have HSt := Lib.hid (size25_of (n := ⟨true, 128, List.replicate 16 0⟩) rfl)
          have HTt := Lib.hid (there_of hzq (n := (netC (⟨true, 128, List.replicate 16 0⟩ : NetM)).size) (by decide))
          have HCt := Lib.hid (size25c (n := ⟨true, 128, List.replicate 16 0⟩) rfl)
          have HPt := Lib.hid (fun wf => @net_put _ wf _ _ hzq rfl ⟨true, 128, List.replicate 16 0⟩ rfl)
          clear hnq hzq
          go_wp2_with (first | (refine wpList_load_mid rfl 72 (.tmp 4) rfl (w.heap.size + 1) 0 rfl (netL (⟨true, 128, List.replicate 16 0⟩ : NetM)) _ HNt.out.range0 Tryz.underlying72 rfl HSt.out ?_) | (refine wpList_store_mid rfl 72 (.tmp 2) (.tmp 86) rfl w.heap.size 0 (netC (⟨true, 128, List.replicate 16 0⟩ : NetM)) rfl rfl HTt.out HCt.out (netC_all _) ?_; generalize hwf : World.setCells _ _ _ _ = wf; refine Hid.out ?_) | fail)
          refine Lib.hid ?_
          obtain ⟨hnf, hkf, hzf⟩ := HPt.out wf hwf
          have HNF := Lib.hid hnf
          have HKF := Lib.hid hkf
          clear hnf hkf hzf hwf
          go_wp2
          exact bodyPost_ret (results_net Tryz.results59 rfl rfl HNF.out rfl) rfl ⟨HBt.out.trans (HKF.out.below (Nat.le_refl _) (Nat.lt_of_lt_of_le (heap_lt HN20.out) (Below.size b34.out))), Or.inl ⟨HNO.out, _, rfl, rfl⟩⟩
        | some B =>
          have HOK : Hid (o = if okG o1 A.length B.length = true then some ⟨true, 128, (allG A B).flatMap two⟩ else none) := HO.out
          have HBN : Hid (o1 = none → B = []) := fun h => Option.some.inj (HTE.out h)
          have HSA := Lib.hid (grps_small HGA.out.symm)
          have HSB := Lib.hid (grps_small HGB.out.symm)
          have HGT2 := Lib.hid (fun wx => grps_yes (HGT.out wx))
          clear HGT HTE HO
          go_wp2_with (go_at_call 92; refine HGH2.out.mono ?_; rintro e w3 ⟨v3, rfl, o3, b3⟩; refine Hid.out ?_)
          refine Lib.hid ?_
          obtain ⟨ea, ec, rfl, hec⟩ := o3.form
          go_wp2_with (go_at_call 92; refine (HGT2.out _).mono ?_; rintro e w4 ⟨v4, rfl, o4, b4⟩; refine Hid.out ?_)
          refine Lib.hid ?_
          obtain ⟨qa, qc, rfl, hqc⟩ := o4.form
          have HRA := Lib.hid (o3.on b4)
          have HRB := Lib.hid o4
          have B34 := Lib.hid (b3.trans (b4.mono b3.size))
          have B4 := Lib.hid b4
          clear b3 b4 o3 o4
          obtain ⟨ok, hok⟩ : ∃ ok, ok = okG o1 A.length B.length := ⟨_, rfl⟩
          rw [← hok] at HOK
          have HK := Lib.hid hok
          clear hok
          go_upto_region 15 with fail
          go_cut [85] (fun a wx => a = .bool (!ok) ∧ wx = w4)
          case first =>
            cases o1 with
            | none =>
              rw [show atI none = -1 from rfl]
              by_cases h8 : A.length = 8
              · have e8 : ((A.length : Int) != 8) = false := by rw [h8]; rfl
                have HK2 : Hid (ok = true) := by have := HK.out; unfold okG at this; rw [decide_eq_true h8] at this; exact this
                clear h8 HK
                go_wp2
                go_meet
                exact ⟨by rw [HK2.out]; rfl, rfl⟩
              · have e8 : ((A.length : Int) != 8) = true := by rw [bne_iff_ne]; omega
                have HK2 : Hid (ok = false) := by have := HK.out; unfold okG at this; rw [decide_eq_false h8] at this; exact this
                clear h8 HK
                go_wp2
                go_meet
                exact ⟨by rw [HK2.out]; rfl, rfl⟩
            | some a =>
              rw [show atI (some a) = (a : Int) from rfl]
              have i1 : ¬ (a : Int) < 0 := by omega
              have i2 : (0 : Int) ≤ (a : Int) := by omega
              obtain ⟨i9, i10⟩ : (A.length : Int) ≤ 4294967281 ∧ (B.length : Int) ≤ 4294967281 := by
                have q1 := HLH.out
                have q2 := HLT.out
                have h1 := mapO_lenG HGA.out.symm
                have h2 := mapO_lenG HGB.out.symm
                rw [str_len] at h1 h2
                omega
              by_cases h8 : A.length + B.length ≤ 7
              · have e8 : ¬ (7 : Int) < (A.length : Int) + (B.length : Int) := by omega
                have HK2 : Hid (ok = true) := by have := HK.out; unfold okG at this; rw [decide_eq_true h8] at this; exact this
                clear h8 HK
                go_wp2
                go_meet
                exact ⟨by rw [HK2.out]; rfl, rfl⟩
              · have e8 : (7 : Int) < (A.length : Int) + (B.length : Int) := by omega
                have HK2 : Hid (ok = false) := by have := HK.out; unfold okG at this; rw [decide_eq_false h8] at this; exact this
                clear h8 HK
                go_wp2
                go_meet
                exact ⟨by rw [HK2.out]; rfl, rfl⟩
          case rest =>
            obtain ⟨rfl, hwc⟩ := hcut
            have hwc' := hwc.symm
            subst hwc'
            cases ok with
            | false =>
              have HNO : Hid (o = none) := HOK.out
              have hnq := HN2.out.on B34.out
              have hzq := HN20.out.on B34.out
              have HNt := Lib.hid hnq
              have HBt : Hid (Below w.heap.size w w4) := HB2.out.trans (Below.mono B34.out HB2.out.size)
              have HSt := Lib.hid (size25_of (n := ⟨true, 128, List.replicate 16 0⟩) rfl)
              have HTt := Lib.hid (there_of hzq (n := (netC (⟨true, 128, List.replicate 16 0⟩ : NetM)).size) (by decide))
              have HCt := Lib.hid (size25c (n := ⟨true, 128, List.replicate 16 0⟩) rfl)
              have HPt := Lib.hid (fun wf => @net_put _ wf _ _ hzq rfl ⟨true, 128, List.replicate 16 0⟩ rfl)
              clear hnq hzq
              go_wp2_with (first | (refine wpList_load_mid rfl 72 (.tmp 4) rfl (w.heap.size + 1) 0 rfl (netL (⟨true, 128, List.replicate 16 0⟩ : NetM)) _ HNt.out.range0 Tryz.underlying72 rfl HSt.out ?_) | (refine wpList_store_mid rfl 72 (.tmp 2) (.tmp 86) rfl w.heap.size 0 (netC (⟨true, 128, List.replicate 16 0⟩ : NetM)) rfl rfl HTt.out HCt.out (netC_all _) ?_; generalize hwf : World.setCells _ _ _ _ = wf; refine Hid.out ?_) | fail)
              refine Lib.hid ?_
              obtain ⟨hnf, hkf, hzf⟩ := HPt.out wf hwf
              have HNF := Lib.hid hnf
              have HKF := Lib.hid hkf
              clear hnf hkf hzf hwf
              go_wp2
              exact bodyPost_ret (results_net Tryz.results59 rfl rfl HNF.out rfl) rfl ⟨HBt.out.trans (HKF.out.below (Nat.le_refl _) (Nat.lt_of_lt_of_le (heap_lt HN20.out) (Below.size B34.out))), Or.inl ⟨HNO.out, _, rfl, rfl⟩⟩
            | true =>
              have HYES : Hid (o = some ⟨true, 128, (allG A B).flatMap two⟩) := HOK.out
              have HLE : Hid (A.length + B.length ≤ 8) := ok_len HBN.out HK.out.symm
              clear HK HOK HBN
              have hmk : (Instr.makeSlice 108 (.int .i64 8) (.int .i64 8)).run Tryz.prog w4 = .ok (.slice (some ⟨w4.heap.size, 0, none⟩) 8 8) (w4.alloc (.cells (List.replicate 8 (I 0)).toArray 3)) := mk8 w4
              have hg0 : (w4.alloc (.cells (List.replicate 8 (I 0)).toArray 3)).heap[w4.heap.size]? = some (.cells (List.replicate 8 (I 0)).toArray 3 (0, 0)) := (MapKept.heap_alloc w4 _).1
              have HG0 := Lib.hid hg0
              have HZ3 := Lib.hid (show (Tryz.prog.info? 3).map (·.size) = some 1 by kernel_rfl)
              have HAW := Lib.hid (HRA.out.on (Below.alloc1 w4 (.cells (List.replicate 8 (I 0)).toArray 3)))
              have HCA := Lib.hid (copy_src HAW.out)
              have HB5 := Lib.hid (Below.alloc1 w4 (.cells (List.replicate 8 (I 0)).toArray 3))
              clear hg0
              go_wp2_with (first | (refine wpList_copy_splice rfl (.tmp 88) (.tmp 89) 108 108 rfl 3 Tryz.underlying108 HZ3.out (some ⟨w4.heap.size, 0, none⟩) ea 8 8 A.length ec rfl rfl w4.heap.size 0 (List.replicate 8 (I 0)) 3 HG0.out (A.map I) (by rw [List.length_map]; exact (Nat.min_eq_left (by have := HLE.out; omega)).symm) (fun h => ⟨rfl, HCA.out h⟩) (by simp; have := HLE.out; omega) (ints_one A) w4.heap.size w4 HB5.out (Nat.le_refl _) ?_; intro w5 h5 b5; refine Hid.out ?_) | fail)
              refine Lib.hid ?_
              have hb8 : (B.length : Int) ≤ 8 := by have := HLE.out; omega
              have hb8' : B.length ≤ 8 := by have := HLE.out; omega
              have HH5 := Lib.hid h5.out
              have HBB5 := Lib.hid b5
              have HBW := Lib.hid (copy_src (HRB.out.on (b5.mono (Nat.le_refl _))))
              have HN1c : Hid ((B.map I).length = Nat.min B.length (8 - (8 - B.length))) := by
                show _ = _
                rw [List.length_map]; exact (Nat.min_eq_left (by omega)).symm
              have HP1c : Hid (0 < (B.map I).length → (if 8 = 8 - B.length then some (⟨w4.heap.size, 0, none⟩ : Addr) else some ⟨w4.heap.size, 8 - B.length, none⟩) = some ⟨w4.heap.size, 8 - B.length, none⟩ ∧ ∃ ad, qa = some ad ∧ ∀ j v, (B.map I)[j]? = some v → w5.cell? (ad.add j) = some v) := fun h => ⟨if_neg (by rw [List.length_map] at h; omega), HBW.out h⟩
              have HF1c : Hid (8 - B.length + (B.map I).length ≤ (splice (List.replicate 8 (I 0)) 0 (A.map I)).length) := by
                show _ ≤ _
                rw [length_splice _ _ _ (by rw [List.length_map, List.length_replicate]; have := HLE.out; omega), List.length_map, List.length_replicate]; omega
              clear h5 b5 hmk
              go_upto_region 19 with (fail)
              go_cut [13] (fun a wx => a = .slice (some ⟨w4.heap.size, 0, none⟩) 8 8 ∧ wx.heap[w4.heap.size]? = some (.cells ((allG A B).map I).toArray 3 (0, 0)) ∧ Below w4.heap.size w4 wx)
              case first =>
                iterate 40 (first | (refine wpList_copy_splice rfl (.tmp 95) (.tmp 96) 108 108 rfl 3 Tryz.underlying108 HZ3.out (if 8 = 8 - B.length then some ⟨w4.heap.size, 0, none⟩ else some ⟨w4.heap.size, 8 - B.length, none⟩) qa (8 - (8 - B.length)) (8 - (8 - B.length)) B.length qc rfl rfl w4.heap.size (8 - B.length) (splice (List.replicate 8 (I 0)) 0 (A.map I)) 3 HH5.out (B.map I) HN1c.out HP1c.out HF1c.out (ints_one B) w4.heap.size w4 HBB5.out (Nat.le_refl _) ?_; intro w6 h6 b6; refine Hid.out ?_) | go_step | skip)
                refine Lib.hid ?_
                have h6' := h6.out
                rw [splice_two HLE.out] at h6'
                have HR6 := Lib.hid h6'
                have HB6 := Lib.hid b6
                clear h6 h6' b6
                iterate 10 (try go_step)
                go_meet
                exact ⟨rfl, HR6.out, HB6.out⟩
              case rest =>
              obtain ⟨rfl, hrow6, b6⟩ := hcut
              have HROW := Lib.hid hrow6
              obtain ⟨G, hG⟩ : ∃ G, G = allG A B := ⟨_, rfl⟩
              have HGS : Hid (∀ g ∈ G, g ≤ 65535) := by rw [hG]; exact allG_small HSA.out HSB.out
              have HGL : Hid (G.length = 8) := by rw [hG]; exact allG_len HLE.out
              rw [← hG] at HYES HROW
              have HN6 : Hid (NetAt wc (w.heap.size + 1) ⟨true, 128, part6 G 0⟩) := (HN2.out.on B34.out).on b6
              have HN60 : Hid (NetAt wc w.heap.size zeroN) := (HN20.out.on B34.out).on b6
              have HB6 : Hid (Below w.heap.size w wc) := (HB2.out.trans (B34.out.mono HB2.out.size)).trans (b6.mono (Nat.le_trans HB2.out.size (Below.size B34.out)))
              have HGE : Hid (w.heap.size + 1 < w4.heap.size) := Nat.lt_of_lt_of_le (heap_lt HN2.out) (Below.size B34.out)
              clear hrow6 b6 hG HBW HH5 HBB5 HAW HCA HG0 HB5 hb8 hb8' HSA HSB HLE
              obtain ⟨R, hR⟩ : ∃ R : Value → World → Prop, R = fun i wr => ∃ k : Nat, k ≤ 8 ∧ i = .int .i64 k ∧ wr.heap[w4.heap.size]? = some (.cells (G.map I).toArray 3 (0, 0)) ∧ NetAt wr (w.heap.size + 1) ⟨true, 128, part6 G k⟩ ∧ NetAt wr w.heap.size zeroN ∧ Below w.heap.size w wr := ⟨_, rfl⟩
              have HR := Lib.hid hR
              clear hR
              go_wp2
              go_loopw [14] (fun i wr => R i wr) (fun i _ => 8 - (intOf i).toNat)
              case atStart => rw [HR.out]; exact ⟨0, by omega, rfl, HROW.out, HN6.out, HN60.out, HB6.out⟩
              case round =>
                rw [HR.out] at hrel
                obtain ⟨k, hk, rfl, hrow, hnet, hz, hbw⟩ := hrel
                by_cases hlt : k < 8
                · have hGk : k < G.length := by rw [HGL.out]; exact hlt
                  obtain ⟨gv, hgv⟩ : ∃ gv, gv = G[k] := ⟨_, rfl⟩
                  have hgs : gv ≤ 65535 := by rw [hgv]; exact HGS.out _ (List.getElem_mem hGk)
                  have hcell : wr.cell? ⟨w4.heap.size, k, none⟩ = some (.int .i64 (gv : Int)) := by
                    rw [cell_of_row wr _ k _ _ _ hrow, hgv]
                    simp [List.getElem?_eq_getElem hGk]
                  have hpl := part6_len (G := G) (k := k) (by omega) hk
                  obtain ⟨c1, c2⟩ := hnet.cellA (k := 2 * k) (by show _ < (part6 G k).length; omega)
                  obtain ⟨c3, c4⟩ := hnet.cellA (k := 2 * k + 1) (by show _ < (part6 G k).length; omega)
                  have hge := HGE.out
                  have n1 : ¬ (w.heap.size + 1 = w4.heap.size) := by omega
                  have n2 : ¬ (w4.heap.size = w.heap.size + 1) := by omega
                  have i1 : (k : Int) < 8 := by omega
                  have i0' : (0 : Int) ≤ (k : Int) := by omega
                  have HNET := Lib.hid hnet
                  have HZ := Lib.hid hz
                  have HRW := Lib.hid hrow
                  have HBW := Lib.hid hbw
                  have HGV := Lib.hid hgv
                  clear hnet hz hrow hbw hgv hpl hge
                  have hv1 : B8 (UInt8.ofNat (gv / 256)) = Value.int .u8 ((gv : Int) / 256) := by
                    simp only [B8, UInt8.toNat_ofNat']; congr 1; omega
                  have hv2 : B8 (UInt8.ofNat (gv % 256)) = Value.int .u8 ((gv : Int) % 256) := by
                    simp only [B8, UInt8.toNat_ofNat']; congr 1; omega
                  have hfin := (HNET.out.setA (2 * k) (UInt8.ofNat (gv / 256))).setA (2 * k + 1) (UInt8.ofNat (gv % 256))
                  rw [hv1, hv2] at hfin
                  simp only [HGV.out, part6_step hGk hlt] at hfin
                  have hkp := (KeepX.set (w.heap.size + 1) wr (2 + 2 * k) (.int .u8 ((gv : Int) / 256))).trans (KeepX.set (w.heap.size + 1) _ (2 + (2 * k + 1)) (.int .u8 ((gv : Int) % 256)))
                  have HRK : Hid (R (.int .i64 ((k : Int) + 1)) ((wr.setCell ⟨w.heap.size + 1, 2 + 2 * k, none⟩ (.int .u8 ((gv : Int) / 256))).setCell ⟨w.heap.size + 1, 2 + (2 * k + 1), none⟩ (.int .u8 ((gv : Int) % 256)))) := by
                    show R _ _
                    rw [HR.out]
                    refine ⟨k + 1, by omega, by simp, (hkp.block _ (heap_lt HRW.out) n2).trans HRW.out, ?_, HZ.out.kept hkp (by omega), HBW.out.trans (hkp.below (by omega) (heap_lt HNET.out))⟩
                    rw [HGV.out]
                    exact hfin
                  clear hv1 hv2 hfin hkp
                  go_wp2
                  go_roundw
                  case rel => exact HRK.out
                  case measure => simp [intOf]; omega
                · have hk8 : k = 8 := by omega
                  subst hk8
                  rw [part6_end HGL.out] at hnet
                  have HNt := Lib.hid hnet
                  have HBt := Lib.hid hbw
                  have HFL : Hid ((G.flatMap two).length = 16) := by show _ = _; rw [flat_len, HGL.out]
                  have HSt := Lib.hid (size25_of (n := ⟨true, 128, G.flatMap two⟩) HFL.out)
                  have HTt := Lib.hid (there_of hz (n := (netC (⟨true, 128, G.flatMap two⟩ : NetM)).size) (by rw [netC_size HFL.out]; decide))
                  have HCt := Lib.hid (size25c (n := ⟨true, 128, G.flatMap two⟩) HFL.out)
                  have HPt := Lib.hid (fun wf => @net_put _ wf _ _ hz rfl ⟨true, 128, G.flatMap two⟩ HFL.out)
                  have HLt := Lib.hid (heap_lt hz)
                  clear hrow hnet hz hbw
                  go_wp2_with (first | (refine wpList_load_mid rfl 72 (.tmp 4) rfl (w.heap.size + 1) 0 rfl (netL (⟨true, 128, G.flatMap two⟩ : NetM)) _ HNt.out.range0 Tryz.underlying72 rfl HSt.out ?_) | (refine wpList_store_mid rfl 72 (.tmp 2) (.tmp 123) rfl w.heap.size 0 (netC (⟨true, 128, G.flatMap two⟩ : NetM)) rfl rfl HTt.out HCt.out (netC_all _) ?_; generalize hwf : World.setCells _ _ _ _ = wf; refine Hid.out ?_) | fail)
                  refine Lib.hid ?_
                  obtain ⟨hnf, hkf, hzf⟩ := HPt.out wf hwf
                  have HNF := Lib.hid hnf
                  have HKF := Lib.hid hkf
                  clear hnf hkf hzf hwf
                  go_wp2
                  exact bodyPost_ret (results_net Tryz.results59 rfl rfl HNF.out HFL.out) rfl ⟨HBt.out.trans (HKF.out.below (Nat.le_refl _) HLt.out), Or.inr ⟨_, HYES.out, HFL.out, rfl⟩⟩
end Go.Proofs.YtnehgbpfgehhiaaGreatDoor.Cidr
