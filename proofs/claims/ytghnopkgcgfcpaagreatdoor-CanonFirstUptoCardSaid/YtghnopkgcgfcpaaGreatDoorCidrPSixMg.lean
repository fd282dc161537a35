/-
  MERGED by mergefill.py: CidrPSix, CidrPAddrP, CidrPAddr.
-/
import Derived.Test.YtghnopkgcgfcpaaGreatDoorCidrPNumMg
import Derived.Deep.RegionHeld3
set_option maxHeartbeats 16000000
set_option maxRecDepth 100000
namespace Go.Proofs.YtghnopkgcgfcpaaGreatDoor.Cidr
open Go.RowKit Base
theorem slice_run (w : World) (b lb : Nat) (h : lb≤16) : ∃ p,(Instr.sliceAt 68 (.pointer (some ⟨b,0,none⟩)) (some (.int .i64 (16 - (lb : Int)))) none none).run Tryz.prog w=.ok (.slice p lb lb) w∧(0 < lb→p=some ⟨b,16 - lb,none⟩):=by
 rcases (by omega : lb=0∨lb=1∨lb=2∨lb=3∨lb=4∨lb=5∨lb=6∨lb=7∨lb=8∨lb=9∨lb=10∨lb=11∨lb=12∨lb=13∨lb=14∨lb=15∨lb=16) with rfl | rfl | rfl | rfl | rfl | rfl | rfl | rfl | rfl | rfl | rfl | rfl | rfl | rfl | rfl | rfl | rfl
 ·exact ⟨some ⟨b,0,none⟩,by kernel_rfl,fun h=>by omega⟩
 all_goals exact ⟨_,by kernel_rfl,fun _=>rfl⟩
theorem grps_count {l : List UInt8} {A : List Nat} (h : grpsN l=some A) : A.length≤l.length + 1:=by
 unfold grpsN at h
 split at h
 ·cases h; simp
 ·have h1:=(mapO_all h).1
  have:=splitB_len 58 l
  omega
theorem g_no {f : FuncId} {args : Array Value} {w : World} (h : Calls Tryz.prog f args w (GEnd none w)) : Calls Tryz.prog f args w (fun e w'=>e=.returned (.tuple #[.slice none 0 0,.bool false])∧Below w.heap.size w w') :=
 h.mono fun e w' h=>by
  rcases h with ⟨hb,⟨_,h2⟩ | ⟨ns,v,h1,_⟩⟩
  ·exact ⟨h2,hb⟩
  ·cases h1
theorem g_yes {f : FuncId} {args : Array Value} {w : World} {A : List Nat} (h : Calls Tryz.prog f args w (GEnd (some A) w)) (n : Nat) (hn : n=(A.flatMap two).length) : Calls Tryz.prog f args w (fun e w'=>∃ a c,e=.returned (.tuple #[.slice a n c,.bool true])∧Owns w' w.heap.size (.slice a n c) (A.flatMap two)∧Below w.heap.size w w') :=
 h.mono fun e w' h=>by
  rcases h with ⟨hb,⟨h1,_⟩ | ⟨ns,v,h1,h2,h3⟩⟩
  ·cases h1
  ·cases h1
   obtain ⟨a,c,rfl,_⟩:=row_form h3
   subst hn
   exact ⟨a,c,h2,h3,hb⟩
theorem head_size (s : ByteArray) (o : Option Nat) : (headS s o).size≤s.size:=by
 cases o with
 | none=>exact Nat.le_refl _
 | some a=>unfold headS; rw [ByteArray.size_extract]; omega
theorem tail_size (s : ByteArray) (o : Option Nat) : (tailS s o).size≤s.size:=by
 cases o with
 | none=>exact Nat.zero_le _
 | some a=>unfold tailS; rw [ByteArray.size_extract]; omega
theorem pSix (s : ByteArray) (w : World) (he : Env w) : Calls Tryz.prog 132 #[.string s] w (AEnd (sixS s) w):=by
 obtain ⟨o,ho⟩ : ∃ o,o=sixS s:=⟨_,rfl⟩
 rw [← ho]
 have H0:=Lib.hid (zA_new w)
 have HB0:=Lib.hid (Below.alloc1 w (.cells (List.replicate 16 (Value.int .u8 0)).toArray 68))
 have HSC:=Lib.hid (size23a (a:=zA) rfl)
 have HALL:=Lib.hid (cells_all zA)
 have HE0:=Lib.hid (he.on HB0.out)
 clear he
 by_cases hs : s.size≤39
 ·have e39 : ¬ (39 : Int) < (s.size : Int):=by omega
  unfold sixS at ho
  have HCC:=Lib.hid (pCC s _ (by omega) HE0.out)
  have hh:=head_size s (firstCC s.data.toList)
  have ht:=tail_size s (firstCC s.data.toList)
  have hbn : firstCC s.data.toList=none→grpsN (tailS s (firstCC s.data.toList)).data.toList=some []:=fun h=>by rw [h]; rfl
  generalize firstCC s.data.toList=cc at *
  generalize headS s cc=HS at *
  generalize tailS s cc=TS at *
  have hcA : ∀ A,grpsN HS.data.toList=some A→A.length≤40:=fun A h=>by have:=grps_count h; rw [str_len] at this; omega
  have hcB : ∀ A,grpsN TS.data.toList=some A→A.length≤40:=fun A h=>by have:=grps_count h; rw [str_len] at this; omega
  have HG1:=Lib.hid (fun wx he=>pGroups HS (by omega) wx he)
  have HG2:=Lib.hid (fun wx he=>pGroups TS (by omega) wx he)
  generalize grpsN HS.data.toList=gA at *
  generalize grpsN TS.data.toList=gB at *
  have HCA:=Lib.hid hcA
  have HCB:=Lib.hid hcB
  clear hcA hcB
  have HO:=Lib.hid ho
  have HBN:=Lib.hid hbn
  clear ho hh ht hbn
  go_enter Tryz.func132,Tryz.ntmps132
  go_wp2_with (first | (go_at_call 176; refine HCC.out.mono ?_; rintro e w1 ⟨rfl,b1⟩; refine Hid.out ?_) | fail)
  refine Lib.hid ?_
  have HN1:=Lib.hid (H0.out.on b1)
  have HB1:=Lib.hid (HB0.out.trans (b1.mono HB0.out.size))
  have HE1:=Lib.hid (HE0.out.on b1)
  clear b1
  cases gA with
  | none =>
   have HNO : Hid (o=none):=HO.out
   go_wp2_with (first | (go_at_call 177; refine (g_no (HG1.out _ HE1.out)).mono ?_; rintro e w2 ⟨rfl,b2⟩; refine Hid.out ?_) | fail)
   refine Lib.hid ?_
   have HN2:=Lib.hid (HN1.out.on b2)
   have HB2:=Lib.hid (HB1.out.trans (b2.mono HB1.out.size))
   have HE2:=Lib.hid (HE1.out.on b2)
   clear b2
   cases gB with
   | none =>
    go_wp2_with (first | (go_at_call 177; refine (g_no (HG2.out _ HE2.out)).mono ?_; rintro e w3 ⟨rfl,b3⟩; refine Hid.out ?_) | fail)
    refine Lib.hid ?_
    have HN3:=Lib.hid (HN2.out.on b3)
    have HB3:=Lib.hid (HB2.out.trans (b3.mono HB2.out.size))
    have HTt:=Lib.hid (HN3.out.there (c:=zA) rfl rfl)
    clear b3
    go_wp2_with (first | (refine wpList_store_mid rfl 68 (.tmp 2) (.tmp 59) rfl w.heap.size 0 (zA.map B8).toArray rfl rfl HTt.out HSC.out HALL.out ?_; generalize hwf : World.setCells _ _ _ _=wf; refine Hid.out ?_) | fail)
    refine Lib.hid ?_
    obtain ⟨hnf,hkf,hzf⟩:=AddrAt.put HN3.out rfl (c:=zA) rfl hwf
    have HNF:=Lib.hid hnf
    have HKF:=Lib.hid hkf
    clear hnf hkf hzf hwf
    go_wp2
    exact bodyPost_ret (results_addr2 Tryz.results132 rfl rfl HNF.out rfl) rfl ⟨HB3.out.trans (HKF.out.below (Nat.le_refl _) (heap_lt HN3.out)),Or.inl ⟨HNO.out,rfl⟩⟩
   | some B =>
    go_wp2_with (first | (go_at_call 177; refine (g_yes (HG2.out _ HE2.out) _ rfl).mono ?_; rintro e w3 ⟨qa,qc,rfl,_,b3⟩; refine Hid.out ?_) | fail)
    refine Lib.hid ?_
    have HN3:=Lib.hid (HN2.out.on b3)
    have HB3:=Lib.hid (HB2.out.trans (b3.mono HB2.out.size))
    have HTt:=Lib.hid (HN3.out.there (c:=zA) rfl rfl)
    clear b3
    go_wp2_with (first | (refine wpList_store_mid rfl 68 (.tmp 2) (.tmp 59) rfl w.heap.size 0 (zA.map B8).toArray rfl rfl HTt.out HSC.out HALL.out ?_; generalize hwf : World.setCells _ _ _ _=wf; refine Hid.out ?_) | fail)
    refine Lib.hid ?_
    obtain ⟨hnf,hkf,hzf⟩:=AddrAt.put HN3.out rfl (c:=zA) rfl hwf
    have HNF:=Lib.hid hnf
    have HKF:=Lib.hid hkf
    clear hnf hkf hzf hwf
    go_wp2
    exact bodyPost_ret (results_addr2 Tryz.results132 rfl rfl HNF.out rfl) rfl ⟨HB3.out.trans (HKF.out.below (Nat.le_refl _) (heap_lt HN3.out)),Or.inl ⟨HNO.out,rfl⟩⟩
  | some A =>
   obtain ⟨la,hla⟩ : ∃ la,la=(A.flatMap two).length:=⟨_,rfl⟩
   have HLA:=Lib.hid hla
   have HLA2 : Hid (la=2 * A.length):=hla.trans (flat_two_len A)
   have hla1 : la≤80:=by have:=HCA.out A rfl; have:=flat_two_len A; omega
   clear hla
   go_wp2_with (first | (go_at_call 177; refine (g_yes (HG1.out _ HE1.out) la HLA.out).mono ?_; rintro e w2 ⟨ea,ec,rfl,owA,b2⟩; refine Hid.out ?_) | fail)
   refine Lib.hid ?_
   have HN2:=Lib.hid (HN1.out.on b2)
   have HB2:=Lib.hid (HB1.out.trans (b2.mono HB1.out.size))
   have HE2:=Lib.hid (HE1.out.on b2)
   have HOA:=Lib.hid owA
   clear b2 owA
   cases gB with
   | none =>
    have HNO : Hid (o=none):=HO.out
    go_wp2_with (first | (go_at_call 177; refine (g_no (HG2.out _ HE2.out)).mono ?_; rintro e w3 ⟨rfl,b3⟩; refine Hid.out ?_) | fail)
    refine Lib.hid ?_
    have HN3:=Lib.hid (HN2.out.on b3)
    have HB3:=Lib.hid (HB2.out.trans (b3.mono HB2.out.size))
    have HTt:=Lib.hid (HN3.out.there (c:=zA) rfl rfl)
    clear b3
    go_wp2_with (first | (refine wpList_store_mid rfl 68 (.tmp 2) (.tmp 59) rfl w.heap.size 0 (zA.map B8).toArray rfl rfl HTt.out HSC.out HALL.out ?_; generalize hwf : World.setCells _ _ _ _=wf; refine Hid.out ?_) | fail)
    refine Lib.hid ?_
    obtain ⟨hnf,hkf,hzf⟩:=AddrAt.put HN3.out rfl (c:=zA) rfl hwf
    have HNF:=Lib.hid hnf
    have HKF:=Lib.hid hkf
    clear hnf hkf hzf hwf
    go_wp2
    exact bodyPost_ret (results_addr2 Tryz.results132 rfl rfl HNF.out rfl) rfl ⟨HB3.out.trans (HKF.out.below (Nat.le_refl _) (heap_lt HN3.out)),Or.inl ⟨HNO.out,rfl⟩⟩
   | some B =>
    obtain ⟨lb,hlb⟩ : ∃ lb,lb=(B.flatMap two).length:=⟨_,rfl⟩
    have HLB:=Lib.hid hlb
    have HLB2 : Hid (lb=2 * B.length):=hlb.trans (flat_two_len B)
    have hlb1 : lb≤80:=by have:=HCB.out B rfl; have:=flat_two_len B; omega
    clear hlb
    have HOK : Hid (o=if okG cc A.length B.length=true then some ⟨true,128,(allG A B).flatMap two⟩ else none):=HO.out
    have HBE : Hid (cc=none→B.length=0):=fun h=>by have:=HBN.out h; cases this; rfl
    clear HO HBN
    go_wp2_with (first | (go_at_call 177; refine (g_yes (HG2.out _ HE2.out) lb HLB.out).mono ?_; rintro e w3 ⟨qa,qc,rfl,owB,b3⟩; refine Hid.out ?_) | fail)
    refine Lib.hid ?_
    have HN3:=Lib.hid (HN2.out.on b3)
    have HB3:=Lib.hid (HB2.out.trans (b3.mono HB2.out.size))
    have HTt:=Lib.hid (HN3.out.there (c:=zA) rfl rfl)
    have HOA3:=Lib.hid (HOA.out.on b3)
    have HOB3:=Lib.hid owB
    clear b3 owB
    cases hok : okG cc A.length B.length with
    | false =>
     have HNO : Hid (o=none):=by have:=HOK.out; rw [hok] at this; exact this
     cases cc with
     | none =>
      have c1 : ((la : Int) + (lb : Int) != 16)=true:=by
       have:=of_decide_eq_false hok
       have h1:=HLA2.out; have h2:=HLB2.out; have h3:=HBE.out rfl
       rw [bne_iff_ne]; omega
      clear hok HBE
      go_wp2_with (first | (refine wpList_store_mid rfl 68 (.tmp 2) (.tmp 59) rfl w.heap.size 0 (zA.map B8).toArray rfl rfl HTt.out HSC.out HALL.out ?_; generalize hwf : World.setCells _ _ _ _=wf; refine Hid.out ?_) | fail)
      refine Lib.hid ?_
      obtain ⟨hnf,hkf,hzf⟩:=AddrAt.put HN3.out rfl (c:=zA) rfl hwf
      have HNF:=Lib.hid hnf
      have HKF:=Lib.hid hkf
      clear hnf hkf hzf hwf
      go_wp2
      exact bodyPost_ret (results_addr2 Tryz.results132 rfl rfl HNF.out rfl) rfl ⟨HB3.out.trans (HKF.out.below (Nat.le_refl _) (heap_lt HN3.out)),Or.inl ⟨HNO.out,rfl⟩⟩
     | some cp =>
      have c1 : (14 : Int) < (la : Int) + (lb : Int):=by
       have:=of_decide_eq_false hok
       have h1:=HLA2.out; have h2:=HLB2.out
       omega
      clear hok HBE
      go_wp2_with (first | (refine wpList_store_mid rfl 68 (.tmp 2) (.tmp 59) rfl w.heap.size 0 (zA.map B8).toArray rfl rfl HTt.out HSC.out HALL.out ?_; generalize hwf : World.setCells _ _ _ _=wf; refine Hid.out ?_) | fail)
      refine Lib.hid ?_
      obtain ⟨hnf,hkf,hzf⟩:=AddrAt.put HN3.out rfl (c:=zA) rfl hwf
      have HNF:=Lib.hid hnf
      have HKF:=Lib.hid hkf
      clear hnf hkf hzf hwf
      go_wp2
      exact bodyPost_ret (results_addr2 Tryz.results132 rfl rfl HNF.out rfl) rfl ⟨HB3.out.trans (HKF.out.below (Nat.le_refl _) (heap_lt HN3.out)),Or.inl ⟨HNO.out,rfl⟩⟩
    | true =>
     have HYES : Hid (o=some ⟨true,128,(allG A B).flatMap two⟩):=by have:=HOK.out; rw [hok] at this; exact this
     have HLE : Hid (A.length + B.length≤8):=ok_len (o:=cc) (fun h=>List.eq_nil_of_length_eq_zero (HBE.out h)) hok
     have HC : Hid ((cc.isSome=true∧¬ (14 : Int) < (la : Int) + (lb : Int))∨(cc.isSome=false∧((la : Int) + (lb : Int) != 16)=false)):=by
      have h1:=HLA2.out; have h2:=HLB2.out
      cases cc with
      | none =>
       have:=of_decide_eq_true hok
       have h3:=HBE.out rfl
       refine Or.inr ⟨rfl,?_⟩
       rw [bne_eq_false_iff_eq]; omega
      | some cp =>
       have:=of_decide_eq_true hok
       exact Or.inl ⟨rfl,by omega⟩
     have HN4:=Lib.hid (zA_new w3)
     have HB4:=Lib.hid (Below.alloc1 w3 (.cells (List.replicate 16 (Value.int .u8 0)).toArray 68))
     have HA4:=Lib.hid (HOA3.out.on HB4.out)
     have HBo4:=Lib.hid (HOB3.out.on HB4.out)
     have HZ1:=Lib.hid (show (Tryz.prog.info? 5).map (·.size)=some 1 by kernel_rfl)
     have HCA:=Lib.hid (copy_src8 HA4.out)
     have HG0 : Hid ((w3.alloc (.cells (List.replicate 16 (Value.int .u8 0)).toArray 68)).heap[w3.heap.size]?=some (.cells (zA.map B8).toArray 68 (0,0))):=HN4.out
     have hla16 : la≤16:=by have h1:=HLA2.out; have h2:=HLE.out; omega
     have hlb16 : lb≤16:=by have h1:=HLB2.out; have h2:=HLE.out; omega
     have hlbi : (lb : Int)≤16:=by omega
     have HN1c : Hid (((A.flatMap two).map B8).length=Nat.min la 16):=by show _=_; rw [List.length_map,← HLA.out]; exact (Nat.min_eq_left hla16).symm
     have HF1c : Hid (0 + ((A.flatMap two).map B8).length≤(zA.map B8).length):=by show _≤_; rw [List.length_map,← HLA.out]; simpa using hla16
     clear hok HBE HOK
     rcases HC.out with ⟨c1,c2⟩ | ⟨c1,c2⟩
     all_goals
      clear HC
      go_wp2_with (first | (refine wpList_copy_splice rfl (.tmp 60) (.tmp 61) 86 86 rfl 5 Tryz.underlying86 HZ1.out (some ⟨w3.heap.size,0,none⟩) ea 16 16 la ec rfl rfl w3.heap.size 0 (zA.map B8) 68 HG0.out ((A.flatMap two).map B8) HN1c.out (fun h=>⟨rfl,HCA.out h⟩) HF1c.out (bytes_one _) w3.heap.size w3 HB4.out (Nat.le_refl _) ?_; intro w5 h5 b5; refine Hid.out ?_) | fail)
      refine Lib.hid ?_
      have HH5:=Lib.hid h5.out
      have HBB5:=Lib.hid b5
      have HBW:=Lib.hid (copy_src8 (HOB3.out.on b5))
      obtain ⟨sp,hsl,hsp⟩:=slice_run w5 w3.heap.size lb hlb16
      have HN1d : Hid (((B.flatMap two).map B8).length=Nat.min lb lb):=by
       show _=_
       rw [List.length_map,← HLB.out]; exact (Nat.min_eq_left (Nat.le_refl _)).symm
      have HP1d : Hid (0 < ((B.flatMap two).map B8).length→sp=some ⟨w3.heap.size,16 - lb,none⟩∧∃ ad,qa=some ad∧∀ j v,((B.flatMap two).map B8)[j]?=some v→w5.cell? (ad.add j)=some v):=fun h=>⟨hsp (by rw [List.length_map,← HLB.out] at h; exact h),HBW.out h⟩
      clear hsp
      have HF1d : Hid (16 - lb + ((B.flatMap two).map B8).length≤(splice (zA.map B8) 0 ((A.flatMap two).map B8)).length):=by
       show _≤_
       rw [length_splice _ _ _ HF1c.out,List.length_map,← HLB.out]
       show _≤16
       omega
      clear h5 b5
      go_upto_region 11 with (fail)
      go_cut [12] (fun a wx=>a=.pointer (some ⟨w3.heap.size,0,none⟩)∧AddrAt wx w3.heap.size ((allG A B).flatMap two)∧Below w3.heap.size w3 wx)
      case first =>
       iterate 40 (first | (refine wpList_copy_splice rfl (.tmp 66) (.tmp 67) 86 86 rfl 5 Tryz.underlying86 HZ1.out sp qa lb lb lb qc rfl rfl w3.heap.size (16 - lb) (splice (zA.map B8) 0 ((A.flatMap two).map B8)) 68 HH5.out ((B.flatMap two).map B8) HN1d.out HP1d.out HF1d.out (bytes_one _) w3.heap.size w3 HBB5.out (Nat.le_refl _) ?_; intro w6 h6 b6; refine Hid.out ?_) | go_step | skip)
       refine Lib.hid ?_
       have h6':=h6.out
       have e6:=splice_all HLE.out
       rw [List.length_map,← HLB.out] at e6
       rw [e6] at h6'
       have HR6:=Lib.hid h6'
       have HB6:=Lib.hid b6
       clear h6 h6' b6 e6
       iterate 10 (try go_step)
       go_meet
       exact ⟨rfl,HR6.out,HB6.out⟩
      case rest =>
      obtain ⟨rfl,hat6,b6⟩:=hcut
      obtain ⟨c,hc⟩ : ∃ c,c=(allG A B).flatMap two:=⟨_,rfl⟩
      have HCL : Hid (c.length=16):=by show _=_; rw [hc,flat_two_len,allG_len HLE.out]
      rw [← hc] at hat6 HYES
      have HAT:=Lib.hid hat6
      have HN6:=Lib.hid (HN3.out.on b6)
      have HB6:=Lib.hid (HB3.out.trans (b6.mono HB3.out.size))
      have HT6:=Lib.hid (HN6.out.there (c:=c) rfl HCL.out)
      have HSZ:=Lib.hid (size23_of HCL.out)
      have HSC2:=Lib.hid (size23a HCL.out)
      have HAL2:=Lib.hid (cells_all c)
      clear hat6 b6 hc hsl
      go_wp2_with (first | (refine wpList_load_mid rfl 68 (.tmp 12) rfl w3.heap.size 0 rfl (c.map B8) _ HAT.out.range Tryz.underlying68 rfl HSZ.out ?_) | (refine wpList_store_mid rfl 68 (.tmp 2) (.tmp 69) rfl w.heap.size 0 (c.map B8).toArray rfl rfl HT6.out HSC2.out HAL2.out ?_; generalize hwf : World.setCells _ _ _ _=wf; refine Hid.out ?_) | fail)
      refine Lib.hid ?_
      obtain ⟨hnf,hkf,hzf⟩:=AddrAt.put HN6.out rfl HCL.out hwf
      have HNF:=Lib.hid hnf
      have HKF:=Lib.hid hkf
      clear hnf hkf hzf hwf
      go_wp2
      exact bodyPost_ret (results_addr2 Tryz.results132 rfl rfl HNF.out HCL.out) rfl ⟨HB6.out.trans (HKF.out.below (Nat.le_refl _) (heap_lt HN6.out)),Or.inr ⟨_,HYES.out,HCL.out,rfl⟩⟩
 ·have e39 : (39 : Int) < (s.size : Int):=by omega
  have HNO : Hid (o=none):=ho.trans (sixS_big (by omega))
  have HTt:=Lib.hid (H0.out.there (c:=zA) rfl rfl)
  clear ho
  go_enter Tryz.func132,Tryz.ntmps132
  go_wp2_with (first | (refine wpList_store_mid rfl 68 (.tmp 2) (.tmp 16) rfl w.heap.size 0 (zA.map B8).toArray rfl rfl HTt.out HSC.out HALL.out ?_; generalize hwf : World.setCells _ _ _ _=wf; refine Hid.out ?_) | fail)
  refine Lib.hid ?_
  obtain ⟨hnf,hkf,hzf⟩:=AddrAt.put H0.out rfl (c:=zA) rfl hwf
  have HNF:=Lib.hid hnf
  have HKF:=Lib.hid hkf
  clear hnf hkf hzf hwf
  go_wp2
  exact bodyPost_ret (results_addr2 Tryz.results132 rfl rfl HNF.out rfl) rfl ⟨HB0.out.trans (HKF.out.below (Nat.le_refl _) (heap_lt H0.out)),Or.inl ⟨HNO.out,rfl⟩⟩
end Go.Proofs.YtghnopkgcgfcpaaGreatDoor.Cidr
namespace Go.Proofs.YtghnopkgcgfcpaaGreatDoor.Cidr
open Go.RowKit Base
theorem list16 {c : List UInt8} (h : c.length=16) : ∃ a0 a1 a2 a3 a4 a5 a6 a7 a8 a9 a10 a11 a12 a13 a14 a15,c=[a0,a1,a2,a3,a4,a5,a6,a7,a8,a9,a10,a11,a12,a13,a14,a15]:=by
 rcases c with _ | ⟨a0,c⟩
 ·simp at h
 rcases c with _ | ⟨a1,c⟩
 ·simp at h
 rcases c with _ | ⟨a2,c⟩
 ·simp at h
 rcases c with _ | ⟨a3,c⟩
 ·simp at h
 rcases c with _ | ⟨a4,c⟩
 ·simp at h
 rcases c with _ | ⟨a5,c⟩
 ·simp at h
 rcases c with _ | ⟨a6,c⟩
 ·simp at h
 rcases c with _ | ⟨a7,c⟩
 ·simp at h
 rcases c with _ | ⟨a8,c⟩
 ·simp at h
 rcases c with _ | ⟨a9,c⟩
 ·simp at h
 rcases c with _ | ⟨a10,c⟩
 ·simp at h
 rcases c with _ | ⟨a11,c⟩
 ·simp at h
 rcases c with _ | ⟨a12,c⟩
 ·simp at h
 rcases c with _ | ⟨a13,c⟩
 ·simp at h
 rcases c with _ | ⟨a14,c⟩
 ·simp at h
 rcases c with _ | ⟨a15,c⟩
 ·simp at h
 have hc : c=[]:=by simpa using h
 subst hc
 exact ⟨a0,a1,a2,a3,a4,a5,a6,a7,a8,a9,a10,a11,a12,a13,a14,a15,rfl⟩
theorem run_net (six : Bool) (b : Int) {c : List UInt8} (hc : c.length=16) (w : World) : (Instr.build 70 #[(0,.bool six),(1,.int .i64 b),(2,.agg (c.map B8).toArray)]).run Tryz.prog w=.ok (netV ⟨six,b,c⟩) w:=by
 obtain ⟨a0,a1,a2,a3,a4,a5,a6,a7,a8,a9,a10,a11,a12,a13,a14,a15,rfl⟩:=list16 hc
 kernel_rfl
theorem exec_build {ρ : Operand→Value} {o : Oper} {t : TypeId} {i j k : Nat} {a b c : Operand} {v : Value} {w : World} (ho : o.op=.build t #[(i,a),(j,b),(k,c)]) (h : (Instr.build t #[(i,ρ a),(j,ρ b),(k,ρ c)]).run Tryz.prog w=.ok v w) : (execOp ρ o).run Tryz.prog w=.ok (.value v) w:=by
 unfold execOp
 simp only [ho,List.map_toArray,List.map_cons,List.map_nil,Sem.run_bind,h,Result.andThen_ok,Sem.run_pure]
theorem a_no {f : FuncId} {args : Array Value} {w : World} (h : Calls Tryz.prog f args w (AEnd none w)) : Calls Tryz.prog f args w (fun e w'=>e=.returned (.tuple #[.agg (zA.map B8).toArray,.bool false])∧Below w.heap.size w w') :=
 h.mono fun e w' h=>by
  rcases h with ⟨hb,⟨_,h2⟩ | ⟨n,h1,_⟩⟩
  ·exact ⟨h2,hb⟩
  ·cases h1
theorem a_yes {f : FuncId} {args : Array Value} {w : World} {n : NetM} (h : Calls Tryz.prog f args w (AEnd (some n) w)) : Calls Tryz.prog f args w (fun e w'=>n.a.length=16∧e=.returned (.tuple #[.agg (n.a.map B8).toArray,.bool true])∧Below w.heap.size w w') :=
 h.mono fun e w' h=>by
  rcases h with ⟨hb,⟨h1,_⟩ | ⟨m,h1,h2,h3⟩⟩
  ·cases h1
  ·cases h1; exact ⟨h2,h3,hb⟩
theorem mem_split {c x : UInt8} : ∀ {l : List UInt8},x ∈ l→x=c∨∃ p ∈ splitB c l,x ∈ p
 | [],h=>by simp at h
 | y :: r,h=>by
  rw [splitB_eq]
  by_cases hy : y=c
  ·rw [if_pos hy]
   rcases List.mem_cons.1 h with rfl | h
   ·exact Or.inl hy
   ·rcases mem_split (c:=c) h with h | ⟨p,hp,hx⟩
    ·exact Or.inl h
    ·exact Or.inr ⟨p,List.mem_cons_of_mem _ hp,hx⟩
  ·rw [if_neg hy]
   split
   ·rename_i hq; exact absurd hq (splitB_ne c r)
   ·rename_i hd tl hq
    rcases List.mem_cons.1 h with rfl | h
    ·exact Or.inr ⟨_,List.mem_cons_self,List.mem_cons_self⟩
    ·rcases mem_split (c:=c) h with h | ⟨p,hp,hx⟩
     ·exact Or.inl h
     ·rw [hq] at hp
      rcases List.mem_cons.1 hp with rfl | hp
      ·exact Or.inr ⟨_,List.mem_cons_self,List.mem_cons_of_mem _ hx⟩
      ·exact Or.inr ⟨p,List.mem_cons_of_mem _ hp,hx⟩
theorem four_colon {l : List UInt8} (h : (58 : UInt8) ∈ l) : fourN l=none:=by
 cases hf : fourN l with
 | none=>rfl
 | some n =>
  exfalso
  unfold fourN fourB at hf
  split at hf
  ·cases hm : mapO byteN (splitB 46 l) with
   | none=>rw [hm] at hf; cases hf
   | some ns =>
    obtain ⟨_,h2⟩:=mapO_all hm
    rcases mem_split (c:=46) h with h | ⟨p,hp,hx⟩
    ·exact absurd h (by decide)
    ·obtain ⟨y,hy⟩:=h2 p hp
     have hd:=(byteN_le hy).2
     unfold decN at hd
     split at hd
     ·rename_i hh
      have:=List.all_eq_true.1 hh.2.2.2 58 hx
      exact absurd this (by decide)
     ·cases hd
  ·cases hf
theorem six_none {s : ByteArray} (h : ∀ x ∈ s.data.toList,x ≠ 58) : sixS s=none:=by
 have hcc : firstCC s.data.toList=none:=by
  unfold firstCC
  rw [List.find?_eq_none]
  intro j hj
  rw [List.mem_range] at hj
  unfold ccB
  rw [List.getD_eq_getElem?_getD,List.getElem?_eq_getElem (show j < s.data.toList.length by omega)]
  have e : decide (s.data.toList[j]'(by omega)=58)=false:=decide_eq_false (h _ (List.getElem_mem (show j < s.data.toList.length by omega)))
  simp only [Option.getD_some,e,Bool.false_and]
  simp
 unfold sixS
 rw [hcc]
 show (match grpsN s.data.toList,grpsN [] with | some A,some B=>if okG none A.length B.length=true then some (⟨true,128,(allG A B).flatMap two⟩ : NetM) else none | _,_=>none)=none
 cases hA : grpsN s.data.toList with
 | none=>rfl
 | some A =>
  have hl : A.length≤1:=by
   unfold grpsN at hA
   split at hA
   ·cases hA; simp
   ·rw [splitB_none h] at hA
    have:=(mapO_all hA).1; simpa using Nat.le_of_eq this
  simp only [grpsN,if_true]
  rw [if_neg]
  intro hok
  have:=of_decide_eq_true hok
  omega
theorem four_kind {l : List UInt8} {n : NetM} (h : fourN l=some n) : (⟨false,sizeN false,n.a⟩ : NetM)=n:=by
 unfold fourN at h
 cases hb : fourB l with
 | none=>rw [hb] at h; cases h
 | some ns=>rw [hb] at h; cases h; rfl
theorem six_kind {s : ByteArray} {n : NetM} (h : sixS s=some n) : (⟨true,sizeN true,n.a⟩ : NetM)=n:=by
 unfold sixS at h
 split at h
 ·split at h
  ·cases h; rfl
  ·cases h
 ·cases h
end Go.Proofs.YtghnopkgcgfcpaaGreatDoor.Cidr
set_option maxHeartbeats 16000000
set_option maxRecDepth 100000
namespace Go.Proofs.YtghnopkgcgfcpaaGreatDoor.Cidr
open Go.RowKit Base
structure AS (w : World) (b : Nat) (n : NetM) (w' : World) : Prop where
 bel : Below w.heap.size w w'
 at_ : ∃ m : NetM,NetAt w' w.heap.size m∧m.a.length=16
 addr : AddrAt w' b n.a
 rng : w'.rangeAt b 0 (n.a.map B8)
set_option linter.unusedSimpArgs false in
theorem pAddr (s : ByteArray) (w : World) (he : Env w) : Calls Tryz.prog 98 #[.string s] w (AddrEnd (addrN s) w):=by
 have HB0:=Lib.hid (Below.alloc1 w (.cells (netC zeroN) 70))
 have HN0:=Lib.hid (NetAt.new w zeroN)
 have HE0:=Lib.hid (he.on HB0.out)
 clear he
 obtain ⟨o,ho⟩ : ∃ o,o=addrN s:=⟨_,rfl⟩
 rw [← ho]
 unfold addrN at ho
 rcases byte_cases s.data.toList 58 with hix | ⟨k,hix⟩
 ·have HO : Hid (o=fourN s.data.toList):=by
   show _=_
   rw [ho,six_none (byte_none hix)]
   cases fourN s.data.toList <;> rfl
  have HCT : Hid (∀ w,Calls Tryz.prog 126 #[.string s,.string ⟨#[58]⟩] w fun e w'=>e=.returned (.bool false)∧w'=w):=fun w=>by
   have:=Tryz.strings_Contains_one s 58 w
   rwa [hix] at this
  have HF:=Lib.hid (fun w he=>pFour s w he)
  have HKIND:=Lib.hid (fun n=>@four_kind s.data.toList n)
  clear ho hix
  cases hres : fourN s.data.toList with
  | none =>
   have HNO : Hid (o=none):=by rw [HO.out,hres]; rfl
   rw [hres] at HF
   clear hres
   go_enter Tryz.func98,Tryz.ntmps98
   go_wp2_with (first | (go_at_call 126; refine (HCT.out _).mono ?_; rintro e w1 ⟨rfl,rfl⟩; refine Hid.out ?_) | fail)
   refine Lib.hid ?_
   go_wp2_with (first | (go_at_call 131; refine (a_no (HF.out _ HE0.out)).mono ?_; rintro e w2 ⟨rfl,b2⟩; refine Hid.out ?_) | fail)
   refine Lib.hid ?_
   have HN2:=Lib.hid (HN0.out.on b2)
   have HB2:=Lib.hid (HB0.out.trans (b2.mono HB0.out.size))
   have HN3:=Lib.hid (HN2.out.on (Below.alloc1 w2 (.cells (List.replicate 16 (Value.int .u8 0)).toArray 68)))
   clear b2
   have HZ:=Lib.hid (zA_new w2)
   have HTz:=Lib.hid (HZ.out.there (c:=zA) rfl rfl)
   have HSCz:=Lib.hid (size23a (a:=zA) rfl)
   have HALLz:=Lib.hid (cells_all zA)
   go_wp2_with (first | (refine wpList_store_mid rfl 68 (.tmp 6) (.tmp 15) rfl w2.heap.size 0 (zA.map B8).toArray rfl rfl HTz.out HSCz.out HALLz.out ?_; generalize hw3 : World.setCells _ _ _ _=w3; refine Hid.out ?_) | fail)
   refine Lib.hid ?_
   obtain ⟨hnf,hkf,hzf⟩:=AddrAt.put HZ.out rfl (c:=zA) rfl hw3
   have HADR:=Lib.hid hnf
   have HB23 : Hid (Below w2.heap.size w2 w3):=(Below.alloc1 _ _).trans (hkf.below (Nat.le_refl _) (heap_lt HZ.out))
   clear hnf hkf hzf hw3
   have HN4:=Lib.hid (HN2.out.on HB23.out)
   have HB4:=Lib.hid (HB2.out.trans (HB23.out.mono HB2.out.size))
   have HTt:=Lib.hid (there_net (n:=zeroN) HN4.out rfl rfl)
   have HCt:=Lib.hid (size25c (n:=zeroN) rfl)
   go_wp2_with (first | (refine wpList_store_mid rfl 70 (.tmp 2) (.tmp 19) rfl w.heap.size 0 (netC zeroN) rfl rfl HTt.out HCt.out (netC_all _) ?_; generalize hwf : World.setCells _ _ _ _=wf; refine Hid.out ?_) | fail)
   refine Lib.hid ?_
   obtain ⟨hnf,hbf,_⟩:=net_again (n:=zeroN) HN4.out rfl rfl (Nat.le_refl _) hwf
   have HNF:=Lib.hid hnf
   have HBF:=Lib.hid hbf
   clear hnf hbf hwf
   go_wp2
   exact bodyPost_ret (results_net Tryz.results98 rfl rfl HNF.out rfl) rfl ⟨HB4.out.trans HBF.out,Or.inl ⟨HNO.out,rfl⟩⟩
  | some NN =>
   have HYES : Hid (o=some NN):=by rw [HO.out,hres]; rfl
   have HNN : Hid ((⟨false,(sizeN false),NN.a⟩ : NetM)=NN):=HKIND.out NN hres
   rw [hres] at HF
   clear hres
   go_enter Tryz.func98,Tryz.ntmps98
   go_wp2_with (first | (go_at_call 126; refine (HCT.out _).mono ?_; rintro e w1 ⟨rfl,rfl⟩; refine Hid.out ?_) | fail)
   refine Lib.hid ?_
   go_wp2_with (first | (go_at_call 131; refine (a_yes (HF.out _ HE0.out)).mono ?_; rintro e w2 ⟨hna,rfl,b2⟩; refine Hid.out ?_) | fail)
   have HNA : Hid (NN.a.length=16):=hna
   clear hna
   refine Lib.hid ?_
   have HN2:=Lib.hid (HN0.out.on b2)
   have HB2:=Lib.hid (HB0.out.trans (b2.mono HB0.out.size))
   have HN3:=Lib.hid (HN2.out.on (Below.alloc1 w2 (.cells (List.replicate 16 (Value.int .u8 0)).toArray 68)))
   clear b2
   have HZ:=Lib.hid (zA_new w2)
   have HTz:=Lib.hid (HZ.out.there (c:=NN.a) rfl HNA.out)
   have HSCz:=Lib.hid (size23a (a:=NN.a) HNA.out)
   have HALLz:=Lib.hid (cells_all NN.a)
   go_wp2_with (first | (refine wpList_store_mid rfl 68 (.tmp 6) (.tmp 15) rfl w2.heap.size 0 (NN.a.map B8).toArray rfl rfl HTz.out HSCz.out HALLz.out ?_; generalize hw3 : World.setCells _ _ _ _=w3; refine Hid.out ?_) | fail)
   refine Lib.hid ?_
   obtain ⟨hnf,hkf,hzf⟩:=AddrAt.put HZ.out rfl (c:=NN.a) HNA.out hw3
   have HADR:=Lib.hid hnf
   have HB23 : Hid (Below w2.heap.size w2 w3):=(Below.alloc1 _ _).trans (hkf.below (Nat.le_refl _) (heap_lt HZ.out))
   clear hnf hkf hzf hw3
   have HN4:=Lib.hid (HN2.out.on HB23.out)
   have HB4:=Lib.hid (HB2.out.trans (HB23.out.mono HB2.out.size))
   have HNE : Hid (w2.heap.size ≠ w.heap.size):=Nat.ne_of_gt (heap_lt HN2.out)
   have HAS : Hid (AS w w2.heap.size NN w3.drew):=⟨HB4.out.trans (Below.refl _ _).drew,⟨zeroN,HN4.out,rfl⟩,HADR.out,AddrAt.range (w:=w3.drew) HADR.out⟩
   have HSZ:=Lib.hid (size23_of HNA.out)
   have HBUILD : Hid (∀ w',(Instr.build 70 #[(0,.bool false),(1,.int .i64 (sizeN false)),(2,.agg (NN.a.map B8).toArray)]).run Tryz.prog w'=.ok (netV NN) w'):=fun w'=>by
    have:=run_net false (sizeN false) HNA.out w'
    have e : (⟨false,(sizeN false),NN.a⟩ : NetM)=NN:=HNN.out
    rwa [e] at this
   go_wp2
   refine wp_region_noPanic ?_
   refine wp_region_held_drew (S:=AS w w2.heap.size NN) (by kernel_rfl) HAS.out (fun hHeld=>?_)
   refine wpAnyH_take (i:=0) (v:=?vt0) rfl (by kernel_rfl) (by kernel_rfl) (by kernel_rfl) (fun _ _ _ h=>h) (Or.inl ⟨by rfl,?hyt0⟩) (by assumption) ?restt0
   case hyt0=>(intro w hSw; (try dsimp only at hSw); go_simp; try with_reducible rfl)
   (try simp only [Act.put,List.getElem_toArray,List.getElem_cons_succ,List.getElem_cons_zero,List.setIfInBounds_toArray,List.set_cons_zero,List.set_cons_succ])
   refine wpAnyH_take (i:=1) (v:=?vt1) rfl (by kernel_rfl) (by kernel_rfl) (by kernel_rfl) (fun _ _ _ h=>h) (Or.inl ⟨by rfl,?hyt1⟩) (by assumption) ?restt1
   case hyt1=>(intro w hSw; (try dsimp only at hSw); go_simp; try with_reducible rfl)
   (try simp only [Act.put,List.getElem_toArray,List.getElem_cons_succ,List.getElem_cons_zero,List.setIfInBounds_toArray,List.set_cons_zero,List.set_cons_succ])
   refine wpAnyH_take (i:=3) rfl (by kernel_rfl) (by kernel_rfl) (by kernel_rfl) (fun _ _ _ h=>h) (yieldsIf_load_mid (by rfl) 68 (.tmp 6) rfl w2.heap.size 0 (by kernel_rfl) (NN.a.map B8) _ (fun w' h=>h.rng) Tryz.underlying68 rfl HSZ.out) (by assumption) ?_
   (try simp only [Act.put,List.getElem_toArray,List.getElem_cons_succ,List.getElem_cons_zero,List.setIfInBounds_toArray,List.set_cons_zero,List.set_cons_succ])
   refine wpAnyH_ready (rs:=[2]) (by kernel_rfl) (by simp) ?_
   refine AllReadyH.cons rfl (fun K hK=>?_) AllReadyH.nil
   go_simp
   go_wp2_with (go_at_call 133; refine (pMost _ _).mono ?_; rintro e wn1 ⟨rfl,rfl⟩)
   refine hK.out _ _ (by assumption) (fun hHeld=>?_)
   clear hK K
   (try simp only [Act.put,List.getElem_toArray,List.getElem_cons_succ,List.getElem_cons_zero,List.setIfInBounds_toArray,List.set_cons_zero,List.set_cons_succ])
   refine wpAnyH_take (i:=4) (v:=netV NN) rfl (by kernel_rfl) (by kernel_rfl) (by kernel_rfl) (fun _ _ _ h=>h) (Or.inl ⟨by rfl,fun w' _=>exec_build rfl (HBUILD.out w')⟩) (by assumption) ?_
   (try simp only [Act.put,List.getElem_toArray,List.getElem_cons_succ,List.getElem_cons_zero,List.setIfInBounds_toArray,List.set_cons_zero,List.set_cons_succ])
   have hpre:=(by assumption : AS w w2.heap.size NN _)
   refine wpAnyH_ready (rs:=[5]) (by kernel_rfl) (by simp) ?_
   refine AllReadyH.cons rfl (fun K hK=>?_) AllReadyH.nil
   rw [if_pos (by rfl)]
   obtain ⟨m0,hat0,hm0⟩:=hpre.at_
   refine wp_store_mid 70 (.tmp 2) (.tmp 24) rfl w.heap.size 0 (netC NN) rfl rfl (there_net hat0 hm0 HNA.out) (size25c HNA.out) (netC_all _) ?_
   generalize hw4 : World.setCells _ _ _ _=w4
   obtain ⟨hn4,hb4,hk4⟩:=net_again hat0 hm0 HNA.out (Nat.le_refl _) hw4
   have HN4:=Lib.hid hn4
   have hpost : AS w w2.heap.size NN w4:=⟨hpre.bel.trans hb4,⟨NN,hn4,HNA.out⟩,hpre.addr.kept hk4 HNE.out,(hpre.addr.kept hk4 HNE.out).range⟩
   clear hw4 hn4 hb4 hk4 hat0 hm0
   refine hK.out _ _ hpost (fun hHeld=>?_)
   clear hK K
   (try simp only [Act.put,List.getElem_toArray,List.getElem_cons_succ,List.getElem_cons_zero,List.setIfInBounds_toArray,List.set_cons_zero,List.set_cons_succ])
   refine wpAnyH_take (i:=6) (v:=?vt6) rfl (by kernel_rfl) (by kernel_rfl) (by kernel_rfl) (fun _ _ _ h=>h) (Or.inl ⟨by rfl,?hyt6⟩) (by assumption) ?restt6
   case hyt6=>(intro w hSw; (try dsimp only at hSw); go_simp; try with_reducible rfl)
   (try simp only [Act.put,List.getElem_toArray,List.getElem_cons_succ,List.getElem_cons_zero,List.setIfInBounds_toArray,List.set_cons_zero,List.set_cons_succ])
   refine wpAnyH_done (by kernel_rfl) ?_ _
   refine NoPanic.normal ?_
   go_wp2
   exact bodyPost_ret (results_net Tryz.results98 rfl rfl HN4.out HNA.out) rfl ⟨hpost.bel,Or.inr ⟨NN,HYES.out,HNA.out,rfl⟩⟩
 ·have hmem : (58 : UInt8) ∈ s.data.toList:=List.mem_of_getElem? (Lib.indexByte_some hix).1
  have HO : Hid (o=sixS s):=by
   show _=_
   rw [ho,four_colon hmem]
  have HCT : Hid (∀ w,Calls Tryz.prog 126 #[.string s,.string ⟨#[58]⟩] w fun e w'=>e=.returned (.bool true)∧w'=w):=fun w=>by
   have:=Tryz.strings_Contains_one s 58 w
   rw [hix,decide_eq_true (Int.natCast_nonneg k)] at this
   exact this
  have HF:=Lib.hid (fun w he=>pSix s w he)
  have HKIND:=Lib.hid (fun n=>@six_kind s n)
  clear ho hix hmem
  cases hres : sixS s with
  | none =>
   have HNO : Hid (o=none):=by rw [HO.out,hres]; rfl
   rw [hres] at HF
   clear hres
   go_enter Tryz.func98,Tryz.ntmps98
   go_wp2_with (first | (go_at_call 126; refine (HCT.out _).mono ?_; rintro e w1 ⟨rfl,rfl⟩; refine Hid.out ?_) | fail)
   refine Lib.hid ?_
   go_wp2_with (first | (go_at_call 132; refine (a_no (HF.out _ HE0.out)).mono ?_; rintro e w2 ⟨rfl,b2⟩; refine Hid.out ?_) | fail)
   refine Lib.hid ?_
   have HN2:=Lib.hid (HN0.out.on b2)
   have HB2:=Lib.hid (HB0.out.trans (b2.mono HB0.out.size))
   have HN3:=Lib.hid (HN2.out.on (Below.alloc1 w2 (.cells (List.replicate 16 (Value.int .u8 0)).toArray 68)))
   clear b2
   have HZ:=Lib.hid (zA_new w2)
   have HTz:=Lib.hid (HZ.out.there (c:=zA) rfl rfl)
   have HSCz:=Lib.hid (size23a (a:=zA) rfl)
   have HALLz:=Lib.hid (cells_all zA)
   go_wp2_with (first | (refine wpList_store_mid rfl 68 (.tmp 6) (.tmp 15) rfl w2.heap.size 0 (zA.map B8).toArray rfl rfl HTz.out HSCz.out HALLz.out ?_; generalize hw3 : World.setCells _ _ _ _=w3; refine Hid.out ?_) | fail)
   refine Lib.hid ?_
   obtain ⟨hnf,hkf,hzf⟩:=AddrAt.put HZ.out rfl (c:=zA) rfl hw3
   have HADR:=Lib.hid hnf
   have HB23 : Hid (Below w2.heap.size w2 w3):=(Below.alloc1 _ _).trans (hkf.below (Nat.le_refl _) (heap_lt HZ.out))
   clear hnf hkf hzf hw3
   have HN4:=Lib.hid (HN2.out.on HB23.out)
   have HB4:=Lib.hid (HB2.out.trans (HB23.out.mono HB2.out.size))
   have HTt:=Lib.hid (there_net (n:=zeroN) HN4.out rfl rfl)
   have HCt:=Lib.hid (size25c (n:=zeroN) rfl)
   go_wp2_with (first | (refine wpList_store_mid rfl 70 (.tmp 2) (.tmp 19) rfl w.heap.size 0 (netC zeroN) rfl rfl HTt.out HCt.out (netC_all _) ?_; generalize hwf : World.setCells _ _ _ _=wf; refine Hid.out ?_) | fail)
   refine Lib.hid ?_
   obtain ⟨hnf,hbf,_⟩:=net_again (n:=zeroN) HN4.out rfl rfl (Nat.le_refl _) hwf
   have HNF:=Lib.hid hnf
   have HBF:=Lib.hid hbf
   clear hnf hbf hwf
   go_wp2
   exact bodyPost_ret (results_net Tryz.results98 rfl rfl HNF.out rfl) rfl ⟨HB4.out.trans HBF.out,Or.inl ⟨HNO.out,rfl⟩⟩
  | some NN =>
   have HYES : Hid (o=some NN):=by rw [HO.out,hres]; rfl
   have HNN : Hid ((⟨true,(sizeN true),NN.a⟩ : NetM)=NN):=HKIND.out NN hres
   rw [hres] at HF
   clear hres
   go_enter Tryz.func98,Tryz.ntmps98
   go_wp2_with (first | (go_at_call 126; refine (HCT.out _).mono ?_; rintro e w1 ⟨rfl,rfl⟩; refine Hid.out ?_) | fail)
   refine Lib.hid ?_
   go_wp2_with (first | (go_at_call 132; refine (a_yes (HF.out _ HE0.out)).mono ?_; rintro e w2 ⟨hna,rfl,b2⟩; refine Hid.out ?_) | fail)
   have HNA : Hid (NN.a.length=16):=hna
   clear hna
   refine Lib.hid ?_
   have HN2:=Lib.hid (HN0.out.on b2)
   have HB2:=Lib.hid (HB0.out.trans (b2.mono HB0.out.size))
   have HN3:=Lib.hid (HN2.out.on (Below.alloc1 w2 (.cells (List.replicate 16 (Value.int .u8 0)).toArray 68)))
   clear b2
   have HZ:=Lib.hid (zA_new w2)
   have HTz:=Lib.hid (HZ.out.there (c:=NN.a) rfl HNA.out)
   have HSCz:=Lib.hid (size23a (a:=NN.a) HNA.out)
   have HALLz:=Lib.hid (cells_all NN.a)
   go_wp2_with (first | (refine wpList_store_mid rfl 68 (.tmp 6) (.tmp 15) rfl w2.heap.size 0 (NN.a.map B8).toArray rfl rfl HTz.out HSCz.out HALLz.out ?_; generalize hw3 : World.setCells _ _ _ _=w3; refine Hid.out ?_) | fail)
   refine Lib.hid ?_
   obtain ⟨hnf,hkf,hzf⟩:=AddrAt.put HZ.out rfl (c:=NN.a) HNA.out hw3
   have HADR:=Lib.hid hnf
   have HB23 : Hid (Below w2.heap.size w2 w3):=(Below.alloc1 _ _).trans (hkf.below (Nat.le_refl _) (heap_lt HZ.out))
   clear hnf hkf hzf hw3
   have HN4:=Lib.hid (HN2.out.on HB23.out)
   have HB4:=Lib.hid (HB2.out.trans (HB23.out.mono HB2.out.size))
   have HNE : Hid (w2.heap.size ≠ w.heap.size):=Nat.ne_of_gt (heap_lt HN2.out)
   have HAS : Hid (AS w w2.heap.size NN w3.drew):=⟨HB4.out.trans (Below.refl _ _).drew,⟨zeroN,HN4.out,rfl⟩,HADR.out,AddrAt.range (w:=w3.drew) HADR.out⟩
   have HSZ:=Lib.hid (size23_of HNA.out)
   have HBUILD : Hid (∀ w',(Instr.build 70 #[(0,.bool true),(1,.int .i64 (sizeN true)),(2,.agg (NN.a.map B8).toArray)]).run Tryz.prog w'=.ok (netV NN) w'):=fun w'=>by
    have:=run_net true (sizeN true) HNA.out w'
    have e : (⟨true,(sizeN true),NN.a⟩ : NetM)=NN:=HNN.out
    rwa [e] at this
   go_wp2
   refine wp_region_noPanic ?_
   refine wp_region_held_drew (S:=AS w w2.heap.size NN) (by kernel_rfl) HAS.out (fun hHeld=>?_)
   refine wpAnyH_take (i:=0) (v:=?vu0) rfl (by kernel_rfl) (by kernel_rfl) (by kernel_rfl) (fun _ _ _ h=>h) (Or.inl ⟨by rfl,?hyu0⟩) (by assumption) ?restu0
   case hyu0=>(intro w hSw; (try dsimp only at hSw); go_simp; try with_reducible rfl)
   (try simp only [Act.put,List.getElem_toArray,List.getElem_cons_succ,List.getElem_cons_zero,List.setIfInBounds_toArray,List.set_cons_zero,List.set_cons_succ])
   refine wpAnyH_take (i:=1) (v:=?vu1) rfl (by kernel_rfl) (by kernel_rfl) (by kernel_rfl) (fun _ _ _ h=>h) (Or.inl ⟨by rfl,?hyu1⟩) (by assumption) ?restu1
   case hyu1=>(intro w hSw; (try dsimp only at hSw); go_simp; try with_reducible rfl)
   (try simp only [Act.put,List.getElem_toArray,List.getElem_cons_succ,List.getElem_cons_zero,List.setIfInBounds_toArray,List.set_cons_zero,List.set_cons_succ])
   refine wpAnyH_take (i:=3) rfl (by kernel_rfl) (by kernel_rfl) (by kernel_rfl) (fun _ _ _ h=>h) (yieldsIf_load_mid (by rfl) 68 (.tmp 6) rfl w2.heap.size 0 (by kernel_rfl) (NN.a.map B8) _ (fun w' h=>h.rng) Tryz.underlying68 rfl HSZ.out) (by assumption) ?_
   (try simp only [Act.put,List.getElem_toArray,List.getElem_cons_succ,List.getElem_cons_zero,List.setIfInBounds_toArray,List.set_cons_zero,List.set_cons_succ])
   refine wpAnyH_ready (rs:=[2]) (by kernel_rfl) (by simp) ?_
   refine AllReadyH.cons rfl (fun K hK=>?_) AllReadyH.nil
   go_simp
   go_wp2_with (go_at_call 133; refine (pMost _ _).mono ?_; rintro e wn1 ⟨rfl,rfl⟩)
   refine hK.out _ _ (by assumption) (fun hHeld=>?_)
   clear hK K
   (try simp only [Act.put,List.getElem_toArray,List.getElem_cons_succ,List.getElem_cons_zero,List.setIfInBounds_toArray,List.set_cons_zero,List.set_cons_succ])
   refine wpAnyH_take (i:=4) (v:=netV NN) rfl (by kernel_rfl) (by kernel_rfl) (by kernel_rfl) (fun _ _ _ h=>h) (Or.inl ⟨by rfl,fun w' _=>exec_build rfl (HBUILD.out w')⟩) (by assumption) ?_
   (try simp only [Act.put,List.getElem_toArray,List.getElem_cons_succ,List.getElem_cons_zero,List.setIfInBounds_toArray,List.set_cons_zero,List.set_cons_succ])
   have hpre:=(by assumption : AS w w2.heap.size NN _)
   refine wpAnyH_ready (rs:=[5]) (by kernel_rfl) (by simp) ?_
   refine AllReadyH.cons rfl (fun K hK=>?_) AllReadyH.nil
   rw [if_pos (by rfl)]
   obtain ⟨m0,hat0,hm0⟩:=hpre.at_
   refine wp_store_mid 70 (.tmp 2) (.tmp 24) rfl w.heap.size 0 (netC NN) rfl rfl (there_net hat0 hm0 HNA.out) (size25c HNA.out) (netC_all _) ?_
   generalize hw4 : World.setCells _ _ _ _=w4
   obtain ⟨hn4,hb4,hk4⟩:=net_again hat0 hm0 HNA.out (Nat.le_refl _) hw4
   have HN4:=Lib.hid hn4
   have hpost : AS w w2.heap.size NN w4:=⟨hpre.bel.trans hb4,⟨NN,hn4,HNA.out⟩,hpre.addr.kept hk4 HNE.out,(hpre.addr.kept hk4 HNE.out).range⟩
   clear hw4 hn4 hb4 hk4 hat0 hm0
   refine hK.out _ _ hpost (fun hHeld=>?_)
   clear hK K
   (try simp only [Act.put,List.getElem_toArray,List.getElem_cons_succ,List.getElem_cons_zero,List.setIfInBounds_toArray,List.set_cons_zero,List.set_cons_succ])
   refine wpAnyH_take (i:=6) (v:=?vu6) rfl (by kernel_rfl) (by kernel_rfl) (by kernel_rfl) (fun _ _ _ h=>h) (Or.inl ⟨by rfl,?hyu6⟩) (by assumption) ?restu6
   case hyu6=>(intro w hSw; (try dsimp only at hSw); go_simp; try with_reducible rfl)
   (try simp only [Act.put,List.getElem_toArray,List.getElem_cons_succ,List.getElem_cons_zero,List.setIfInBounds_toArray,List.set_cons_zero,List.set_cons_succ])
   refine wpAnyH_done (by kernel_rfl) ?_ _
   refine NoPanic.normal ?_
   go_wp2
   exact bodyPost_ret (results_net Tryz.results98 rfl rfl HN4.out HNA.out) rfl ⟨hpost.bel,Or.inr ⟨NN,HYES.out,HNA.out,rfl⟩⟩
end Go.Proofs.YtghnopkgcgfcpaaGreatDoor.Cidr
