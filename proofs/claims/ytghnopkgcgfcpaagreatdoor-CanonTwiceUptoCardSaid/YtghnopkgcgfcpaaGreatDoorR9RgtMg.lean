/-
  MERGED by mergefill.py: R9Rgt, R9RgtP, R9Rig.
-/
import Derived.Test.YtghnopkgcgfcpaaGreatDoorR9FrmMg
import Derived.Test.YtghnopkgcgfcpaaGreatDoorPthBoxWMg
set_option maxHeartbeats 16000000
set_option maxRecDepth 100000
namespace Go.Proofs.YtghnopkgcgfcpaaGreatDoor.Path
open Go.RowKit Base
def mayG (p : PV) : Bool :=
 if p.lit=true then (match Cidr.addrN p.dom with | some n=>decide (litShow n=p.dom) | none=>false)
 else if p.dom.size=0 then decide (p.loc=⟨postB.toArray⟩)
 else nmB p.dom && decide (Table.lower p.dom.data.toList=p.dom.data.toList)
def longG (p : PV) : Bool:=decide (64 < (locG p.loc).size) || ((!p.lit && decide (255 < p.dom.size)) || decide (254 < (formG p).size))
def rightG (p : PV) : Int :=
 if p.null=true then (if p.loc.size=0∧p.dom.size=0∧p.lit=false then 0 else 90)
 else if p.loc.data.toList.all shownC=false then 90
 else if p.loc.size=0∨mayG p=false then 90
 else if longG p=true then 91 else 0
theorem rRightN (l d : ByteArray) (t : Bool) (w : World) : Calls Tryz.prog 11 #[.agg #[.bool true,.string l,.string d,.bool t]] w (ErrEnd w (rightG ⟨true,l,d,t⟩)):=by
 have HB0:=Lib.hid (Below.alloc1 w (Obj.cells #[Value.bool true,Value.string l,Value.string d,Value.bool t] 26))
 have HD : Hid (rightG ⟨true,l,d,t⟩=if l.size=0∧d.size=0∧t=false then 0 else 90):=rfl
 generalize rightG ⟨true,l,d,t⟩=D at HD
 by_cases h0 : l.size=0
 ·obtain rfl:=str_empty h0
  by_cases h1 : d.size=0
  ·obtain rfl:=str_empty h1
   cases t with
   | false =>
    have HT : Hid (D=0):=HD.out
    go_enter Tryz.func11,Tryz.ntmps11
    go_wp2
    go_ret
    exact ⟨by rw [HT.out]; rfl,HB0.out⟩
   | true =>
    have HT : Hid (D=90):=HD.out
    go_enter Tryz.func11,Tryz.ntmps11
    go_wp2
    go_ret
    exact ⟨by rw [HT.out]; rfl,HB0.out⟩
  ·have HT : Hid (D=90):=by show _=_; rw [HD.out,if_neg (fun h=>h1 h.2.1)]
   obtain ⟨hn1,hn2⟩:=str_ne h1
   have hn3 : ¬ d.toList=[]:=fun h=>h1 (by
    have:=congrArg List.length h
    rw [ByteArray.toList_eq] at this
    rw [← str_len]; exact this)
   clear HD h1
   go_enter Tryz.func11,Tryz.ntmps11
   go_wp2
   go_ret
   exact ⟨by rw [HT.out]; rfl,HB0.out⟩
 ·have HT : Hid (D=90):=by show _=_; rw [HD.out,if_neg (fun h=>h0 h.1)]
  obtain ⟨hn1,hn2⟩:=str_ne h0
  have hn3 : ¬ l.toList=[]:=fun h=>h0 (by
   have:=congrArg List.length h
   rw [ByteArray.toList_eq] at this
   rw [← str_len]; exact this)
  clear HD h0
  go_enter Tryz.func11,Tryz.ntmps11
  go_wp2
  go_ret
  exact ⟨by rw [HT.out]; rfl,HB0.out⟩
end Go.Proofs.YtghnopkgcgfcpaaGreatDoor.Path
set_option maxHeartbeats 16000000
set_option maxRecDepth 100000
namespace Go.Proofs.YtghnopkgcgfcpaaGreatDoor.Path
open Go.RowKit Base
theorem beq_str (a b : ByteArray) : (a.toList == b.toList)=decide (a=b):=by
 rw [Bool.eq_iff_iff,beq_iff_eq,decide_eq_true_eq]
 refine ⟨fun h=>?_,fun h=>by rw [h]⟩
 rw [ByteArray.toList_eq,ByteArray.toList_eq] at h
 exact ByteArray.ext (Array.toList_inj.1 h)
theorem beq_post (l : ByteArray) : (l.toList == [112,111,115,116,109,97,115,116,101,114])=decide (l=⟨postB.toArray⟩):=by
 rw [← beq_str,ByteArray.toList_eq ⟨postB.toArray⟩]; rfl
theorem rRightP (l d : ByteArray) (t : Bool) (w : World) (hl : l.size≤1000000000) (hd : d.size≤1000000000) : Calls Tryz.prog 11 #[.agg #[.bool false,.string l,.string d,.bool t]] w (ErrEnd w (rightG ⟨false,l,d,t⟩)):=by
 obtain ⟨W,hW⟩ : ∃ W,W=w.alloc (Obj.cells #[Value.bool false,Value.string l,Value.string d,Value.bool t] 26):=⟨_,rfl⟩
 have HB0 : Hid (Below w.heap.size w W):=by rw [hW]; exact Below.alloc1 w _
 have HP0 : Hid (PathAt W w.heap.size ⟨false,l,d,t⟩):=by rw [hW]; exact (MapKept.heap_alloc w _).1
 have HD : Hid (rightG ⟨false,l,d,t⟩=if l.data.toList.all shownC=false then 90 else if l.size=0∨mayG ⟨false,l,d,t⟩=false then 90 else if longG ⟨false,l,d,t⟩=true then 91 else 0):=rfl
 have HLen:=Lib.hid (str_len l)
 have HF : Hid (∀ k (h : k < l.size),shownC l[k]=false→l.data.toList.all shownC=false):=fun k h hc=>all_not (k:=k) (by rw [HLen.out]; exact h) shownC (by rw [str_get l k h]; exact hc)
 have HS : Hid (∀ k (h : k < l.size),(l.data.toList.take (k + 1)).all shownC=((l.data.toList.take k).all shownC && shownC l[k])):=fun k h=>by
  rw [all_take (by rw [HLen.out]; exact h),str_get l k h]
 generalize rightG ⟨false,l,d,t⟩=D at HD
 go_enter Tryz.func11,Tryz.ntmps11
 go_upto_region 5 with fail
 rw [← hW]
 obtain ⟨c0,c1,c2,c3,_⟩:=four_cells HP0.out
 clear hW
 go_wp2
 go_loop [3] (fun i=>∃ k : Nat,k≤l.size∧i=.int .i64 (k : Int)∧Hid ((l.data.toList.take k).all shownC=true)) (fun i=>l.size - (intOf i).toNat)
 case atStart=>exact ⟨0,Nat.zero_le _,rfl,rfl⟩
 case round =>
  obtain ⟨k,hk,rfl,hall⟩:=hrel
  by_cases hlt : k < l.size
  ·have j0 : (0 : Int)≤(k : Int):=by omega
   have j1 : (k : Int) < (l.size : Int):=by omega
   have HSk:=Lib.hid (HS.out k hlt)
   have HFk:=Lib.hid (HF.out k hlt)
   have hcb:=l[k].toNat_lt
   cases hsh : shownC l[k] with
   | true =>
    have HT : Hid ((l.data.toList.take (k + 1)).all shownC=true):=by show _=_; rw [HSk.out,hall.out,hsh]; rfl
    have hr:=shownC_yes hsh
    have z1 : ¬ (l[k].toNat : Int) < 32:=by omega
    have z2 : ¬ (126 : Int) < (l[k].toNat : Int):=by omega
    clear hall hsh hr HSk HFk
    go_wp2
    go_round
    case rel=>exact ⟨k + 1,by omega,by go_num,HT⟩
    case measure=>simp [intOf]; omega
   | false =>
    have HT : Hid (D=90):=by show _=_; rw [HD.out,if_pos (HFk.out hsh)]
    have hr:=shownC_no hsh
    clear hall hsh HSk HFk
    rcases hr with hr | hr
    case' inl=>have z1 : (l[k].toNat : Int) < 32:=by omega
    case' inr =>
     have z1 : ¬ (l[k].toNat : Int) < 32:=by omega
     have z2 : (126 : Int) < (l[k].toNat : Int):=by omega
    all_goals
     go_wp2
     go_ret
     exact ⟨by rw [HT.out]; rfl,HB0.out⟩
  ·have j1 : ¬ (k : Int) < (l.size : Int):=by omega
   have HA : l.data.toList.all shownC=true:=by
    have:=hall.out
    rwa [List.take_of_length_le (by rw [HLen.out]; omega)] at this
   have HD2 : Hid (D=if l.size=0∨mayG ⟨false,l,d,t⟩=false then 90 else if longG ⟨false,l,d,t⟩=true then 91 else 0):=by
    show _=_; rw [HD.out,if_neg (by rw [HA]; decide)]
   have CL:=Lib.hid (fun w1=>Table.rLower d w1 (Nat.le_trans hd (by decide)))
   unfold Table.LowEnd at CL
   clear hall HA HD HF HS
   go_upto_block 2 with (first | (go_at_call 23; refine (CL.out _).mono ?_; rintro ee w2 ⟨rfl,hb⟩; refine Hid.out ?_) | fail)
   refine Lib.hid ?_
   have HB2:=Lib.hid (HB0.out.trans (hb.mono HB0.out.size))
   have HP2:=Lib.hid (HP0.out.on hb)
   clear hb CL c0 c1 c2 c3 HB0 HP0
   obtain ⟨c0,c1,c2,c3,_⟩:=four_cells HP2.out
   go_upto_block 2 with fail
   generalize hmay : mayG ⟨false,l,d,t⟩=may at HD2
   have HM:=Lib.hid hmay.symm
   clear hmay
   go_cut [4] (fun v4 wx=>v4=.bool (decide (0 < l.size) && may)∧Hid (Below w.heap.size w wx)∧Hid (PathAt wx w.heap.size ⟨false,l,d,t⟩))
   case first =>
    cases t with
    | true =>
     have HM1 : Hid (may=match Cidr.addrN d with | some n=>decide (litShow n=d) | none=>false):=HM.out
     have CA:=Lib.hid (fun w1=>Cidr.rAddr d w1 (Nat.le_trans hd (by decide)))
     generalize Cidr.addrN d=o at CA HM1
     clear HM
     cases o with
     | none =>
      have HMV : Hid (may=false):=HM1.out
      have CA2:=Lib.hid (fun w1=>Cidr.addr_no (CA.out w1))
      clear CA HM1
      go_wp2_with (first | (go_at_call 24; refine (CA2.out _).mono ?_; rintro ee w3 ⟨rfl,hb⟩; refine Hid.out ?_) | fail)
      refine Lib.hid ?_
      have HB3:=Lib.hid (HB2.out.trans (hb.mono HB2.out.size))
      have HP3:=Lib.hid (HP2.out.on hb)
      have HT3:=Lib.hid (Cidr.there_net (Cidr.NetAt.new w3 Cidr.zeroN) rfl (n:=Cidr.zeroN) rfl)
      have HC3:=Lib.hid (Cidr.size25c (n:=Cidr.zeroN) rfl)
      clear hb c0 c1 c2 c3
      go_wp2_with (first | (refine wpList_store_mid rfl 70 (.tmp 6) (.tmp 62) rfl w3.heap.size 0 (Cidr.netC Cidr.zeroN) rfl rfl HT3.out HC3.out (Cidr.netC_all _) ?_; generalize hw4 : World.setCells _ _ _ _=w4; refine Hid.out ?_) | fail)
      refine Lib.hid ?_
      obtain ⟨hn4,hb4⟩:=Cidr.net_new (n:=Cidr.zeroN) rfl hw4
      have HN4:=Lib.hid hn4
      have HB4:=Lib.hid (HB3.out.trans (hb4.mono HB3.out.size))
      have HP4:=Lib.hid (HP3.out.on hb4)
      have C6:=Lib.hid (ref_show Cidr.zeroN rfl w4)
      have HSt:=Lib.hid (Cidr.size25_of (n:=Cidr.zeroN) rfl)
      clear hw4 hn4 hb4 HT3 HC3
      go_wp2_with (first | (refine wpList_load_mid rfl 70 (.tmp 6) rfl w3.heap.size 0 rfl (Cidr.netL Cidr.zeroN) _ HN4.out.range0 Tryz.underlying70 rfl HSt.out ?_) | (go_at_call 25; refine C6.out.mono ?_; rintro ee w6 ⟨z,rfl,hb⟩; refine Hid.out ?_) | fail)
      refine Lib.hid ?_
      have HB6:=Lib.hid (HB4.out.trans (hb.mono HB4.out.size))
      have HP6:=Lib.hid (HP4.out.on hb)
      clear hb
      obtain ⟨c0,c1,c2,c3,_⟩:=four_cells HP6.out
      go_wp2
      all_goals
       go_meet
       case rel=>exact ⟨by rw [HMV.out]; first | (rw [← beq_str,decide_eq_true (p:=0 < l.size) (by omega)]; rfl) | (rw [decide_eq_false (p:=0 < l.size) (by omega)]; rfl) | simp,HB6,HP6⟩
     | some n =>
      have HMV : Hid (may=decide (litShow n=d)):=HM1.out
      have CA2:=Lib.hid (fun w1=>Cidr.addr_yes (CA.out w1))
      clear CA HM1
      go_wp2_with (first | (go_at_call 24; refine (CA2.out _).mono ?_; rintro ee w3 ⟨hna,rfl,hb⟩; refine Hid.out ?_) | fail)
      refine Lib.hid ?_
      have HNA:=Lib.hid hna
      clear hna
      have HB3:=Lib.hid (HB2.out.trans (hb.mono HB2.out.size))
      have HP3:=Lib.hid (HP2.out.on hb)
      have HT3:=Lib.hid (Cidr.there_net (Cidr.NetAt.new w3 Cidr.zeroN) rfl (n:=n) HNA.out)
      have HC3:=Lib.hid (Cidr.size25c (n:=n) HNA.out)
      clear hb c0 c1 c2 c3
      go_wp2_with (first | (refine wpList_store_mid rfl 70 (.tmp 6) (.tmp 62) rfl w3.heap.size 0 (Cidr.netC n) rfl rfl HT3.out HC3.out (Cidr.netC_all _) ?_; generalize hw4 : World.setCells _ _ _ _=w4; refine Hid.out ?_) | fail)
      refine Lib.hid ?_
      obtain ⟨hn4,hb4⟩:=Cidr.net_new (n:=n) HNA.out hw4
      have HN4:=Lib.hid hn4
      have HB4:=Lib.hid (HB3.out.trans (hb4.mono HB3.out.size))
      have HP4:=Lib.hid (HP3.out.on hb4)
      have C6:=Lib.hid (ref_show n HNA.out w4)
      have HSt:=Lib.hid (Cidr.size25_of (n:=n) HNA.out)
      clear hw4 hn4 hb4 HT3 HC3
      go_wp2_with (first | (refine wpList_load_mid rfl 70 (.tmp 6) rfl w3.heap.size 0 rfl (Cidr.netL n) _ HN4.out.range0 Tryz.underlying70 rfl HSt.out ?_) | (go_at_call 25; refine C6.out.mono ?_; rintro ee w6 ⟨z,rfl,hb⟩; refine Hid.out ?_) | fail)
      refine Lib.hid ?_
      have HB6:=Lib.hid (HB4.out.trans (hb.mono HB4.out.size))
      have HP6:=Lib.hid (HP4.out.on hb)
      clear hb
      obtain ⟨c0,c1,c2,c3,_⟩:=four_cells HP6.out
      go_wp2
      all_goals
       go_meet
       case rel=>exact ⟨by rw [HMV.out]; first | (rw [← beq_str,decide_eq_true (p:=0 < l.size) (by omega)]; rfl) | (rw [decide_eq_false (p:=0 < l.size) (by omega)]; rfl) | simp,HB6,HP6⟩
    | false =>
     by_cases h0 : d.size=0
     ·have HMV : Hid (may=decide (l=⟨postB.toArray⟩)):=by show _=_; rw [HM.out]; unfold mayG; rw [if_neg (by simp),if_pos h0]
      obtain rfl:=str_empty h0
      clear HM h0
      go_wp2
      go_meet
      case rel=>exact ⟨by rw [HMV.out]; first | (rw [← beq_post]; by_cases hz : 0 < l.size; (rw [decide_eq_true hz]; rfl); (exfalso; omega)) | (rw [decide_eq_true (p:=0 < l.size) (by omega)]; rfl) | (rw [decide_eq_false (p:=0 < l.size) (by omega)]; rfl) | (rw [beq_post]; by_cases hz : l=⟨postB.toArray⟩; (subst hz; rfl); (rw [decide_eq_false hz,Bool.and_false])) | (have hte:=ByteArray.toList_eq d; simp_all; done) | (have hte:=ByteArray.toList_eq d; simp_all; rw [Bool.eq_iff_iff,beq_iff_eq,decide_eq_true_eq]; done) | (have hte:=ByteArray.toList_eq d; simp_all; omega),HB2,HP2⟩
     ·have HMV : Hid (may=(nmB d && decide (Table.lower d.data.toList=d.data.toList))):=by show _=_; rw [HM.out]; unfold mayG; rw [if_neg (by simp),if_neg h0]
      obtain ⟨hn1,hn2⟩:=str_ne h0
      have CN:=Lib.hid (fun w1=>rName d w1 (Nat.le_trans hd (by decide)))
      clear HM h0
      go_wp2_with (first | (go_at_call 26; refine (CN.out _).mono ?_; rintro ee w1 ⟨rfl,rfl⟩; refine Hid.out ?_) | fail)
      refine Lib.hid ?_
      go_wp2
      all_goals
       go_meet
       case rel=>exact ⟨by rw [HMV.out]; first | (rw [← beq_post]; by_cases hz : 0 < l.size; (rw [decide_eq_true hz]; rfl); (exfalso; omega)) | (rw [decide_eq_true (p:=0 < l.size) (by omega)]; rfl) | (rw [decide_eq_false (p:=0 < l.size) (by omega)]; rfl) | (rw [beq_post]; by_cases hz : l=⟨postB.toArray⟩; (subst hz; rfl); (rw [decide_eq_false hz,Bool.and_false])) | (have hte:=ByteArray.toList_eq d; simp_all; done) | (have hte:=ByteArray.toList_eq d; simp_all; rw [Bool.eq_iff_iff,beq_iff_eq,decide_eq_true_eq]; done) | (have hte:=ByteArray.toList_eq d; simp_all; omega),HB2,HP2⟩
   case rest =>
    obtain ⟨rfl,hb3,hp3⟩:=hcut
    have HB3 : Hid (Below w.heap.size w wc):=hb3
    have HP3 : Hid (PathAt wc w.heap.size ⟨false,l,d,t⟩):=hp3
    clear hb3 hp3 c0 c1 c2 c3 HB2 HP2 HM
    obtain ⟨c0,c1,c2,c3,_⟩:=four_cells HP3.out
    by_cases hm : l.size=0∨may=false
    ·have HT : Hid (D=90):=by show _=_; rw [HD2.out,if_pos hm]
     have e : (decide (0 < l.size) && may)=false:=by
      rcases hm with h | h
      ·rw [decide_eq_false (by omega)]; rfl
      ·rw [h,Bool.and_false]
     clear HD2
     rw [e]
     go_wp2
     go_ret
     exact ⟨by rw [HT.out]; rfl,HB3.out⟩
    ·have HT : Hid (D=if longG ⟨false,l,d,t⟩=true then 91 else 0):=by show _=_; rw [HD2.out,if_neg hm]
     have e : (decide (0 < l.size) && may)=true:=by
      have h1 : may=true:=by cases may with
       | true=>rfl
       | false=>exact absurd (Or.inr rfl) hm
      rw [h1,decide_eq_true (by omega)]; rfl
     rw [e]
     have CF:=Lib.hid (fun w1=>rLocalForm l w1 (Nat.le_trans hl (by decide)))
     have CG : Hid (∀ w1,Calls Tryz.prog 28 #[.agg #[.bool false,.string l,.string d,.bool t]] w1 fun e w'=>e=.returned (.string (formG ⟨false,l,d,t⟩))∧Below w1.heap.size w1 w'):=fun w1=>rForm ⟨false,l,d,t⟩ w1 hl hd
     have HL2 : Hid (longG ⟨false,l,d,t⟩=(decide (64 < (locG l).size) || ((!t && decide (255 < d.size)) || decide (254 < (formG ⟨false,l,d,t⟩).size)))):=rfl
     generalize longG ⟨false,l,d,t⟩=lg at HT HL2
     generalize formG ⟨false,l,d,t⟩=fg at CG HL2
     generalize locG l=lo at CF HL2
     clear HD2 hm e
     by_cases h64 : 64 < lo.size
     ·have HT2 : Hid (D=91):=by show _=_; rw [HT.out,HL2.out,decide_eq_true h64]; rfl
      have z1 : (64 : Int) < (lo.size : Int):=by omega
      clear HT HL2 h64
      go_wp2_with (first | (go_at_call 27; refine (CF.out _).mono ?_; rintro ee w4 ⟨rfl,hb⟩; refine Hid.out ?_) | fail)
      refine Lib.hid ?_
      have HB4:=Lib.hid (HB3.out.trans (hb.mono HB3.out.size))
      have HP4:=Lib.hid (HP3.out.on hb)
      clear hb c0 c1 c2 c3
      obtain ⟨c0,c1,c2,c3,_⟩:=four_cells HP4.out
      go_wp2
      go_ret
      exact ⟨by rw [HT2.out]; rfl,HB4.out⟩
     ·have z1 : ¬ (64 : Int) < (lo.size : Int):=by omega
      by_cases h255 : t=false∧255 < d.size
      ·have HT2 : Hid (D=91):=by show _=_; rw [HT.out,HL2.out,h255.1,decide_eq_true h255.2,decide_eq_false h64]; rfl
       obtain ⟨rfl,hdl⟩:=h255
       have z2 : (255 : Int) < (d.size : Int):=by omega
       clear HT HL2 h64
       go_wp2_with (first | (go_at_call 27; refine (CF.out _).mono ?_; rintro ee w4 ⟨rfl,hb⟩; refine Hid.out ?_) | fail)
       refine Lib.hid ?_
       have HB4:=Lib.hid (HB3.out.trans (hb.mono HB3.out.size))
       have HP4:=Lib.hid (HP3.out.on hb)
       clear hb c0 c1 c2 c3
       obtain ⟨c0,c1,c2,c3,_⟩:=four_cells HP4.out
       go_wp2
       go_ret
       exact ⟨by rw [HT2.out]; rfl,HB4.out⟩
      ·have HT2 : Hid (D=if 254 < fg.size then 91 else 0):=by
        have e1 : (!t && decide (255 < d.size))=false:=by
         cases t with
         | true=>rfl
         | false=>rw [decide_eq_false (fun h=>h255 ⟨rfl,h⟩)]; rfl
        show _=_; rw [HT.out,HL2.out,e1,decide_eq_false h64,Bool.false_or,Bool.false_or]
        by_cases h : 254 < fg.size
        ·rw [if_pos h,decide_eq_true h,if_pos rfl]
        ·rw [if_neg h,decide_eq_false h,if_neg (by decide)]
       clear HT HL2 h64
       have hcs : t=true∨(t=false∧¬ (255 : Int) < (d.size : Int)):=by
        cases t with
        | true=>exact Or.inl rfl
        | false=>exact Or.inr ⟨rfl,fun h=>h255 ⟨rfl,by omega⟩⟩
       clear h255
       have hfs : (254 < fg.size∧(254 : Int) < (fg.size : Int))∨(¬ 254 < fg.size∧¬ (254 : Int) < (fg.size : Int)):=by omega
       rcases hcs with rfl | ⟨rfl,z2⟩
       all_goals
        rcases hfs with ⟨h2,z3⟩ | ⟨h2,z3⟩
        case' inl=>have HT3 : Hid (D=91):=by show _=_; rw [HT2.out,if_pos h2]
        case' inr=>have HT3 : Hid (D=0):=by show _=_; rw [HT2.out,if_neg h2]
        all_goals
         clear HT2 h2
         go_wp2_with (first | (go_at_call 27; refine (CF.out _).mono ?_; rintro ee w4 ⟨rfl,hb⟩; refine Hid.out ?_) | fail)
         refine Lib.hid ?_
         have HB4:=Lib.hid (HB3.out.trans (hb.mono HB3.out.size))
         have HP4:=Lib.hid (HP3.out.on hb)
         clear hb c0 c1 c2 c3
         obtain ⟨c0,c1,c2,c3,_⟩:=four_cells HP4.out
         go_wp2_with (first | (go_at_call 28; refine (CG.out _).mono ?_; rintro ee w5 ⟨rfl,hb⟩; refine Hid.out ?_) | fail)
         refine Lib.hid ?_
         have HB5:=Lib.hid (HB4.out.trans (hb.mono HB4.out.size))
         clear hb
         go_wp2
         go_ret
         exact ⟨by rw [HT3.out]; rfl,HB5.out⟩
end Go.Proofs.YtghnopkgcgfcpaaGreatDoor.Path
namespace Go.Proofs.YtghnopkgcgfcpaaGreatDoor.Path
open Go.RowKit Base
theorem rRightG (p : PV) (w : World) (hl : p.loc.size≤1000000000) (hd : p.dom.size≤1000000000) : Calls Tryz.prog 11 #[p.val] w (ErrEnd w (rightG p)):=by
 obtain ⟨n,l,d,t⟩:=p
 cases n with
 | true=>exact rRightN l d t w
 | false=>exact rRightP l d t w hl hd
end Go.Proofs.YtghnopkgcgfcpaaGreatDoor.Path
