/-
  MERGED by mergefill.py: CidrFour, CidrSixP, CidrSix.
-/
import Derived.Test.YtghnopkgcgfcpaaGreatDoorCidrG2Mg
import Derived.Test.YtghnopkgcgfcpaaGreatDoorCidrG1Mg
import Derived.Laws.CopyOwn
import Derived.Deep.CutBlock
import Derived.Deep.DeepCutAuto
set_option maxHeartbeats 16000000
set_option maxRecDepth 100000
namespace Go.Proofs.YtghnopkgcgfcpaaGreatDoor.Cidr
open Go.RowKit Base
def byteN (p : List UInt8) : Option Nat:=match decN p with | some x=>if x≤255 then some x else none | none=>none
def fourB (l : List UInt8) : Option (List Nat):=if (splitB 46 l).length=4 then mapO byteN (splitB 46 l) else none
def addr4 (ns : List Nat) : List UInt8:=ns.map UInt8.ofNat++List.replicate (16 - ns.length) 0
def fourN (l : List UInt8) : Option NetM:=(fourB l).map fun ns=>⟨false,32,addr4 ns⟩
theorem byteN_le {p : List UInt8} {n : Nat} (h : byteN p=some n) : n≤255∧decN p=some n:=by
 unfold byteN at h
 cases hd : decN p with
 | none=>rw [hd] at h; cases h
 | some x =>
  rw [hd] at h
  simp only at h
  split at h
  ·cases h; exact ⟨by assumption,rfl⟩
  ·cases h
theorem byteN_none {p : List UInt8} (h : byteN p=none) : decN p=none∨∃ x,decN p=some x∧255 < x:=by
 unfold byteN at h
 cases hd : decN p with
 | none=>exact Or.inl rfl
 | some x =>
  rw [hd] at h
  simp only at h
  split at h
  ·cases h
  ·exact Or.inr ⟨x,rfl,by omega⟩
theorem addr4_len {ns : List Nat} (h : ns.length≤16) : (addr4 ns).length=16:=by unfold addr4; simp; omega
theorem addr4_set {ns : List Nat} (h : ns.length < 16) (x : Nat) : (addr4 ns).set ns.length (UInt8.ofNat x)=addr4 (ns++[x]):=by
 unfold addr4
 rw [List.set_append_right _ _ (by simp),List.length_map,Nat.sub_self,List.length_append,List.length_singleton,show 16 - ns.length=(16 - (ns.length + 1)) + 1 by omega,List.replicate_succ]
 simp
def NetEnd (o : Option NetM) (w : World) (e : Ending) (w' : World) : Prop :=
 Below w.heap.size w w'∧((o=none∧∃ n : NetM,n.a.length=16∧e=.returned (.tuple #[netV n,.bool false]))∨∃ n : NetM,o=some n∧n.a.length=16∧e=.returned (.tuple #[netV n,.bool true]))
theorem rFour (s : ByteArray) (w : World) (hs : s.size≤4294967280) : Calls Tryz.prog 55 #[.string s] w (NetEnd (fourN s.data.toList) w):=by
 obtain ⟨o,ho⟩ : ∃ o,o=fourN s.data.toList:=⟨_,rfl⟩
 rw [← ho]
 unfold fourN fourB at ho
 have HSP:=Lib.hid (fun w=>rSplit s 46 w hs)
 obtain ⟨ps,hps⟩ : ∃ ps,ps=splitB 46 s.data.toList:=⟨_,rfl⟩
 rw [← hps] at ho HSP
 have HO:=Lib.hid ho
 have HB0:=Lib.hid (Below.alloc1 w (.cells (netC zeroN) 70))
 have HN0:=Lib.hid (NetAt.new w zeroN)
 clear ho hps
 go_enter Tryz.func55,Tryz.ntmps55
 go_wp2_with (go_at_call 87; refine (HSP.out _).mono ?_; rintro e w1 ⟨v1,rfl,o1,b1⟩; refine Hid.out ?_)
 refine Lib.hid ?_
 obtain ⟨pa,pc,rfl,_⟩:=o1.form
 have HP:=Lib.hid o1
 have HB1 : Hid (Below w.heap.size w w1):=HB0.out.trans (b1.mono HB0.out.size)
 have HN1 : Hid (NetAt w1 w.heap.size zeroN):=HN0.out.on b1
 have HL1 : Hid (w.heap.size < w1.heap.size):=heap_lt HN1.out
 clear o1 b1
 have HT:=Lib.hid (there_of (NetAt.new w1 zeroN) (n:=(netC (⟨false,32,List.replicate 16 0⟩ : NetM)).size) (by decide))
 have HZ:=Lib.hid (size25c (n:=⟨false,32,List.replicate 16 0⟩) rfl)
 have HPUT:=Lib.hid (fun w2=>@net_put _ w2 _ _ (NetAt.new w1 zeroN) rfl ⟨false,32,List.replicate 16 0⟩ rfl)
 go_wp2_with (first | (refine wpList_store_mid rfl 70 (.tmp 5) (.tmp 11) rfl w1.heap.size 0 (netC (⟨false,32,List.replicate 16 0⟩ : NetM)) rfl rfl HT.out HZ.out (netC_all _) ?_; generalize hw2 : World.setCells _ _ _ _=w2; refine Hid.out ?_) | fail)
 refine Lib.hid ?_
 obtain ⟨hn2,hk2,hz2⟩:=HPUT.out w2 hw2
 have HN2:=Lib.hid hn2
 have HZ2 : Hid (w2.heap.size=w1.heap.size + 1):=by show _=_; rw [hz2]; simp
 have HB2 : Hid (Below w1.heap.size w1 w2):=(Below.alloc1 _ _).trans (hk2.below (Nat.le_refl _) (by simp))
 clear hw2 hn2 hk2 hz2 HPUT HT HZ
 by_cases h4 : ps.length=4
 ·have e1 : ((ps.length : Int) != 4)=false:=by rw [h4]; rfl
  have HO4 : Hid (o=(mapO byteN ps).map fun ns=>⟨false,32,addr4 ns⟩):=by have:=HO.out; rw [if_pos h4] at this; exact this
  have HP4:=Lib.hid h4
  clear HO h4
  obtain ⟨R,hR⟩ : ∃ R : Value→World→Prop,R=fun i wr=>∃ ns : List Nat,ns.length≤4∧i=.int .i64 (ns.length : Int)∧NetAt wr w1.heap.size ⟨false,32,addr4 ns⟩∧Below w1.heap.size w1 wr∧Hid (mapO byteN (ps.take ns.length)=some ns):=⟨_,rfl⟩
  have HR:=Lib.hid hR
  clear hR
  go_wp2
  go_loopw [6] (fun i wr=>R i wr) (fun i _=>4 - (intOf i).toNat)
  case atStart=>rw [HR.out]; exact ⟨[],by simp,rfl,HN2.out,HB2.out,rfl⟩
  case round =>
   rw [HR.out] at hrel
   obtain ⟨ns,hk,rfl,hat,hbw,hm⟩:=hrel
   have h4:=HP4.out
   have HAT:=Lib.hid hat
   have HBW:=Lib.hid hbw
   have HAL:=Lib.hid (addr4_len (ns:=ns) (by omega))
   have HN0r : Hid (NetAt wr w.heap.size zeroN):=HN1.out.on hbw
   have HBF : Hid (Below w.heap.size w wr):=HB1.out.trans (hbw.mono HB1.out.size)
   have HS:=Lib.hid (size25_of (n:=⟨false,32,addr4 ns⟩) HAL.out)
   have HT:=Lib.hid (there_of HN0r.out (n:=(netC (⟨false,32,addr4 ns⟩ : NetM)).size) (by rw [netC_size HAL.out]; decide))
   have HSC:=Lib.hid (size25c (n:=⟨false,32,addr4 ns⟩) HAL.out)
   have HPUT:=Lib.hid (fun w2=>@net_put _ w2 _ _ HN0r.out rfl ⟨false,32,addr4 ns⟩ HAL.out)
   by_cases hlt : ns.length < 4
   ·have hltp : ns.length < ps.length:=by omega
    have hx : ps[ns.length]?=some (ps[ns.length]):=List.getElem?_eq_getElem hltp
    have HX:=Lib.hid hx
    obtain ⟨pb,rfl,hcell⟩:=(HP.out.on hbw).cell hx
    generalize ps[ns.length]=x at hcell HX
    have HG:=Lib.hid (rDecimal ⟨x.toArray⟩ wr)
    have i1 : (ns.length : Int) < 4:=by omega
    have i0' : (0 : Int)≤(ns.length : Int):=by omega
    have i2 : (ns.length : Int) < (ps.length : Int):=by omega
    rw [show (⟨x.toArray⟩ : ByteArray).data.toList=x from rfl] at HG
    clear hx hat hbw h4
    cases hgx : byteN x with
    | none =>
     have HNO : Hid (o=none):=by have:=HO4.out; rw [mapO_none byteN hgx (List.mem_of_getElem? HX.out)] at this; exact this
     rcases byteN_none hgx with hd | ⟨z,hd,hz⟩
     ·rw [hd] at HG
      clear hgx hd hm
      go_wp2_with (go_at_call 88; refine HG.out.mono ?_; rintro e w2 ⟨rfl,rfl⟩; refine Hid.out ?_)
      refine Lib.hid ?_
      go_wp2_with (first | (refine wpList_load_mid rfl 70 (.tmp 5) rfl w1.heap.size 0 rfl (netL (⟨false,32,addr4 ns⟩ : NetM)) _ HAT.out.range0 Tryz.underlying70 rfl HS.out ?_) | (refine wpList_store_mid rfl 70 (.tmp 2) (.tmp 34) rfl w.heap.size 0 (netC (⟨false,32,addr4 ns⟩ : NetM)) rfl rfl HT.out HSC.out (netC_all _) ?_; generalize hwf : World.setCells _ _ _ _=wf; refine Hid.out ?_) | fail)
      refine Lib.hid ?_
      obtain ⟨hnf,hkf,hzf⟩:=HPUT.out wf hwf
      have HNF:=Lib.hid hnf
      have HKF:=Lib.hid hkf
      clear hnf hkf hzf hwf
      go_wp2
      exact bodyPost_ret (results_net Tryz.results55 rfl rfl HNF.out HAL.out) rfl ⟨HBF.out.trans (HKF.out.below (Nat.le_refl _) (Nat.lt_of_lt_of_le HL1.out (by have:=HBW.out.size; omega))),Or.inl ⟨HNO.out,_,HAL.out,rfl⟩⟩
     ·rw [hd] at HG
      have hz5 : (255 : Int) < (z : Int):=by omega
      clear hgx hd hm
      go_wp2_with (go_at_call 88; refine HG.out.mono ?_; rintro e w2 ⟨rfl,rfl⟩; refine Hid.out ?_)
      refine Lib.hid ?_
      go_wp2_with (first | (refine wpList_load_mid rfl 70 (.tmp 5) rfl w1.heap.size 0 rfl (netL (⟨false,32,addr4 ns⟩ : NetM)) _ HAT.out.range0 Tryz.underlying70 rfl HS.out ?_) | (refine wpList_store_mid rfl 70 (.tmp 2) (.tmp 34) rfl w.heap.size 0 (netC (⟨false,32,addr4 ns⟩ : NetM)) rfl rfl HT.out HSC.out (netC_all _) ?_; generalize hwf : World.setCells _ _ _ _=wf; refine Hid.out ?_) | fail)
      refine Lib.hid ?_
      obtain ⟨hnf,hkf,hzf⟩:=HPUT.out wf hwf
      have HNF:=Lib.hid hnf
      have HKF:=Lib.hid hkf
      clear hnf hkf hzf hwf
      go_wp2
      exact bodyPost_ret (results_net Tryz.results55 rfl rfl HNF.out HAL.out) rfl ⟨HBF.out.trans (HKF.out.below (Nat.le_refl _) (Nat.lt_of_lt_of_le HL1.out (by have:=HBW.out.size; omega))),Or.inl ⟨HNO.out,_,HAL.out,rfl⟩⟩
    | some z =>
     obtain ⟨hz5,hd⟩:=byteN_le hgx
     rw [hd] at HG
     have HM2 : Hid (mapO byteN (ps.take (ns++[z]).length)=some (ns++[z])):=by
      show _=_
      rw [List.length_append,List.length_singleton,List.take_succ_eq_append_getElem hltp,show ps[ns.length]=x by have:=HX.out; rw [List.getElem?_eq_getElem hltp] at this; exact Option.some.inj this]
      exact mapO_snoc byteN x _ hm.out hgx
     have hz6 : ¬ (255 : Int) < (z : Int):=by omega
     obtain ⟨c1,c2⟩:=HAT.out.cellA (k:=ns.length) (by rw [HAL.out]; omega)
     have HSET : Hid (NetAt (wr.setCell ⟨w1.heap.size,2 + ns.length,none⟩ (.int .u8 (z : Int))) w1.heap.size ⟨false,32,addr4 (ns++[z])⟩):=by
      have:=HAT.out.setA ns.length (UInt8.ofNat z)
      rw [show B8 (UInt8.ofNat z)=Value.int .u8 (z : Int) by simp [B8]; omega] at this
      show NetAt _ _ _
      rw [← addr4_set (by omega)]
      exact this
     have HBS : Hid (Below w1.heap.size w1 (wr.setCell ⟨w1.heap.size,2 + ns.length,none⟩ (.int .u8 (z : Int)))):=HBW.out.trans ((KeepX.set w1.heap.size wr (2 + ns.length) _).below (Nat.le_refl _) (heap_lt HAT.out))
     clear hgx hd hm
     go_wp2_with (go_at_call 88; refine HG.out.mono ?_; rintro e w2 ⟨rfl,rfl⟩; refine Hid.out ?_)
     refine Lib.hid ?_
     go_wp2
     go_roundw
     case rel=>rw [HR.out]; exact ⟨ns++[z],by (simp; try omega),by simp,HSET.out,HBS.out,HM2.out⟩
     case measure=>simp [intOf]; omega
   ·have HYES : Hid (o=some ⟨false,32,addr4 ns⟩):=by
     have h1:=hm.out
     rw [List.take_of_length_le (by omega)] at h1
     have:=HO4.out
     rw [h1] at this
     exact this
    have i1 : ¬ (ns.length : Int) < 4:=by omega
    clear hm hat hbw h4
    go_wp2_with (first | (refine wpList_load_mid rfl 70 (.tmp 5) rfl w1.heap.size 0 rfl (netL (⟨false,32,addr4 ns⟩ : NetM)) _ HAT.out.range0 Tryz.underlying70 rfl HS.out ?_) | (refine wpList_store_mid rfl 70 (.tmp 2) (.tmp 40) rfl w.heap.size 0 (netC (⟨false,32,addr4 ns⟩ : NetM)) rfl rfl HT.out HSC.out (netC_all _) ?_; generalize hwf : World.setCells _ _ _ _=wf; refine Hid.out ?_) | fail)
    refine Lib.hid ?_
    obtain ⟨hnf,hkf,hzf⟩:=HPUT.out wf hwf
    have HNF:=Lib.hid hnf
    have HKF:=Lib.hid hkf
    clear hnf hkf hzf hwf
    go_wp2
    exact bodyPost_ret (results_net Tryz.results55 rfl rfl HNF.out HAL.out) rfl ⟨HBF.out.trans (HKF.out.below (Nat.le_refl _) (Nat.lt_of_lt_of_le HL1.out (by have:=HBW.out.size; omega))),Or.inr ⟨_,HYES.out,HAL.out,rfl⟩⟩
 ·have e1 : ((ps.length : Int) != 4)=true:=by rw [bne_iff_ne]; omega
  have HNO : Hid (o=none):=by have:=HO.out; rw [if_neg h4] at this; exact this
  have HN0r : Hid (NetAt w2 w.heap.size zeroN):=HN1.out.on HB2.out
  have HBF : Hid (Below w.heap.size w w2):=HB1.out.trans (HB2.out.mono HB1.out.size)
  have HT:=Lib.hid (there_of HN0r.out (n:=(netC (⟨false,32,List.replicate 16 0⟩ : NetM)).size) (by decide))
  have HSC:=Lib.hid (size25c (n:=⟨false,32,List.replicate 16 0⟩) rfl)
  have HS:=Lib.hid (size25_of (n:=⟨false,32,List.replicate 16 0⟩) rfl)
  have HPUT:=Lib.hid (fun w2=>@net_put _ w2 _ _ HN0r.out rfl ⟨false,32,List.replicate 16 0⟩ rfl)
  clear h4 HO
  go_wp2_with (first | (refine wpList_load_mid rfl 70 (.tmp 5) rfl w1.heap.size 0 rfl (netL (⟨false,32,List.replicate 16 0⟩ : NetM)) _ HN2.out.range0 Tryz.underlying70 rfl HS.out ?_) | (refine wpList_store_mid rfl 70 (.tmp 2) (.tmp 15) rfl w.heap.size 0 (netC (⟨false,32,List.replicate 16 0⟩ : NetM)) rfl rfl HT.out HSC.out (netC_all _) ?_; generalize hwf : World.setCells _ _ _ _=wf; refine Hid.out ?_) | fail)
  refine Lib.hid ?_
  obtain ⟨hnf,hkf,hzf⟩:=HPUT.out wf hwf
  have HNF:=Lib.hid hnf
  have HKF:=Lib.hid hkf
  clear hnf hkf hzf hwf
  go_wp2
  exact bodyPost_ret (results_net Tryz.results55 rfl rfl HNF.out rfl) rfl ⟨HBF.out.trans (HKF.out.below (Nat.le_refl _) (Nat.lt_of_lt_of_le HL1.out (by have:=HB2.out.size; omega))),Or.inl ⟨HNO.out,_,rfl,rfl⟩⟩
end Go.Proofs.YtghnopkgcgfcpaaGreatDoor.Cidr
namespace Go.Proofs.YtghnopkgcgfcpaaGreatDoor.Cidr
open Go.RowKit Base
def ccB (l : List UInt8) (j : Nat) : Bool:=decide (l.getD j 0=58) && decide (l.getD (j + 1) 0=58)
def firstCC (l : List UInt8) : Option Nat:=(List.range (l.length - 1)).find? (ccB l)
def atI : Option Nat→Int
 | none=>-1
 | some a=>(a : Int)
def headS (s : ByteArray) : Option Nat→ByteArray
 | none=>s
 | some a=>s.extract 0 a
def tailS (s : ByteArray) : Option Nat→ByteArray
 | none=>⟨#[]⟩
 | some a=>s.extract (a + 2) s.size
def okG (o : Option Nat) (a b : Nat) : Bool:=match o with | none=>decide (a=8) | some _=>decide (a + b≤7)
def allG (A B : List Nat) : List Nat:=A++(List.replicate (8 - A.length - B.length) 0++B)
def two (g : Nat) : List UInt8:=[UInt8.ofNat (g / 256),UInt8.ofNat (g % 256)]
def sixS (s : ByteArray) : Option NetM :=
 match grpsN (headS s (firstCC s.data.toList)).data.toList,grpsN (tailS s (firstCC s.data.toList)).data.toList with
 | some A,some B=>if okG (firstCC s.data.toList) A.length B.length=true then some ⟨true,128,(allG A B).flatMap two⟩ else none
 | _,_=>none
theorem ccB_at (s : ByteArray) (k : Nat) (h : k + 1 < s.size) : ccB s.data.toList k=(decide (s[k]=58) && decide (s[k + 1]=58)):=by
 unfold ccB; rw [str_get s k (by omega),str_get s (k + 1) h]
theorem firstCC_some {s : ByteArray} {k : Nat} (h : k + 1 < s.size) (hno : ∀ j,j < k→ccB s.data.toList j=false) (hk : ccB s.data.toList k=true) : firstCC s.data.toList=some k:=by
 unfold firstCC
 rw [List.find?_eq_some_iff_getElem]
 refine ⟨hk,k,by rw [List.length_range,str_len]; omega,by simp,fun j hj=>?_⟩
 simpa using hno j hj
theorem firstCC_none {s : ByteArray} {k : Nat} (h : ¬ k + 1 < s.size) (hno : ∀ j,j < k→ccB s.data.toList j=false) : firstCC s.data.toList=none:=by
 unfold firstCC
 rw [List.find?_eq_none]
 intro j hj
 rw [List.mem_range,str_len] at hj
 simpa using hno j (by omega)
theorem firstCC_lt {s : ByteArray} {a : Nat} (h : firstCC s.data.toList=some a) : a + 2≤s.size:=by
 unfold firstCC at h
 have:=List.mem_of_find?_eq_some h
 rw [List.mem_range,str_len] at this
 omega
theorem grps_small {l : List UInt8} {A : List Nat} (h : grpsN l=some A) : ∀ g ∈ A,g≤65535:=fun g hg=>by
 unfold grpsN at h
 split at h
 ·cases h; simp at hg
 ·obtain ⟨p,_,hp⟩:=mapO_mem grpN h g hg
  exact grpN_small hp
theorem allG_len {A B : List Nat} (h : A.length + B.length≤8) : (allG A B).length=8:=by unfold allG; simp; omega
theorem allG_small {A B : List Nat} (hA : ∀ g ∈ A,g≤65535) (hB : ∀ g ∈ B,g≤65535) : ∀ g ∈ allG A B,g≤65535:=fun g hg=>by
 unfold allG at hg
 rw [List.mem_append,List.mem_append] at hg
 rcases hg with h | h | h
 ·exact hA g h
 ·rw [List.eq_of_mem_replicate h]; omega
 ·exact hB g h
theorem flat_len : ∀ (G : List Nat),(G.flatMap two).length=2 * G.length
 | []=>rfl
 | g :: r=>by rw [List.flatMap_cons,List.length_append,flat_len r]; simp [two]; omega
theorem ok_len {o : Option Nat} {A B : List Nat} (hB : o=none→B=[]) (h : okG o A.length B.length=true) : A.length + B.length≤8:=by
 unfold okG at h
 cases o with
 | none=>have:=of_decide_eq_true h; rw [hB rfl]; simp; omega
 | some a=>have:=of_decide_eq_true h; omega
def part6 (G : List Nat) (k : Nat) : List UInt8:=(G.take k).flatMap two++List.replicate (16 - 2 * k) 0
theorem part6_len {G : List Nat} {k : Nat} (h : k≤G.length) (hk : k≤8) : (part6 G k).length=16:=by
 unfold part6; rw [List.length_append,flat_len,List.length_take,List.length_replicate]; omega
theorem part6_step {G : List Nat} {k : Nat} (h : k < G.length) (hk : k < 8) : ((part6 G k).set (2 * k) (UInt8.ofNat (G[k] / 256))).set (2 * k + 1) (UInt8.ofNat (G[k] % 256))=part6 G (k + 1):=by
 have hl : ((G.take k).flatMap two).length=2 * k:=by rw [flat_len,List.length_take]; omega
 unfold part6
 rw [show 16 - 2 * k=(16 - 2 * (k + 1)) + 1 + 1 by omega,List.replicate_succ,List.replicate_succ,List.take_succ_eq_append_getElem h,List.flatMap_append]
 rw [List.set_append_right _ _ (by omega),hl,Nat.sub_self,List.set_cons_zero,List.set_append_right _ _ (by omega),hl,show 2 * k + 1 - 2 * k=1 by omega]
 simp [two]
theorem part6_end {G : List Nat} (h : G.length=8) : part6 G 8=G.flatMap two:=by
 unfold part6; rw [List.take_of_length_le (by omega)]; simp
theorem splice_two {A B : List Nat} (h : A.length + B.length≤8) : splice (splice (List.replicate 8 (I 0)) 0 (A.map I)) (8 - B.length) (B.map I)=(allG A B).map I:=by
 unfold splice allG
 simp only [List.take_zero,List.nil_append,Nat.zero_add,List.length_map,List.drop_replicate]
 rw [List.take_append,List.drop_append,List.length_map,List.take_of_length_le (by simp; omega),List.drop_eq_nil_of_le (by simp; omega)]
 simp
 rw [show min (8 - B.length - A.length) (8 - A.length)=8 - A.length - B.length by omega,show 8 - A.length - (8 - B.length + B.length - A.length)=0 by omega]
 simp
end Go.Proofs.YtghnopkgcgfcpaaGreatDoor.Cidr
set_option maxHeartbeats 16000000
set_option maxRecDepth 100000
namespace Go.Proofs.YtghnopkgcgfcpaaGreatDoor.Cidr
open Go.RowKit Base
theorem grps_no {f : FuncId} {args : Array Value} {w : World} (h : Calls Tryz.prog f args w (GrpsEnd none w)) : Calls Tryz.prog f args w (fun e w'=>e=.returned (.tuple #[.slice none 0 0,.bool false])∧Below w.heap.size w w') :=
 h.mono fun e w' h=>by
  rcases h with ⟨_,h1,h2⟩ | ⟨A,v,h1,_⟩
  ·exact ⟨h1,h2⟩
  ·cases h1
theorem grps_yes {f : FuncId} {args : Array Value} {w : World} {A : List Nat} (h : Calls Tryz.prog f args w (GrpsEnd (some A) w)) : Calls Tryz.prog f args w (fun e w'=>∃ v,e=.returned (.tuple #[v,.bool true])∧OwnsI w' w.heap.size v A∧Below w.heap.size w w') :=
 h.mono fun e w' h=>by
  rcases h with ⟨h1,_⟩ | ⟨A',v,h1,h2,h3,h4⟩
  ·cases h1
  ·cases h1; exact ⟨v,h2,h3,h4⟩
theorem mk8 (w : World) : (Instr.makeSlice 107 (.int .i64 8) (.int .i64 8)).run Tryz.prog w=.ok (.slice (some ⟨w.heap.size,0,none⟩) 8 8) (w.alloc (.cells (List.replicate 8 (I 0)).toArray 3)):=by
 kernel_rfl
theorem ints_one (A : List Nat) : ∀ v ∈ A.map I,v.oneCell'=true:=fun v hv=>by
 obtain ⟨x,_,rfl⟩:=List.mem_map.1 hv; rfl
theorem copy_src {w : World} {B : Nat} {a : Option Addr} {n c : Nat} {A : List Nat} (h : OwnsI w B (.slice a n c) A) : 0 < (A.map I).length→∃ ad,a=some ad∧∀ j v,(A.map I)[j]?=some v→w.cell? (ad.add j)=some v:=fun h0=>by
 rw [List.length_map] at h0
 obtain ⟨b,hb,_⟩:=h.cell (i:=0) (x:=A[0]) (List.getElem?_eq_getElem h0)
 refine ⟨⟨b,0,none⟩,hb,fun j v hv=>?_⟩
 rw [List.getElem?_map] at hv
 cases hj : A[j]? with
 | none=>rw [hj] at hv; cases hv
 | some x =>
  rw [hj] at hv
  cases hv
  obtain ⟨b',hb',hc⟩:=h.cell hj
  rw [hb] at hb'
  cases hb'
  rw [Addr.add_lit,Nat.zero_add]
  exact hc
theorem mapO_lenG {l : List UInt8} {A : List Nat} (h : grpsN l=some A) : A.length≤l.length + 1:=by
 unfold grpsN at h
 split at h
 ·cases h; simp
 ·rw [mapO_len grpN h]; exact splitB_len _ _
theorem rSix (s : ByteArray) (w : World) (hs : s.size≤4294967280) : Calls Tryz.prog 56 #[.string s] w (NetEnd (sixS s) w):=by
 obtain ⟨o,ho⟩ : ∃ o,o=sixS s:=⟨_,rfl⟩
 rw [← ho]
 unfold sixS at ho
 obtain ⟨o1,ho1⟩ : ∃ o1,o1=firstCC s.data.toList:=⟨_,rfl⟩
 rw [← ho1] at ho
 have HF1:=Lib.hid ho1
 have HO:=Lib.hid ho
 have hn0:=NetAt.new w zeroN
 have hb0:=Below.alloc1 w (.cells (netC zeroN) 70)
 have hn1:=NetAt.new (w.alloc (.cells (netC zeroN) 70)) zeroN
 rw [show (w.alloc (.cells (netC zeroN) 70)).heap.size=w.heap.size + 1 by simp] at hn1
 have HN0:=Lib.hid (hn0.on (Below.alloc1 _ (.cells (netC zeroN) 70)))
 have HB0 : Hid (Below w.heap.size w ((w.alloc (.cells (netC zeroN) 70)).alloc (.cells (netC zeroN) 70))):=hb0.trans ((Below.alloc1 _ _).mono (by simp))
 have HT:=Lib.hid (there_of hn1 (n:=(netC (⟨true,128,List.replicate 16 0⟩ : NetM)).size) (by decide))
 have HZ:=Lib.hid (size25c (n:=⟨true,128,List.replicate 16 0⟩) rfl)
 have HPUT:=Lib.hid (fun w2=>@net_put _ w2 _ _ hn1 rfl ⟨true,128,List.replicate 16 0⟩ rfl)
 clear ho ho1 hn0 hb0 hn1
 go_enter Tryz.func56,Tryz.ntmps56
 go_wp2_with (first | (refine wpList_store_mid rfl 70 (.tmp 4) (.tmp 15) rfl (w.heap.size + 1) 0 (netC (⟨true,128,List.replicate 16 0⟩ : NetM)) rfl rfl HT.out HZ.out (netC_all _) ?_; generalize hw2 : World.setCells _ _ _ _=w2; refine Hid.out ?_) | fail)
 refine Lib.hid ?_
 obtain ⟨hn2,hk2,hz2⟩:=HPUT.out w2 hw2
 have HN2:=Lib.hid hn2
 have HN20 : Hid (NetAt w2 w.heap.size zeroN):=HN0.out.kept hk2 (by omega)
 have HB2 : Hid (Below w.heap.size w w2):=HB0.out.trans (hk2.below (by omega) (by simp))
 clear hw2 hn2 hk2 hz2 HPUT HT HZ HN0 HB0
 go_upto_block 0 with fail
 go_cut [5] (fun a wx=>a=.int .i64 (atI o1)∧wx=w2)
 case first =>
  go_wp2
  go_loop [5,6] (fun a i=>∃ (k : Nat) (q : Option Nat),i=.int .i64 k∧a=.int .i64 (atI q)∧k≤s.size∧Hid (q=none→∀ j,j < k→ccB s.data.toList j=false)∧Hid (∀ b,q=some b→o1=some b)) (fun _ i=>s.size - (intOf i).toNat)
  case atStart=>exact ⟨0,none,rfl,rfl,Nat.zero_le _,(fun _ j h=>by omega),(fun b h=>by cases h)⟩
  case round =>
   obtain ⟨k,q,rfl,rfl,hk,hno,hyes⟩:=hrel
   cases q with
   | some b =>
    rw [show atI (some b)=(b : Int) from rfl]
    have HD : Hid (o1=some b):=hyes.out b rfl
    clear hno hyes
    by_cases hl : k + 1 < s.size
    ·have i1 : (k : Int) + 1 < (s.size : Int):=by omega
     go_wp2
     go_meet
     exact ⟨by rw [HD.out]; rfl,rfl⟩
    ·have i1 : ¬ (k : Int) + 1 < (s.size : Int):=by omega
     go_wp2
     go_meet
     exact ⟨by rw [HD.out]; rfl,rfl⟩
   | none =>
    rw [show atI none=-1 from rfl]
    have HNO : Hid (∀ j,j < k→ccB s.data.toList j=false):=hno.out rfl
    clear hno hyes
    by_cases hl : k + 1 < s.size
    ·have i1 : (k : Int) + 1 < (s.size : Int):=by omega
     have hcc:=ccB_at s k hl
     have HCC:=Lib.hid hcc
     clear hcc
     by_cases c1 : s[k]=58
     ·have e1 : ((s[k].toNat : Int) == 58)=true:=by rw [c1]; rfl
      by_cases c2 : s[k + 1]=58
      ·have e2 : ((s[k + 1].toNat : Int) == 58)=true:=by rw [c2]; rfl
       have HD : Hid (o1=some k):=HF1.out.trans (firstCC_some hl HNO.out (by rw [HCC.out,c1,c2]; rfl))
       clear c1 c2
       go_wp2
       go_round
       case rel=>exact ⟨k + 1,some k,by go_num,rfl,by omega,(fun h=>by cases h),(fun b h=>by cases h; exact HD.out)⟩
       case measure=>simp [intOf]; omega
      ·have e2 : ((s[k + 1].toNat : Int) == 58)=false:=by rw [beq_eq_false_iff_ne]; intro h; exact c2 (UInt8.toNat_inj.1 (by show _=58; omega))
       have HD : Hid (∀ j,j < k + 1→ccB s.data.toList j=false):=fun j hj=>by
        rcases Nat.lt_or_ge j k with h | h
        ·exact HNO.out j h
        ·obtain rfl : j=k:=by omega
         rw [HCC.out,decide_eq_false c2,Bool.and_false]
       clear c1 c2
       go_wp2
       go_round
       case rel=>exact ⟨k + 1,none,by go_num,rfl,by omega,(fun _=>HD.out),(fun b h=>by cases h)⟩
       case measure=>simp [intOf]; omega
     ·have e1 : ((s[k].toNat : Int) == 58)=false:=by rw [beq_eq_false_iff_ne]; intro h; exact c1 (UInt8.toNat_inj.1 (by show _=58; omega))
      have HD : Hid (∀ j,j < k + 1→ccB s.data.toList j=false):=fun j hj=>by
       rcases Nat.lt_or_ge j k with h | h
       ·exact HNO.out j h
       ·obtain rfl : j=k:=by omega
        rw [HCC.out,decide_eq_false c1,Bool.false_and]
      clear c1
      go_wp2
      go_round
      case rel=>exact ⟨k + 1,none,by go_num,rfl,by omega,(fun _=>HD.out),(fun b h=>by cases h)⟩
      case measure=>simp [intOf]; omega
    ·have i1 : ¬ (k : Int) + 1 < (s.size : Int):=by omega
     have HD : Hid (o1=none):=HF1.out.trans (firstCC_none hl HNO.out)
     go_wp2
     go_meet
     exact ⟨by rw [HD.out]; rfl,rfl⟩
 case rest =>
  obtain ⟨rfl,rfl⟩:=hcut
  go_upto_if 41 with fail
  go_cut [7,8] (fun a b wx=>a=.string (headS s o1)∧b=.string (tailS s o1)∧wx=wc)
  case first =>
   cases o1 with
   | none =>
    rw [show atI none=-1 from rfl]
    go_wp2
    go_meet
    exact ⟨rfl,rfl,rfl⟩
   | some a =>
    have hlt:=firstCC_lt HF1.out.symm
    rw [show atI (some a)=(a : Int) from rfl]
    have i1 : (0 : Int)≤(a : Int):=by omega
    have i2 : (a : Int)≤(s.size : Int):=by omega
    have i3 : (a : Int) + 2≤(s.size : Int):=by omega
    go_wp2
    go_meet
    exact ⟨rfl,rfl,rfl⟩
  case rest =>
   obtain ⟨rfl,rfl,rfl⟩:=hcut
   have hH : (headS s o1).size≤s.size:=by unfold headS; cases o1 <;> simp [ByteArray.size_extract] <;> omega
   have hT : (tailS s o1).size≤s.size:=by
    unfold tailS
    cases o1 with
    | none=>exact Nat.zero_le _
    | some a=>(simp [ByteArray.size_extract]; try omega)
   have HTE : Hid (o1=none→grpsN (tailS s o1).data.toList=some []):=fun h=>by rw [h]; rfl
   generalize headS s o1=H at HO hH
   generalize tailS s o1=T at HO hT HTE
   have HGH:=Lib.hid (rGroups H wc (by omega))
   have HGT:=Lib.hid (fun wx=>rGroups T wx (by omega))
   have HLH:=Lib.hid hH
   have HLT:=Lib.hid hT
   clear hH hT HF1
   obtain ⟨ga,hga⟩ : ∃ ga,ga=grpsN H.data.toList:=⟨_,rfl⟩
   obtain ⟨gb,hgb⟩ : ∃ gb,gb=grpsN T.data.toList:=⟨_,rfl⟩
   have HGA:=Lib.hid hga
   have HGB:=Lib.hid hgb
   rw [← hga] at HGH HO
   rw [← hgb] at HGT HO HTE
   clear hga hgb
   cases ga with
   | none =>
    have HNO : Hid (o=none):=HO.out
    have HGH2:=Lib.hid (grps_no HGH.out)
    clear HO HGH
    cases gb with
    | none =>
     have HGT2:=Lib.hid (fun wx=>grps_no (HGT.out wx))
     clear HGT HTE
     go_wp2_with (go_at_call 89; refine HGH2.out.mono ?_; rintro e w3 ⟨rfl,b3⟩; refine Hid.out ?_)
     refine Lib.hid ?_
     go_wp2_with (go_at_call 89; refine (HGT2.out _).mono ?_; rintro e w4 ⟨rfl,b4⟩; refine Hid.out ?_)
     refine Lib.hid ?_
     have b34:=Lib.hid (b3.trans (b4.mono b3.size))
     clear b3 b4
     have hnq:=HN2.out.on b34.out
     have hzq:=HN20.out.on b34.out
     have HNt:=Lib.hid hnq
     have HBt : Hid (Below w.heap.size w w4):=HB2.out.trans (Below.mono b34.out HB2.out.size)
     have HSt:=Lib.hid (size25_of (n:=⟨true,128,List.replicate 16 0⟩) rfl)
     have HTt:=Lib.hid (there_of hzq (n:=(netC (⟨true,128,List.replicate 16 0⟩ : NetM)).size) (by decide))
     have HCt:=Lib.hid (size25c (n:=⟨true,128,List.replicate 16 0⟩) rfl)
     have HPt:=Lib.hid (fun wf=>@net_put _ wf _ _ hzq rfl ⟨true,128,List.replicate 16 0⟩ rfl)
     clear hnq hzq
     go_wp2_with (first | (refine wpList_load_mid rfl 70 (.tmp 4) rfl (w.heap.size + 1) 0 rfl (netL (⟨true,128,List.replicate 16 0⟩ : NetM)) _ HNt.out.range0 Tryz.underlying70 rfl HSt.out ?_) | (refine wpList_store_mid rfl 70 (.tmp 2) (.tmp 86) rfl w.heap.size 0 (netC (⟨true,128,List.replicate 16 0⟩ : NetM)) rfl rfl HTt.out HCt.out (netC_all _) ?_; generalize hwf : World.setCells _ _ _ _=wf; refine Hid.out ?_) | fail)
     refine Lib.hid ?_
     obtain ⟨hnf,hkf,hzf⟩:=HPt.out wf hwf
     have HNF:=Lib.hid hnf
     have HKF:=Lib.hid hkf
     clear hnf hkf hzf hwf
     go_wp2
     exact bodyPost_ret (results_net Tryz.results56 rfl rfl HNF.out rfl) rfl ⟨HBt.out.trans (HKF.out.below (Nat.le_refl _) (Nat.lt_of_lt_of_le (heap_lt HN20.out) (Below.size b34.out))),Or.inl ⟨HNO.out,_,rfl,rfl⟩⟩
    | some B =>
     have HGT2:=Lib.hid (fun wx=>grps_yes (HGT.out wx))
     clear HGT HTE
     go_wp2_with (go_at_call 89; refine HGH2.out.mono ?_; rintro e w3 ⟨rfl,b3⟩; refine Hid.out ?_)
     refine Lib.hid ?_
     go_wp2_with (go_at_call 89; refine (HGT2.out _).mono ?_; rintro e w4 ⟨v4,rfl,o4,b4⟩; refine Hid.out ?_)
     refine Lib.hid ?_
     obtain ⟨qa,qc,rfl,_⟩:=o4.form
     have b34:=Lib.hid (b3.trans (b4.mono b3.size))
     clear b3 b4 o4
     have hnq:=HN2.out.on b34.out
     have hzq:=HN20.out.on b34.out
     have HNt:=Lib.hid hnq
     have HBt : Hid (Below w.heap.size w w4):=HB2.out.trans (Below.mono b34.out HB2.out.size)
     have HSt:=Lib.hid (size25_of (n:=⟨true,128,List.replicate 16 0⟩) rfl)
     have HTt:=Lib.hid (there_of hzq (n:=(netC (⟨true,128,List.replicate 16 0⟩ : NetM)).size) (by decide))
     have HCt:=Lib.hid (size25c (n:=⟨true,128,List.replicate 16 0⟩) rfl)
     have HPt:=Lib.hid (fun wf=>@net_put _ wf _ _ hzq rfl ⟨true,128,List.replicate 16 0⟩ rfl)
     clear hnq hzq
     go_wp2_with (first | (refine wpList_load_mid rfl 70 (.tmp 4) rfl (w.heap.size + 1) 0 rfl (netL (⟨true,128,List.replicate 16 0⟩ : NetM)) _ HNt.out.range0 Tryz.underlying70 rfl HSt.out ?_) | (refine wpList_store_mid rfl 70 (.tmp 2) (.tmp 86) rfl w.heap.size 0 (netC (⟨true,128,List.replicate 16 0⟩ : NetM)) rfl rfl HTt.out HCt.out (netC_all _) ?_; generalize hwf : World.setCells _ _ _ _=wf; refine Hid.out ?_) | fail)
     refine Lib.hid ?_
     obtain ⟨hnf,hkf,hzf⟩:=HPt.out wf hwf
     have HNF:=Lib.hid hnf
     have HKF:=Lib.hid hkf
     clear hnf hkf hzf hwf
     go_wp2
     exact bodyPost_ret (results_net Tryz.results56 rfl rfl HNF.out rfl) rfl ⟨HBt.out.trans (HKF.out.below (Nat.le_refl _) (Nat.lt_of_lt_of_le (heap_lt HN20.out) (Below.size b34.out))),Or.inl ⟨HNO.out,_,rfl,rfl⟩⟩
   | some A =>
    have HGH2:=Lib.hid (grps_yes HGH.out)
    clear HGH
    cases gb with
    | none =>
     have HNO : Hid (o=none):=HO.out
     have HGT2:=Lib.hid (fun wx=>grps_no (HGT.out wx))
     clear HGT HTE HO
     go_wp2_with (go_at_call 89; refine HGH2.out.mono ?_; rintro e w3 ⟨v3,rfl,o3,b3⟩; refine Hid.out ?_)
     refine Lib.hid ?_
     obtain ⟨ea,ec,rfl,_⟩:=o3.form
     go_wp2_with (go_at_call 89; refine (HGT2.out _).mono ?_; rintro e w4 ⟨rfl,b4⟩; refine Hid.out ?_)
     refine Lib.hid ?_
     have b34:=Lib.hid (b3.trans (b4.mono b3.size))
     clear b3 b4 o3
     have hnq:=HN2.out.on b34.out
     have hzq:=HN20.out.on b34.out
     have HNt:=Lib.hid hnq
     have HBt : Hid (Below w.heap.size w w4):=HB2.out.trans (Below.mono b34.out HB2.out.size)
     have HSt:=Lib.hid (size25_of (n:=⟨true,128,List.replicate 16 0⟩) rfl)
     have HTt:=Lib.hid (there_of hzq (n:=(netC (⟨true,128,List.replicate 16 0⟩ : NetM)).size) (by decide))
     have HCt:=Lib.hid (size25c (n:=⟨true,128,List.replicate 16 0⟩) rfl)
     have HPt:=Lib.hid (fun wf=>@net_put _ wf _ _ hzq rfl ⟨true,128,List.replicate 16 0⟩ rfl)
     clear hnq hzq
     go_wp2_with (first | (refine wpList_load_mid rfl 70 (.tmp 4) rfl (w.heap.size + 1) 0 rfl (netL (⟨true,128,List.replicate 16 0⟩ : NetM)) _ HNt.out.range0 Tryz.underlying70 rfl HSt.out ?_) | (refine wpList_store_mid rfl 70 (.tmp 2) (.tmp 86) rfl w.heap.size 0 (netC (⟨true,128,List.replicate 16 0⟩ : NetM)) rfl rfl HTt.out HCt.out (netC_all _) ?_; generalize hwf : World.setCells _ _ _ _=wf; refine Hid.out ?_) | fail)
     refine Lib.hid ?_
     obtain ⟨hnf,hkf,hzf⟩:=HPt.out wf hwf
     have HNF:=Lib.hid hnf
     have HKF:=Lib.hid hkf
     clear hnf hkf hzf hwf
     go_wp2
     exact bodyPost_ret (results_net Tryz.results56 rfl rfl HNF.out rfl) rfl ⟨HBt.out.trans (HKF.out.below (Nat.le_refl _) (Nat.lt_of_lt_of_le (heap_lt HN20.out) (Below.size b34.out))),Or.inl ⟨HNO.out,_,rfl,rfl⟩⟩
    | some B =>
     have HOK : Hid (o=if okG o1 A.length B.length=true then some ⟨true,128,(allG A B).flatMap two⟩ else none):=HO.out
     have HBN : Hid (o1=none→B=[]):=fun h=>Option.some.inj (HTE.out h)
     have HSA:=Lib.hid (grps_small HGA.out.symm)
     have HSB:=Lib.hid (grps_small HGB.out.symm)
     have HGT2:=Lib.hid (fun wx=>grps_yes (HGT.out wx))
     clear HGT HTE HO
     go_wp2_with (go_at_call 89; refine HGH2.out.mono ?_; rintro e w3 ⟨v3,rfl,o3,b3⟩; refine Hid.out ?_)
     refine Lib.hid ?_
     obtain ⟨ea,ec,rfl,hec⟩:=o3.form
     go_wp2_with (go_at_call 89; refine (HGT2.out _).mono ?_; rintro e w4 ⟨v4,rfl,o4,b4⟩; refine Hid.out ?_)
     refine Lib.hid ?_
     obtain ⟨qa,qc,rfl,hqc⟩:=o4.form
     have HRA:=Lib.hid (o3.on b4)
     have HRB:=Lib.hid o4
     have B34:=Lib.hid (b3.trans (b4.mono b3.size))
     have B4:=Lib.hid b4
     clear b3 b4 o3 o4
     obtain ⟨ok,hok⟩ : ∃ ok,ok=okG o1 A.length B.length:=⟨_,rfl⟩
     rw [← hok] at HOK
     have HK:=Lib.hid hok
     clear hok
     go_upto_region 15 with fail
     go_cut [85] (fun a wx=>a=.bool (!ok)∧wx=w4)
     case first =>
      cases o1 with
      | none =>
       rw [show atI none=-1 from rfl]
       by_cases h8 : A.length=8
       ·have e8 : ((A.length : Int) != 8)=false:=by rw [h8]; rfl
        have HK2 : Hid (ok=true):=by have:=HK.out; unfold okG at this; rw [decide_eq_true h8] at this; exact this
        clear h8 HK
        go_wp2
        go_meet
        exact ⟨by rw [HK2.out]; rfl,rfl⟩
       ·have e8 : ((A.length : Int) != 8)=true:=by rw [bne_iff_ne]; omega
        have HK2 : Hid (ok=false):=by have:=HK.out; unfold okG at this; rw [decide_eq_false h8] at this; exact this
        clear h8 HK
        go_wp2
        go_meet
        exact ⟨by rw [HK2.out]; rfl,rfl⟩
      | some a =>
       rw [show atI (some a)=(a : Int) from rfl]
       have i1 : ¬ (a : Int) < 0:=by omega
       have i2 : (0 : Int)≤(a : Int):=by omega
       obtain ⟨i9,i10⟩ : (A.length : Int)≤4294967281∧(B.length : Int)≤4294967281:=by
        have q1:=HLH.out
        have q2:=HLT.out
        have h1:=mapO_lenG HGA.out.symm
        have h2:=mapO_lenG HGB.out.symm
        rw [str_len] at h1 h2
        omega
       by_cases h8 : A.length + B.length≤7
       ·have e8 : ¬ (7 : Int) < (A.length : Int) + (B.length : Int):=by omega
        have HK2 : Hid (ok=true):=by have:=HK.out; unfold okG at this; rw [decide_eq_true h8] at this; exact this
        clear h8 HK
        go_wp2
        go_meet
        exact ⟨by rw [HK2.out]; rfl,rfl⟩
       ·have e8 : (7 : Int) < (A.length : Int) + (B.length : Int):=by omega
        have HK2 : Hid (ok=false):=by have:=HK.out; unfold okG at this; rw [decide_eq_false h8] at this; exact this
        clear h8 HK
        go_wp2
        go_meet
        exact ⟨by rw [HK2.out]; rfl,rfl⟩
     case rest =>
      obtain ⟨rfl,hwc⟩:=hcut
      have hwc':=hwc.symm
      subst hwc'
      cases ok with
      | false =>
       have HNO : Hid (o=none):=HOK.out
       have hnq:=HN2.out.on B34.out
       have hzq:=HN20.out.on B34.out
       have HNt:=Lib.hid hnq
       have HBt : Hid (Below w.heap.size w w4):=HB2.out.trans (Below.mono B34.out HB2.out.size)
       have HSt:=Lib.hid (size25_of (n:=⟨true,128,List.replicate 16 0⟩) rfl)
       have HTt:=Lib.hid (there_of hzq (n:=(netC (⟨true,128,List.replicate 16 0⟩ : NetM)).size) (by decide))
       have HCt:=Lib.hid (size25c (n:=⟨true,128,List.replicate 16 0⟩) rfl)
       have HPt:=Lib.hid (fun wf=>@net_put _ wf _ _ hzq rfl ⟨true,128,List.replicate 16 0⟩ rfl)
       clear hnq hzq
       go_wp2_with (first | (refine wpList_load_mid rfl 70 (.tmp 4) rfl (w.heap.size + 1) 0 rfl (netL (⟨true,128,List.replicate 16 0⟩ : NetM)) _ HNt.out.range0 Tryz.underlying70 rfl HSt.out ?_) | (refine wpList_store_mid rfl 70 (.tmp 2) (.tmp 86) rfl w.heap.size 0 (netC (⟨true,128,List.replicate 16 0⟩ : NetM)) rfl rfl HTt.out HCt.out (netC_all _) ?_; generalize hwf : World.setCells _ _ _ _=wf; refine Hid.out ?_) | fail)
       refine Lib.hid ?_
       obtain ⟨hnf,hkf,hzf⟩:=HPt.out wf hwf
       have HNF:=Lib.hid hnf
       have HKF:=Lib.hid hkf
       clear hnf hkf hzf hwf
       go_wp2
       exact bodyPost_ret (results_net Tryz.results56 rfl rfl HNF.out rfl) rfl ⟨HBt.out.trans (HKF.out.below (Nat.le_refl _) (Nat.lt_of_lt_of_le (heap_lt HN20.out) (Below.size B34.out))),Or.inl ⟨HNO.out,_,rfl,rfl⟩⟩
      | true =>
       have HYES : Hid (o=some ⟨true,128,(allG A B).flatMap two⟩):=HOK.out
       have HLE : Hid (A.length + B.length≤8):=ok_len HBN.out HK.out.symm
       clear HK HOK HBN
       have hmk : (Instr.makeSlice 107 (.int .i64 8) (.int .i64 8)).run Tryz.prog w4=.ok (.slice (some ⟨w4.heap.size,0,none⟩) 8 8) (w4.alloc (.cells (List.replicate 8 (I 0)).toArray 3)):=mk8 w4
       have hg0 : (w4.alloc (.cells (List.replicate 8 (I 0)).toArray 3)).heap[w4.heap.size]?=some (.cells (List.replicate 8 (I 0)).toArray 3 (0,0)):=(MapKept.heap_alloc w4 _).1
       have HG0:=Lib.hid hg0
       have HZ3:=Lib.hid (show (Tryz.prog.info? 3).map (·.size)=some 1 by kernel_rfl)
       have HAW:=Lib.hid (HRA.out.on (Below.alloc1 w4 (.cells (List.replicate 8 (I 0)).toArray 3)))
       have HCA:=Lib.hid (copy_src HAW.out)
       have HB5:=Lib.hid (Below.alloc1 w4 (.cells (List.replicate 8 (I 0)).toArray 3))
       clear hg0
       go_wp2_with (first | (refine wpList_copy_splice rfl (.tmp 88) (.tmp 89) 107 107 rfl 3 Tryz.underlying107 HZ3.out (some ⟨w4.heap.size,0,none⟩) ea 8 8 A.length ec rfl rfl w4.heap.size 0 (List.replicate 8 (I 0)) 3 HG0.out (A.map I) (by rw [List.length_map]; exact (Nat.min_eq_left (by have:=HLE.out; omega)).symm) (fun h=>⟨rfl,HCA.out h⟩) (by simp; have:=HLE.out; omega) (ints_one A) w4.heap.size w4 HB5.out (Nat.le_refl _) ?_; intro w5 h5 b5; refine Hid.out ?_) | fail)
       refine Lib.hid ?_
       have hb8 : (B.length : Int)≤8:=by have:=HLE.out; omega
       have hb8' : B.length≤8:=by have:=HLE.out; omega
       have HH5:=Lib.hid h5.out
       have HBB5:=Lib.hid b5
       have HBW:=Lib.hid (copy_src (HRB.out.on (b5.mono (Nat.le_refl _))))
       have HN1c : Hid ((B.map I).length=Nat.min B.length (8 - (8 - B.length))):=by
        show _=_
        rw [List.length_map]; exact (Nat.min_eq_left (by omega)).symm
       have HP1c : Hid (0 < (B.map I).length→(if 8=8 - B.length then some (⟨w4.heap.size,0,none⟩ : Addr) else some ⟨w4.heap.size,8 - B.length,none⟩)=some ⟨w4.heap.size,8 - B.length,none⟩∧∃ ad,qa=some ad∧∀ j v,(B.map I)[j]?=some v→w5.cell? (ad.add j)=some v):=fun h=>⟨if_neg (by rw [List.length_map] at h; omega),HBW.out h⟩
       have HF1c : Hid (8 - B.length + (B.map I).length≤(splice (List.replicate 8 (I 0)) 0 (A.map I)).length):=by
        show _≤_
        rw [length_splice _ _ _ (by rw [List.length_map,List.length_replicate]; have:=HLE.out; omega),List.length_map,List.length_replicate]; omega
       clear h5 b5 hmk
       go_upto_region 19 with (fail)
       go_cut [13] (fun a wx=>a=.slice (some ⟨w4.heap.size,0,none⟩) 8 8∧wx.heap[w4.heap.size]?=some (.cells ((allG A B).map I).toArray 3 (0,0))∧Below w4.heap.size w4 wx)
       case first =>
        iterate 40 (first | (refine wpList_copy_splice rfl (.tmp 95) (.tmp 96) 107 107 rfl 3 Tryz.underlying107 HZ3.out (if 8=8 - B.length then some ⟨w4.heap.size,0,none⟩ else some ⟨w4.heap.size,8 - B.length,none⟩) qa (8 - (8 - B.length)) (8 - (8 - B.length)) B.length qc rfl rfl w4.heap.size (8 - B.length) (splice (List.replicate 8 (I 0)) 0 (A.map I)) 3 HH5.out (B.map I) HN1c.out HP1c.out HF1c.out (ints_one B) w4.heap.size w4 HBB5.out (Nat.le_refl _) ?_; intro w6 h6 b6; refine Hid.out ?_) | go_step | skip)
        refine Lib.hid ?_
        have h6':=h6.out
        rw [splice_two HLE.out] at h6'
        have HR6:=Lib.hid h6'
        have HB6:=Lib.hid b6
        clear h6 h6' b6
        iterate 10 (try go_step)
        go_meet
        exact ⟨rfl,HR6.out,HB6.out⟩
       case rest =>
       obtain ⟨rfl,hrow6,b6⟩:=hcut
       have HROW:=Lib.hid hrow6
       obtain ⟨G,hG⟩ : ∃ G,G=allG A B:=⟨_,rfl⟩
       have HGS : Hid (∀ g ∈ G,g≤65535):=by rw [hG]; exact allG_small HSA.out HSB.out
       have HGL : Hid (G.length=8):=by rw [hG]; exact allG_len HLE.out
       rw [← hG] at HYES HROW
       have HN6 : Hid (NetAt wc (w.heap.size + 1) ⟨true,128,part6 G 0⟩):=(HN2.out.on B34.out).on b6
       have HN60 : Hid (NetAt wc w.heap.size zeroN):=(HN20.out.on B34.out).on b6
       have HB6 : Hid (Below w.heap.size w wc):=(HB2.out.trans (B34.out.mono HB2.out.size)).trans (b6.mono (Nat.le_trans HB2.out.size (Below.size B34.out)))
       have HGE : Hid (w.heap.size + 1 < w4.heap.size):=Nat.lt_of_lt_of_le (heap_lt HN2.out) (Below.size B34.out)
       clear hrow6 b6 hG HBW HH5 HBB5 HAW HCA HG0 HB5 hb8 hb8' HSA HSB HLE
       obtain ⟨R,hR⟩ : ∃ R : Value→World→Prop,R=fun i wr=>∃ k : Nat,k≤8∧i=.int .i64 k∧wr.heap[w4.heap.size]?=some (.cells (G.map I).toArray 3 (0,0))∧NetAt wr (w.heap.size + 1) ⟨true,128,part6 G k⟩∧NetAt wr w.heap.size zeroN∧Below w.heap.size w wr:=⟨_,rfl⟩
       have HR:=Lib.hid hR
       clear hR
       go_wp2
       go_loopw [14] (fun i wr=>R i wr) (fun i _=>8 - (intOf i).toNat)
       case atStart=>rw [HR.out]; exact ⟨0,by omega,rfl,HROW.out,HN6.out,HN60.out,HB6.out⟩
       case round =>
        rw [HR.out] at hrel
        obtain ⟨k,hk,rfl,hrow,hnet,hz,hbw⟩:=hrel
        by_cases hlt : k < 8
        ·have hGk : k < G.length:=by rw [HGL.out]; exact hlt
         obtain ⟨gv,hgv⟩ : ∃ gv,gv=G[k]:=⟨_,rfl⟩
         have hgs : gv≤65535:=by rw [hgv]; exact HGS.out _ (List.getElem_mem hGk)
         have hcell : wr.cell? ⟨w4.heap.size,k,none⟩=some (.int .i64 (gv : Int)):=by
          rw [cell_of_row wr _ k _ _ _ hrow,hgv]
          simp [List.getElem?_eq_getElem hGk]
         have hpl:=part6_len (G:=G) (k:=k) (by omega) hk
         obtain ⟨c1,c2⟩:=hnet.cellA (k:=2 * k) (by show _ < (part6 G k).length; omega)
         obtain ⟨c3,c4⟩:=hnet.cellA (k:=2 * k + 1) (by show _ < (part6 G k).length; omega)
         have hge:=HGE.out
         have n1 : ¬ (w.heap.size + 1=w4.heap.size):=by omega
         have n2 : ¬ (w4.heap.size=w.heap.size + 1):=by omega
         have i1 : (k : Int) < 8:=by omega
         have i0' : (0 : Int)≤(k : Int):=by omega
         have HNET:=Lib.hid hnet
         have HZ:=Lib.hid hz
         have HRW:=Lib.hid hrow
         have HBW:=Lib.hid hbw
         have HGV:=Lib.hid hgv
         clear hnet hz hrow hbw hgv hpl hge
         have hv1 : B8 (UInt8.ofNat (gv / 256))=Value.int .u8 ((gv : Int) / 256):=by
          simp only [B8,UInt8.toNat_ofNat']; congr 1; omega
         have hv2 : B8 (UInt8.ofNat (gv % 256))=Value.int .u8 ((gv : Int) % 256):=by
          simp only [B8,UInt8.toNat_ofNat']; congr 1; omega
         have hfin:=(HNET.out.setA (2 * k) (UInt8.ofNat (gv / 256))).setA (2 * k + 1) (UInt8.ofNat (gv % 256))
         rw [hv1,hv2] at hfin
         simp only [HGV.out,part6_step hGk hlt] at hfin
         have hkp:=(KeepX.set (w.heap.size + 1) wr (2 + 2 * k) (.int .u8 ((gv : Int) / 256))).trans (KeepX.set (w.heap.size + 1) _ (2 + (2 * k + 1)) (.int .u8 ((gv : Int) % 256)))
         have HRK : Hid (R (.int .i64 ((k : Int) + 1)) ((wr.setCell ⟨w.heap.size + 1,2 + 2 * k,none⟩ (.int .u8 ((gv : Int) / 256))).setCell ⟨w.heap.size + 1,2 + (2 * k + 1),none⟩ (.int .u8 ((gv : Int) % 256)))):=by
          show R _ _
          rw [HR.out]
          refine ⟨k + 1,by omega,by simp,(hkp.block _ (heap_lt HRW.out) n2).trans HRW.out,?_,HZ.out.kept hkp (by omega),HBW.out.trans (hkp.below (by omega) (heap_lt HNET.out))⟩
          rw [HGV.out]
          exact hfin
         clear hv1 hv2 hfin hkp
         go_wp2
         go_roundw
         case rel=>exact HRK.out
         case measure=>simp [intOf]; omega
        ·have hk8 : k=8:=by omega
         subst hk8
         rw [part6_end HGL.out] at hnet
         have HNt:=Lib.hid hnet
         have HBt:=Lib.hid hbw
         have HFL : Hid ((G.flatMap two).length=16):=by show _=_; rw [flat_len,HGL.out]
         have HSt:=Lib.hid (size25_of (n:=⟨true,128,G.flatMap two⟩) HFL.out)
         have HTt:=Lib.hid (there_of hz (n:=(netC (⟨true,128,G.flatMap two⟩ : NetM)).size) (by rw [netC_size HFL.out]; decide))
         have HCt:=Lib.hid (size25c (n:=⟨true,128,G.flatMap two⟩) HFL.out)
         have HPt:=Lib.hid (fun wf=>@net_put _ wf _ _ hz rfl ⟨true,128,G.flatMap two⟩ HFL.out)
         have HLt:=Lib.hid (heap_lt hz)
         clear hrow hnet hz hbw
         go_wp2_with (first | (refine wpList_load_mid rfl 70 (.tmp 4) rfl (w.heap.size + 1) 0 rfl (netL (⟨true,128,G.flatMap two⟩ : NetM)) _ HNt.out.range0 Tryz.underlying70 rfl HSt.out ?_) | (refine wpList_store_mid rfl 70 (.tmp 2) (.tmp 123) rfl w.heap.size 0 (netC (⟨true,128,G.flatMap two⟩ : NetM)) rfl rfl HTt.out HCt.out (netC_all _) ?_; generalize hwf : World.setCells _ _ _ _=wf; refine Hid.out ?_) | fail)
         refine Lib.hid ?_
         obtain ⟨hnf,hkf,hzf⟩:=HPt.out wf hwf
         have HNF:=Lib.hid hnf
         have HKF:=Lib.hid hkf
         clear hnf hkf hzf hwf
         go_wp2
         exact bodyPost_ret (results_net Tryz.results56 rfl rfl HNF.out HFL.out) rfl ⟨HBt.out.trans (HKF.out.below (Nat.le_refl _) HLt.out),Or.inr ⟨_,HYES.out,HFL.out,rfl⟩⟩
end Go.Proofs.YtghnopkgcgfcpaaGreatDoor.Cidr
