/-
  MERGED by mergefill.py: CidrForm2, CidrShow, CidrPJoin.
-/
import Derived.Test.YtghnopkgcgfcpaaGreatDoorCidrAddrMg
import Derived.Deep.RegionHeld3
import Derived.Deep.CutBlock
import Derived.Deep.DeepCutAuto
import Derived.Test.YtghnopkgcgfcpaaGreatDoorCidrG2Mg
import Derived.BigQuiet
import Derived.Lib.AppendIntMem
set_option maxHeartbeats 16000000
set_option maxRecDepth 100000
namespace Go.Proofs.YtghnopkgcgfcpaaGreatDoor.Cidr
open Go.RowKit Base
def partG (a : List UInt8) (k : Nat) : List Value:=(((grpsA a).take k).map I)++List.replicate (8 - k) (I 0)
theorem partG_set (a : List UInt8) {k : Nat} (h : k < 8) : (partG a k).toArray.setIfInBounds k (I (grpA a k))=(partG a (k + 1)).toArray:=by
 have hl : k < (grpsA a).length:=by rw [grpsA_len]; exact h
 apply Array.toList_inj.1
 have e : (grpsA a)[k]?=some (grpA a k):=by unfold grpsA; simp [h]
 have e1 : (grpsA a)[k]=grpA a k:=by rw [List.getElem?_eq_getElem hl] at e; exact Option.some.inj e
 have e2 : (List.map I (List.take k (grpsA a))).length=k:=by rw [List.length_map,List.length_take,grpsA_len]; omega
 unfold partG
 rw [Array.toList_setIfInBounds]
 show List.set _ _ _=_
 rw [List.set_append_right _ _ (by omega),e2,Nat.sub_self,show 8 - k=(8 - (k + 1)) + 1 by omega,List.replicate_succ,List.take_succ_eq_append_getElem hl,e1]
 simp
theorem partG_end (a : List UInt8) : partG a 8=(grpsA a).map I:=by
 unfold partG; rw [List.take_of_length_le (by rw [grpsA_len]; omega)]; simp
theorem hexD_len0 : ∀ (k n : Nat),n < 16 ^ (k + 1)→(hexD n).length≤k + 1
 | 0,n,h=>by rw [hexD,dif_pos (by omega)]; simp
 | k + 1,n,h=>by
  rw [hexD]
  split
  ·simp
  ·have:=hexD_len0 k (n / 16) (by rw [Nat.pow_succ] at h; omega)
   simp; omega
theorem hexD_len (n : Nat) (h : n≤65535) : (hexD n).length≤4:=hexD_len0 3 n (by omega)
theorem tw_stop (p : Nat→Bool) : ∀ (l : List Nat),(l.takeWhile p).length < l.length→p (l.getD (l.takeWhile p).length 0)=false
 | [],h=>by simp at h
 | x :: r,h=>by
  cases hx : p x with
  | true =>
   rw [List.takeWhile_cons_of_pos hx] at h ⊢
   have:=tw_stop p r (by simpa using h)
   simpa using this
  | false =>
   rw [List.takeWhile_cons_of_neg (by simp [hx])]
   simpa using hx
theorem runN_stop {G : List Nat} {i : Nat} (h : i + runN G i < G.length) : G.getD (i + runN G i) 0 ≠ 0:=by
 have:=tw_stop (· == 0) (G.drop i) (by rw [List.length_drop]; show runN G i < _; omega)
 rw [show ((G.drop i).takeWhile (· == 0)).length=runN G i from rfl] at this
 rw [List.getD_eq_getElem?_getD,List.getElem?_drop] at this
 rw [List.getD_eq_getElem?_getD]
 simpa using this
theorem row_cell {w : World} {g : Nat} {G : List Nat} (h : w.heap[g]?=some (.cells (G.map I).toArray 3 (0,0))) {j : Nat} (hj : j < G.length) : w.cell? ⟨g,j,none⟩=some (.int .i64 ((G.getD j 0 : Nat) : Int)):=by
 rw [cell_of_row w g j _ _ _ h]
 simp [List.getD,List.getElem?_eq_getElem hj]
theorem rForm6 (a : List UInt8) (ha : a.length=16) (w : World) : Calls Tryz.prog 58 #[.agg (a.map B8).toArray] w (fun e w'=>e=.returned (S (form6 a))∧Below w.heap.size w w'):=by
 have hmk:=mk8 (w.alloc (.cells (a.map B8).toArray 68))
 have hsz : (w.alloc (.cells (a.map B8).toArray 68)).heap.size=w.heap.size + 1:=by simp
 rw [hsz] at hmk
 have HB : Hid (((w.alloc (.cells (a.map B8).toArray 68)).alloc (.cells (List.replicate 8 (I 0)).toArray 3)).heap[w.heap.size]?=some (.cells (a.map B8).toArray 68 (0,0))):=by
  have:=(MapKept.heap_alloc w (.cells (a.map B8).toArray 68)).1
  exact ((Below.alloc1 _ _).block _ (by rw [hsz]; omega)).trans this
 have HG : Hid (((w.alloc (.cells (a.map B8).toArray 68)).alloc (.cells (List.replicate 8 (I 0)).toArray 3)).heap[w.heap.size + 1]?=some (.cells (partG a 0).toArray 3 (0,0))):=by
  have:=(MapKept.heap_alloc (w.alloc (.cells (a.map B8).toArray 68)) (.cells (List.replicate 8 (I 0)).toArray 3)).1
  rw [hsz] at this
  exact this
 have HBW : Hid (Below w.heap.size w ((w.alloc (.cells (a.map B8).toArray 68)).alloc (.cells (List.replicate 8 (I 0)).toArray 3))):=(Below.alloc1 _ _).trans ((Below.alloc1 _ _).mono (by rw [hsz]; omega))
 have HMK:=Lib.hid hmk
 clear hmk
 go_enter Tryz.func58,Tryz.ntmps58
 have hmk:=HMK.out
 go_upto_region 2 with fail
 clear hmk
 obtain ⟨R,hR⟩ : ∃ R : Value→World→Prop,R=fun i wr=>∃ k : Nat,k≤8∧i=.int .i64 k∧wr.heap[w.heap.size]?=some (.cells (a.map B8).toArray 68 (0,0))∧wr.heap[w.heap.size + 1]?=some (.cells (partG a k).toArray 3 (0,0))∧Below w.heap.size w wr:=⟨_,rfl⟩
 have HR:=Lib.hid hR
 clear hR
 go_wp2
 go_loopw [4] (fun i wr=>R i wr) (fun i _=>8 - (intOf i).toNat)
 case atStart=>rw [HR.out]; exact ⟨0,by omega,rfl,HB.out,HG.out,HBW.out⟩
 case round =>
  rw [HR.out] at hrel
  obtain ⟨k,hk,rfl,hb,hg,hbw⟩:=hrel
  by_cases hlt : k < 8
  ·obtain ⟨x,hx⟩ : ∃ x,x=(a.getD (2 * k) 0).toNat:=⟨_,rfl⟩
   obtain ⟨y,hy⟩ : ∃ y,y=(a.getD (2 * k + 1) 0).toNat:=⟨_,rfl⟩
   have hx2 : x < 256:=by rw [hx]; exact (a.getD (2 * k) 0).toNat_lt
   have hy2 : y < 256:=by rw [hy]; exact (a.getD (2 * k + 1) 0).toNat_lt
   have c1 : wr.drew.cell? ⟨w.heap.size,2 * k,none⟩=some (.int .u8 (x : Int)):=by
    have : wr.cell? ⟨w.heap.size,2 * k,none⟩=_:=cell_of_row wr _ (2 * k) _ _ _ hb
    refine (show wr.drew.cell? _=wr.cell? _ from rfl).trans (this.trans ?_)
    rw [hx]; simp [List.getD,List.getElem?_eq_getElem (show 2 * k < a.length by omega)]
   have c2 : wr.drew.cell? ⟨w.heap.size,2 * k + 1,none⟩=some (.int .u8 (y : Int)):=by
    have : wr.cell? ⟨w.heap.size,2 * k + 1,none⟩=_:=cell_of_row wr _ (2 * k + 1) _ _ _ hb
    refine (show wr.drew.cell? _=wr.cell? _ from rfl).trans (this.trans ?_)
    rw [hy]; simp [List.getD,List.getElem?_eq_getElem (show 2 * k + 1 < a.length by omega)]
   have c3 : ∃ v,wr.drew.cell? ⟨w.heap.size + 1,k,none⟩=some v:=by
    have : wr.cell? ⟨w.heap.size + 1,k,none⟩=_:=cell_of_row wr _ k _ _ _ hg
    refine ⟨(partG a k).toArray[k]'(by simp [partG,grpsA_len]; omega),(show wr.drew.cell? _=wr.cell? _ from rfl).trans (this.trans (Array.getElem?_eq_getElem _))⟩
   obtain ⟨v,c3⟩:=c3
   have c4 : wr.drew.frozen? ⟨w.heap.size + 1,k,none⟩=false:=by
    have : wr.frozen? ⟨w.heap.size + 1,k,none⟩=false:=by simp [World.frozen?,hg]
    exact this
   have i1 : (k : Int) < 8:=by omega
   have i0 : (0 : Int)≤(k : Int):=by omega
   have i2 : (0 : Int)≤2 * (k : Int):=by omega
   have i3 : 2 * (k : Int) < 16:=by omega
   have i4 : (0 : Int)≤2 * (k : Int) + 1:=by omega
   have i5 : 2 * (k : Int) + 1 < 16:=by omega
   have wr1 : IntKind.i64.wrap (2 * (k : Int))=2 * (k : Int):=IntWalk.i64_in _ (by omega)
   have wr2 : IntKind.i64.wrap (2 * (k : Int) + 1)=2 * (k : Int) + 1:=IntWalk.i64_in _ (by omega)
   have wr3 : IntKind.i64.wrap (256 * (x : Int))=256 * (x : Int):=IntWalk.i64_in _ (by omega)
   have wr4 : IntKind.i64.wrap (256 * (x : Int) + (y : Int))=256 * (x : Int) + (y : Int):=IntWalk.i64_in _ (by omega)
   have wr5 : IntKind.i64.wrap (x : Int)=(x : Int):=IntWalk.i64_in _ (by omega)
   have wr6 : IntKind.i64.wrap (y : Int)=(y : Int):=IntWalk.i64_in _ (by omega)
   have tn1 : (2 * (k : Int)).toNat=2 * k:=by omega
   have tn2 : (2 * (k : Int) + 1).toNat=2 * k + 1:=by omega
   have n1 : w.heap.size + 1 ≠ w.heap.size:=by omega
   have HBr:=Lib.hid hb
   have HGr:=Lib.hid hg
   have HWr:=Lib.hid hbw
   have HGA : Hid (grpA a k=256 * x + y):=by rw [hx,hy]; rfl
   clear hb hg hbw hx hy
   go_wp2
   go_region_held3 (fun w'=>w'.cell? ⟨w.heap.size,2 * k,none⟩=some (.int .u8 (x : Int))∧w'.cell? ⟨w.heap.size,2 * k + 1,none⟩=some (.int .u8 (y : Int)))
    (first | exact ⟨c1,c2⟩ | exact ⟨(World.cell?_setCell_far _ _ _ _ n1).trans c1,(World.cell?_setCell_far _ _ _ _ n1).trans c2⟩ | fail) (fail)
   have HRK : Hid (R (.int .i64 ((k : Int) + 1)) (wr.setCell ⟨w.heap.size + 1,k,none⟩ (.int .i64 (256 * (x : Int) + (y : Int)))).drew):=by
    show R _ _
    rw [HR.out]
    have hk1:=KeepX.set (w.heap.size + 1) wr k (.int .i64 (256 * (x : Int) + (y : Int)))
    have hg1:=heap_setCell_any wr (w.heap.size + 1) k _ _ _ (.int .i64 (256 * (x : Int) + (y : Int))) HGr.out
    rw [show Value.int .i64 (256 * (x : Int) + (y : Int))=I (grpA a k) by rw [HGA.out]; simp [I],partG_set a hlt] at hg1
    have hb1 : Below w.heap.size w (wr.setCell ⟨w.heap.size + 1,k,none⟩ (.int .i64 (256 * (x : Int) + (y : Int)))):=HWr.out.trans (hk1.below (by omega) (heap_lt HGr.out))
    refine ⟨k + 1,by omega,by simp,(hk1.block _ (heap_lt HBr.out) (by omega)).trans HBr.out,?_,⟨hb1.os,hb1.tape,hb1.output,hb1.size,hb1.block⟩⟩
    rw [show Value.int .i64 (256 * (x : Int) + (y : Int))=I (grpA a k) by rw [HGA.out]; simp [I]]
    exact hg1
   clear c1 c2 c3 c4
   go_wp2
   go_roundw
   case rel=>exact HRK.out
   case measure=>simp [intOf]; omega
  ·have hk8 : k=8:=by omega
   subst hk8
   rw [partG_end] at hg
   have HROW:=Lib.hid hg
   have HBW2:=Lib.hid hbw
   clear hb hg hbw
   obtain ⟨G,hG⟩ : ∃ G,G=grpsA a:=⟨_,rfl⟩
   have HGL : Hid (G.length=8):=by rw [hG]; exact grpsA_len a
   have HGS : Hid (∀ j,G.getD j 0≤65535):=fun j=>by
    rw [hG]
    unfold grpsA
    rw [List.getD_eq_getElem?_getD,List.getElem?_map]
    cases (List.range 8)[j]? with
    | none=>simp
    | some i=>exact grpA_le a i
   rw [← hG] at HROW
   have HFM : Hid (form6 a=outN G (bestN G 8).1 (bestN G 8).2 8 [] 0):=by rw [hG]; rfl
   clear hG
   go_upto_block 2 with fail
   go_cut [5,6] (fun f m wx=>f=.int .i64 (atI (bestN G 8).1)∧m=.int .i64 ((bestN G 8).2 : Int)∧wx=wr)
   case first =>
    go_wp2
    go_loop [5,6,7] (fun f m i=>∃ k : Nat,k≤8∧i=.int .i64 k∧f=.int .i64 (atI (bestN G k).1)∧m=.int .i64 ((bestN G k).2 : Int)) (fun _ _ i=>8 - (intOf i).toNat)
    case atStart=>exact ⟨0,by omega,rfl,rfl,rfl⟩
    case round =>
     obtain ⟨k,hk,rfl,rfl,rfl⟩:=hrel
     by_cases hlt : k < 8
     ·have i1 : (k : Int) < 8:=by omega
      obtain ⟨hb1,hb2,hb3⟩:=bestN_le HGL.out k hk
      have hr8:=runN_le G k
      rw [HGL.out] at hr8
      obtain ⟨bf,hbf⟩ : ∃ bf,bf=atI (bestN G k).1:=⟨_,rfl⟩
      obtain ⟨bm,hbm⟩ : ∃ bm,bm=(bestN G k).2:=⟨_,rfl⟩
      obtain ⟨rn,hrn⟩ : ∃ rn,rn=runN G k:=⟨_,rfl⟩
      have HBF:=Lib.hid hbf
      have HBM:=Lib.hid hbm
      have HRN:=Lib.hid hrn
      rw [← hbf,← hbm]
      rw [← hbm] at hb1 hb2
      rw [← hrn] at hr8
      clear hb3 hbf hbm hrn
      go_upto_block 4 with fail
      go_cut [8] (fun n wx=>n=.int .i64 (rn : Int)∧wx=wr)
      case first =>
       go_wp2
       go_loop [8] (fun n=>∃ j : Nat,j≤rn∧n=.int .i64 j) (fun n=>8 - (intOf n).toNat)
       case atStart=>exact ⟨0,Nat.zero_le _,rfl⟩
       case round =>
        obtain ⟨j,hj,rfl⟩:=hrel
        have w1 : IntKind.i64.wrap ((k : Int) + (j : Int))=(k : Int) + (j : Int):=IntWalk.i64_in _ (by omega)
        have w2 : ((k : Int) + (j : Int)).toNat=k + j:=by omega
        have i0 : (0 : Int)≤(k : Int) + (j : Int):=by omega
        by_cases hjr : j < rn
        ·have hz : G.getD (k + j) 0=0:=by
          have:=runN_zero (G:=G) (i:=k) (n:=j) (by rw [← HRN.out]; exact hjr)
          rw [List.getD_eq_getElem?_getD,List.getElem?_eq_getElem (by rw [HGL.out]; omega)] at this ⊢
          simpa using this
         have hc:=row_cell HROW.out (j:=k + j) (by rw [HGL.out]; omega)
         rw [hz] at hc
         have i2 : (k : Int) + (j : Int) < 8:=by omega
         clear hz
         go_wp2
         go_round
         case rel=>exact ⟨j + 1,by omega,by go_num⟩
         case measure=>simp [intOf]; omega
        ·obtain rfl : j=rn:=by omega
         by_cases h8 : k + j < 8
         ·have hz : G.getD (k + j) 0 ≠ 0:=by
           rw [HRN.out]; exact runN_stop (by rw [← HRN.out,HGL.out]; exact h8)
          have hc:=row_cell HROW.out (j:=k + j) (by rw [HGL.out]; omega)
          generalize G.getD (k + j) 0=gz at hz hc
          have e1 : ((gz : Int) == 0)=false:=by rw [beq_eq_false_iff_ne]; omega
          have i2 : (k : Int) + (j : Int) < 8:=by omega
          go_wp2
          go_meet
          exact ⟨rfl,rfl⟩
         ·have i2 : ¬ (k : Int) + (j : Int) < 8:=by omega
          go_wp2
          go_meet
          exact ⟨rfl,rfl⟩
      case rest =>
       obtain ⟨rfl,rfl⟩:=hcut
       by_cases hgt : bm < rn
       ·have i2 : (bm : Int) < (rn : Int):=by omega
        have HN1 : Hid ((bestN G (k + 1)).1=some k∧(bestN G (k + 1)).2=rn):=by
         rw [bestN,if_pos (by rw [← HBM.out,← HRN.out]; exact hgt)]
         exact ⟨rfl,HRN.out.symm⟩
        clear hgt
        go_wp2
        go_round
        case rel=>exact ⟨k + 1,by omega,by go_num,by rw [HN1.out.1]; rfl,by rw [HN1.out.2]⟩
        case measure=>simp [intOf]; omega
       ·have i2 : ¬ (bm : Int) < (rn : Int):=by omega
        have HN1 : Hid (bestN G (k + 1)=bestN G k):=by
         show _=_
         rw [bestN,if_neg (by rw [← HBM.out,← HRN.out]; exact hgt)]
        clear hgt
        go_wp2
        go_round
        case rel=>exact ⟨k + 1,by omega,by go_num,by rw [HN1.out,HBF.out],by rw [HN1.out,HBM.out]⟩
        case measure=>simp [intOf]; omega
     ·have hk8 : k=8:=by omega
      subst hk8
      go_wp2
      go_meet
      exact ⟨rfl,rfl,rfl⟩
   case rest =>
    obtain ⟨rfl,rfl,rfl⟩:=hcut
    obtain ⟨hm1,hm2,hm3⟩:=bestN_le HGL.out 8 (by omega)
    generalize (bestN G 8).1=q at hm3 HFM
    generalize (bestN G 8).2=m at hm1 hm2 hm3 HFM
    have HM3:=Lib.hid hm3
    clear hm3
    obtain ⟨R2,hR2⟩ : ∃ R : Value→Value→World→Prop,R=fun s i wr=>∃ (f i0 : Nat) (T : ByteArray),i0≤8∧8≤f + i0∧i=.int .i64 (i0 : Int)∧s=.string T∧T.size≤5 * i0∧wr.heap[w.heap.size + 1]?=some (.cells (G.map I).toArray 3 (0,0))∧Below w.heap.size w wr∧Hid (form6 a=outN G q m f T.data.toList i0):=⟨_,rfl⟩
    have HR2:=Lib.hid hR2
    clear hR2
    go_wp2
    go_loopw [9,10] (fun s i wr=>R2 s i wr) (fun _ i _=>8 - (intOf i).toNat)
    case atStart=>rw [HR2.out]; exact ⟨8,0,⟨#[]⟩,by omega,by omega,rfl,rfl,Nat.zero_le _,HROW.out,HBW2.out,HFM.out⟩
    case round =>
     rw [HR2.out] at hrel
     obtain ⟨f,i0,T,hi8,hf,rfl,rfl,hT,hrow,hbw,hout⟩:=hrel
     by_cases hlt : i0 < 8
     ·obtain ⟨f,rfl⟩ : ∃ f',f=f' + 1:=⟨f - 1,by omega⟩
      have i1 : (i0 : Int) < 8:=by omega
      have HRW:=Lib.hid hrow
      have HBWr:=Lib.hid hbw
      by_cases hq : q=some i0
      ·have e1 : ((i0 : Int) == atI q)=true:=by rw [hq]; simp [atI]
       have hs8:=HM3.out i0 hq
       have HOUT : Hid (form6 a=outN G q m f (T++⟨#[58,58]⟩).data.toList (i0 + m)):=by
        refine hout.out.trans ?_
        rw [outN,if_pos hlt,if_pos hq,Joins.data_append]
       have hts : (T++(⟨#[58,58]⟩ : ByteArray)).size=T.size + 2:=by rw [ByteArray.size_append]; rfl
       clear hq hout hrow hbw
       go_wp2
       go_roundw
       case rel=>rw [HR2.out]; exact ⟨f,i0 + m,_,by omega,by omega,by go_num,rfl,by rw [hts]; omega,HRW.out,HBWr.out,HOUT.out⟩
       case measure=>simp [intOf]; omega
      ·have e1 : ((i0 : Int) == atI q)=false:=by
        rw [beq_eq_false_iff_ne]
        intro h
        apply hq
        cases q with
        | none=>have h' : (i0 : Int)=-1:=h; omega
        | some b=>have h' : (i0 : Int)=(b : Int):=h; rw [show b=i0 by omega]
       obtain ⟨gv,hgv⟩ : ∃ gv,gv=G.getD i0 0:=⟨_,rfl⟩
       have hgs : gv≤65535:=by rw [hgv]; exact HGS.out i0
       have hc:=row_cell hrow (j:=i0) (by rw [HGL.out]; exact hlt)
       rw [← hgv] at hc
       have i0' : (0 : Int)≤(i0 : Int):=by omega
       have HHX:=Lib.hid (rHex gv (by omega) wr)
       have HXL:=Lib.hid (hexD_len gv hgs)
       obtain ⟨T2,hT2⟩ : ∃ T2 : ByteArray,T2=(if T.data.toList ≠ []∧T.data.toList.getLastD 0 ≠ 58 then T++⟨#[58]⟩ else T):=⟨_,rfl⟩
       have HOUT : Hid (form6 a=outN G q m f (T2++⟨(hexD gv).toArray⟩).data.toList (i0 + 1)):=by
        refine hout.out.trans ?_
        rw [outN,if_pos hlt,if_neg hq,Joins.data_append,← hgv,hT2]
        split <;> first | rfl | (simp [Joins.data_append]; done) | rw [Joins.data_append]
       have hsz2 : T2.size≤T.size + 1:=by
        rw [hT2]; split
        ·rw [ByteArray.size_append]; exact Nat.le_refl _
        ·omega
       have HT2:=Lib.hid hT2
       clear hq hout hrow hbw hT2 hgv
       obtain ⟨cb,hcb⟩ : ∃ cb,cb=decide (T.data.toList ≠ []∧T.data.toList.getLastD 0 ≠ 58):=⟨_,rfl⟩
       have HCB:=Lib.hid hcb
       have HT3 : Hid (T2=if cb=true then T++⟨#[58]⟩ else T):=by
        refine HT2.out.trans ?_
        rw [hcb]; simp
       clear hcb HT2
       go_upto_region 24 with fail
       go_cut [78] (fun c wx=>c=.bool cb∧wx=wr)
       case first =>
        by_cases h0 : T.size=0
        ·obtain rfl:=str_empty h0
         have HE : Hid (cb=false):=HCB.out.trans (by simp)
         go_wp2
         go_meet
         exact ⟨by rw [HE.out],rfl⟩
        ·obtain ⟨q1,q2⟩:=str_ne h0
         have q3 : (T.toList == [])=false:=by rw [beq_eq_false_iff_ne]; exact q2
         have q4 : (T.toList != [])=true:=by rw [bne_iff_ne]; exact q2
         have hlast : T.data.toList.getLastD 0=T[T.size - 1]'(by omega):=by
          have h1:=str_get T (T.size - 1) (by omega)
          rw [← h1,List.getLastD_eq_getLast?,List.getLast?_eq_getElem?,List.getD_eq_getElem?_getD,str_len]
         have i5 : (0 : Int)≤(T.size : Int) - 1:=by omega
         have i6 : ((T.size : Int) - 1).toNat=T.size - 1:=by omega
         have HE : Hid (cb=decide (T[T.size - 1]'(by omega) ≠ 58)):=by
          refine HCB.out.trans ?_
          rw [hlast]
          have : T.data.toList ≠ []:=fun h=>h0 (by rw [← str_len,h]; rfl)
          simp [this]
         clear hlast
         by_cases h58 : T[T.size - 1]'(by omega)=58
         ·have e8 : (((T[T.size - 1]'(by omega)).toNat : Int) != 58)=false:=by rw [h58]; rfl
          have HE2 : Hid (cb=false):=by refine HE.out.trans ?_; simp [h58]
          clear HE h58
          go_wp2
          go_meet
          exact ⟨by rw [HE2.out],rfl⟩
         ·have e8 : (((T[T.size - 1]'(by omega)).toNat : Int) != 58)=true:=by rw [bne_iff_ne]; intro h; exact h58 (UInt8.toNat_inj.1 (by show _=58; omega))
          have HE2 : Hid (cb=true):=by refine HE.out.trans ?_; simp [h58]
          clear HE h58
          go_wp2
          go_meet
          exact ⟨by rw [HE2.out],rfl⟩
       case rest =>
        obtain ⟨rfl,hwc⟩:=hcut
        have hwc':=hwc.symm
        subst hwc'
        cases cb with
        | true =>
         have hT3 : T2=T++⟨#[58]⟩:=HT3.out
         subst hT3
         go_wp2_with (go_at_call 91; refine HHX.out.mono ?_; rintro e w5 ⟨rfl,b5⟩; refine Hid.out ?_)
         refine Lib.hid ?_
         have HR5 : Hid (w5.heap[w.heap.size + 1]?=some (.cells (G.map I).toArray 3 (0,0))):=(b5.block _ (heap_lt HRW.out)).trans HRW.out
         have HB5 : Hid (Below w.heap.size w w5):=HBWr.out.trans (b5.mono HBWr.out.size)
         have hxl:=HXL.out
         have hts : (T++⟨#[58]⟩++(⟨(hexD gv).toArray⟩ : ByteArray)).size=(T++⟨#[58]⟩).size + (hexD gv).length:=by rw [ByteArray.size_append,show (⟨(hexD gv).toArray⟩ : ByteArray).size=(hexD gv).length by show (hexD gv).toArray.size=_; simp]
         have HXZ : Hid ((T++⟨#[58]⟩++(⟨(hexD gv).toArray⟩ : ByteArray)).size≤5 * (i0 + 1)):=by show _≤_; rw [hts]; omega
         have hxs : (⟨(hexD gv).toArray⟩ : ByteArray).size≤4:=by show (hexD gv).toArray.size≤4; simpa using hxl
         generalize (⟨(hexD gv).toArray⟩ : ByteArray)=HX at HOUT HXZ hxs
         have HRR : Hid (R2 (.string (T++⟨#[58]⟩++HX)) (.int .i64 ((i0 : Int) + 1)) w5):=by
          show R2 _ _ _
          rw [HR2.out]
          exact ⟨f,i0 + 1,_,by omega,by omega,by simp,rfl,HXZ.out,HR5.out,HB5.out,HOUT.out⟩
         clear b5 hts hxl
         go_wp2
         go_roundw
         case rel =>
          (repeat apply Exists.intro)
          exact ⟨HRR.out,rfl⟩
         case measure=>simp [intOf]; omega
        | false =>
         have hT3 : T2=T:=HT3.out
         subst hT3
         go_wp2_with (go_at_call 91; refine HHX.out.mono ?_; rintro e w5 ⟨rfl,b5⟩; refine Hid.out ?_)
         refine Lib.hid ?_
         have HR5 : Hid (w5.heap[w.heap.size + 1]?=some (.cells (G.map I).toArray 3 (0,0))):=(b5.block _ (heap_lt HRW.out)).trans HRW.out
         have HB5 : Hid (Below w.heap.size w w5):=HBWr.out.trans (b5.mono HBWr.out.size)
         have hxl:=HXL.out
         have hts : (T2++(⟨(hexD gv).toArray⟩ : ByteArray)).size=(T2).size + (hexD gv).length:=by rw [ByteArray.size_append,show (⟨(hexD gv).toArray⟩ : ByteArray).size=(hexD gv).length by show (hexD gv).toArray.size=_; simp]
         have HXZ : Hid ((T2++(⟨(hexD gv).toArray⟩ : ByteArray)).size≤5 * (i0 + 1)):=by show _≤_; rw [hts]; omega
         have hxs : (⟨(hexD gv).toArray⟩ : ByteArray).size≤4:=by show (hexD gv).toArray.size≤4; simpa using hxl
         generalize (⟨(hexD gv).toArray⟩ : ByteArray)=HX at HOUT HXZ hxs
         have HRR : Hid (R2 (.string (T2++HX)) (.int .i64 ((i0 : Int) + 1)) w5):=by
          show R2 _ _ _
          rw [HR2.out]
          exact ⟨f,i0 + 1,_,by omega,by omega,by simp,rfl,HXZ.out,HR5.out,HB5.out,HOUT.out⟩
         clear b5 hts hxl
         go_wp2
         go_roundw
         case rel =>
          (repeat apply Exists.intro)
          exact ⟨HRR.out,rfl⟩
         case measure=>simp [intOf]; omega
     ·have hfin : Hid (form6 a=T.data.toList):=by
       refine hout.out.trans ?_
       cases f with
       | zero=>rfl
       | succ f=>rw [outN,if_neg hlt]
      have i1 : ¬ (i0 : Int) < 8:=by omega
      have HBWr:=Lib.hid hbw
      clear hrow hbw hout
      go_wp2
      go_ret
      exact ⟨by rw [hfin.out]; rfl,HBWr.out⟩
end Go.Proofs.YtghnopkgcgfcpaaGreatDoor.Cidr
set_option maxHeartbeats 16000000
set_option maxRecDepth 100000
namespace Go.Proofs.YtghnopkgcgfcpaaGreatDoor.Cidr
open Go.RowKit Base
def fourA (a : List UInt8) : Nat→List UInt8
 | 0=>[]
 | k + 1=>(fourA a k++(if 0 < k then [46] else []))++Lib.decDigits (a.getD k 0).toNat
def addrS (n : NetM) : List UInt8:=if n.six=true then form6 n.a else fourA n.a 4
def showN (n : NetM) : Option (List UInt8):=if rightN n=true then some (if n.bits=sizeN n.six then addrS n else (addrS n++[47])++Lib.decDigits n.bits.toNat) else none
theorem dec_len0 : ∀ (k n : Nat),n < 10 ^ (k + 1)→(Lib.decDigits n).length≤k + 1
 | 0,n,h=>by rw [Lib.decDigits,dif_pos (by omega)]; simp
 | k + 1,n,h=>by
  rw [Lib.decDigits]
  split
  ·simp
  ·have:=dec_len0 k (n / 10) (by rw [Nat.pow_succ] at h; omega)
   simp; omega
theorem outN_len {G : List Nat} (hG : ∀ j,G.getD j 0≤65535) (o : Option Nat) (m : Nat) : ∀ (f : Nat) (s : List UInt8) (i : Nat),(outN G o m f s i).length≤s.length + 5 * f
 | 0,s,i=>by simp [outN]
 | f + 1,s,i=>by
  rw [outN]
  split
  ·split
   ·have:=outN_len hG o m f (s++[58,58]) (i + m)
    simp at this; omega
   ·have h1:=hexD_len _ (hG i)
    refine Nat.le_trans (outN_len hG o m f _ (i + 1)) ?_
    rw [List.length_append]
    have : (if s ≠ []∧s.getLastD 0 ≠ 58 then s++[58] else s).length≤s.length + 1:=by split <;> simp
    omega
  ·omega
theorem grpsA_le (a : List UInt8) (j : Nat) : (grpsA a).getD j 0≤65535:=by
 unfold grpsA
 rw [List.getD_eq_getElem?_getD,List.getElem?_map]
 cases (List.range 8)[j]? with
 | none=>simp
 | some i=>exact grpA_le a i
theorem form6_len (a : List UInt8) : (form6 a).length≤40:=by
 have:=outN_len (grpsA_le a) (bestN (grpsA a) 8).1 (bestN (grpsA a) 8).2 8 [] 0
 simpa [form6] using this
theorem fourA_len (a : List UInt8) : ∀ (k : Nat),(fourA a k).length≤4 * k
 | 0=>by simp [fourA]
 | k + 1=>by
  have h1:=fourA_len a k
  have h2:=dec_len0 2 (a.getD k 0).toNat (by have:=(a.getD k 0).toNat_lt; omega)
  unfold fourA
  rw [List.length_append,List.length_append]
  have : (if 0 < k then [(46 : UInt8)] else []).length≤1:=by split <;> simp
  omega
theorem addrS_len (n : NetM) : (addrS n).length≤40:=by
 unfold addrS
 split
 ·exact form6_len _
 ·have:=fourA_len n.a 4; omega
def ShowEnd (o : Option (List UInt8)) (w : World) (e : Ending) (w' : World) : Prop :=
 Below w.heap.size w w'∧((o=none∧e=.returned (.tuple #[.string ⟨#[]⟩,.int .i64 70]))∨∃ l,o=some l∧e=.returned (.tuple #[S l,.int .i64 0]))
theorem rShow (n : NetM) (ha : n.a.length=16) (w : World) : Calls Tryz.prog 25 #[netV n] w (ShowEnd (showN n) w):=by
 obtain ⟨o,ho⟩ : ∃ o,o=showN n:=⟨_,rfl⟩
 rw [← ho]
 unfold showN at ho
 have hnb:=fun h=>rightN_bits (n:=n) h
 have HRI:=Lib.hid (fun wx=>rRight n ha wx)
 have HA:=Lib.hid ha
 have HN0:=Lib.hid (NetAt.new w n)
 have HB0:=Lib.hid (Below.alloc1 w (.cells (netC n) 70))
 have HS:=Lib.hid (size25_of ha)
 generalize rightN n=r at ho hnb HRI
 have HO:=Lib.hid ho
 clear ho ha
 go_enter Tryz.func25,Tryz.ntmps25
 go_wp2_with (first | (refine wpList_load_mid rfl 70 (.tmp 1) rfl w.heap.size 0 rfl (netL n) _ HN0.out.range0 Tryz.underlying70 rfl HS.out ?_) | (go_at_call 57; refine (HRI.out _).mono ?_; rintro e w1 ⟨rfl,b1⟩; refine Hid.out ?_) | fail)
 refine Lib.hid ?_
 have HN1:=Lib.hid (HN0.out.on b1)
 have HB1 : Hid (Below w.heap.size w w1):=HB0.out.trans (b1.mono HB0.out.size)
 clear b1
 cases r with
 | false =>
  have HNO : Hid (o=none):=HO.out
  go_wp2
  go_ret2
  exact ⟨HB1.out,Or.inl ⟨HNO.out,rfl⟩⟩
 | true =>
  obtain ⟨hb0,hb1⟩:=hnb rfl
  have HYES : Hid (o=some (if n.bits=sizeN n.six then addrS n else (addrS n++[47])++Lib.decDigits n.bits.toNat)):=HO.out
  clear hnb HO
  have hsix:=HN1.out.six
  obtain ⟨T,hT⟩ : ∃ T : ByteArray,T=⟨(addrS n).toArray⟩:=⟨_,rfl⟩
  have HT:=Lib.hid hT
  clear hT
  go_upto_if 12 with fail
  go_cut [5] (fun s wx=>s=.string T∧Below w1.heap.size w1 wx∧T.size≤100)
  case first =>
   cases h6 : n.six with
   | true =>
    have HF:=Lib.hid (rForm6 n.a HA.out w1)
    have HRG:=Lib.hid HN1.out.range
    have HS23:=Lib.hid (size23_of HA.out)
    rw [h6] at hsix
    have HE : Hid ((⟨(form6 n.a).toArray⟩ : ByteArray)=T):=by
     show _=_
     rw [HT.out]; unfold addrS; rw [if_pos h6]
    have HL : Hid (T.size≤100):=by
     have:=form6_len n.a
     show T.size≤100
     rw [← HE.out,arr_size]; omega
    clear h6
    go_wp2_with (first | (refine wpList_load_mid rfl 68 (.tmp 13) rfl w.heap.size 2 rfl (n.a.map B8) _ HRG.out Tryz.underlying68 rfl HS23.out ?_) | (go_at_call 58; refine HF.out.mono ?_; rintro e w2 ⟨rfl,b2⟩; refine Hid.out ?_) | fail)
    refine Lib.hid ?_
    have B2:=Lib.hid b2
    clear b2
    go_wp2
    go_meet
    exact ⟨by rw [← HE.out],B2.out,HL.out⟩
   | false =>
    rw [h6] at hsix
    have HE : Hid ((⟨(fourA n.a 4).toArray⟩ : ByteArray)=T):=by
     show _=_
     rw [HT.out]; unfold addrS; rw [if_neg (by rw [h6]; simp)]
    have HL : Hid (T.size≤100):=by
     have:=fourA_len n.a 4
     show T.size≤100
     rw [← HE.out,arr_size]; omega
    clear h6
    obtain ⟨R,hR⟩ : ∃ R : Value→Value→World→Prop,R=fun s i wr=>∃ (k : Nat) (U : ByteArray),k≤4∧i=.int .i64 (k : Int)∧s=.string U∧U.data.toList=fourA n.a k∧NetAt wr w.heap.size n∧Below w1.heap.size w1 wr:=⟨_,rfl⟩
    have HR:=Lib.hid hR
    clear hR
    go_wp2
    go_loopw [5,6] (fun s i wr=>R s i wr) (fun _ i _=>4 - (intOf i).toNat)
    case atStart=>rw [HR.out]; exact ⟨0,⟨#[]⟩,by omega,rfl,rfl,rfl,HN1.out,Below.refl _ _⟩
    case round =>
     rw [HR.out] at hrel
     obtain ⟨k,U,hk,rfl,rfl,hU,hat,hbw⟩:=hrel
     by_cases hlt : k < 4
     ·obtain ⟨c1,_⟩:=hat.cellA (k:=k) (by rw [HA.out]; omega)
      have hx:=(n.a.getD k 0).toNat_lt
      have hul : U.size≤16:=by rw [← str_len,hU]; have:=fourA_len n.a k; omega
      obtain ⟨x,hx1⟩ : ∃ x,x=(n.a.getD k 0).toNat:=⟨_,rfl⟩
      rw [← hx1] at c1 hx
      have HX:=Lib.hid hx1
      have HD:=Lib.hid (rDigits_any x (by omega) wr)
      have hdl:=dec_len0 2 x (by omega)
      have HUU:=Lib.hid hU
      have HAT:=Lib.hid hat
      have HBR:=Lib.hid hbw
      have i1 : (k : Int) < 4:=by omega
      have i0 : (0 : Int)≤(k : Int):=by omega
      have i2 : IntKind.i64.wrap (x : Int)=(x : Int):=IntWalk.i64_in _ (by omega)
      clear hx1 hU hat hbw
      by_cases hk0 : k=0
      ·have i3 : ¬ (0 : Int) < (k : Int):=by omega
       have HO5 : Hid ((U++(⟨(Lib.decDigits x).toArray⟩ : ByteArray)).data.toList=fourA n.a (k + 1)):=by
        show _=_
        rw [Joins.data_append,fourA,← HX.out]
        rw [HUU.out,if_neg (by omega),List.append_nil]
       have hds : (⟨(Lib.decDigits x).toArray⟩ : ByteArray).size≤3:=by rw [arr_size]; exact hdl
       generalize (⟨(Lib.decDigits x).toArray⟩ : ByteArray)=DX at HD HO5 hds
       clear hk0
       go_wp2_with (go_at_call 59; refine HD.out.mono ?_; rintro e w5 ⟨rfl,b5⟩; refine Hid.out ?_)
       refine Lib.hid ?_
       have HRR : Hid (R (.string (U++DX)) (.int .i64 ((k : Int) + 1)) w5):=by
        show R _ _ _
        rw [HR.out]
        exact ⟨k + 1,_,by omega,by simp,rfl,HO5.out,HAT.out.on b5,HBR.out.trans (b5.mono HBR.out.size)⟩
       clear b5
       go_wp2
       go_roundw
       case rel=>exact HRR.out
       case measure=>simp [intOf]; omega
      ·have i3 : (0 : Int) < (k : Int):=by omega
       have hus : (U++(⟨#[46]⟩ : ByteArray)).size=U.size + 1:=by rw [ByteArray.size_append]; rfl
       have HO5 : Hid ((U++⟨#[46]⟩++(⟨(Lib.decDigits x).toArray⟩ : ByteArray)).data.toList=fourA n.a (k + 1)):=by
        show _=_
        rw [Joins.data_append,fourA,← HX.out]
        rw [Joins.data_append,HUU.out,if_pos (by omega)]
       have hds : (⟨(Lib.decDigits x).toArray⟩ : ByteArray).size≤3:=by rw [arr_size]; exact hdl
       generalize (⟨(Lib.decDigits x).toArray⟩ : ByteArray)=DX at HD HO5 hds
       clear hk0
       go_wp2_with (go_at_call 59; refine HD.out.mono ?_; rintro e w5 ⟨rfl,b5⟩; refine Hid.out ?_)
       refine Lib.hid ?_
       have HRR : Hid (R (.string (U++⟨#[46]⟩++DX)) (.int .i64 ((k : Int) + 1)) w5):=by
        show R _ _ _
        rw [HR.out]
        exact ⟨k + 1,_,by omega,by simp,rfl,HO5.out,HAT.out.on b5,HBR.out.trans (b5.mono HBR.out.size)⟩
       clear b5
       go_wp2
       go_roundw
       case rel=>exact HRR.out
       case measure=>simp [intOf]; omega
     ·obtain rfl : k=4:=by omega
      have HBR:=Lib.hid hbw
      have HU4 : Hid (U=T):=by
       show _=_
       rw [← HE.out,← hU]
      have i1 : ¬ ((4 : Nat) : Int) < 4:=by omega
      clear hU hat hbw
      go_wp2
      go_meet
      exact ⟨by rw [HU4.out],HBR.out,HL.out⟩
  case rest =>
   obtain ⟨rfl,hbc,hTl⟩:=hcut
   have hn:=HN1.out.on hbc
   have hs0:=hn.six
   have hb:=hn.bits
   have HBC : Hid (Below w.heap.size w wc):=HB1.out.trans (hbc.mono HB1.out.size)
   have HSZ:=Lib.hid (fun wx=>rSize n.six wx)
   rw [show (if n.six=true then (128 : Int) else 32)=sizeN n.six from rfl] at HSZ
   generalize sizeN n.six=sz at HSZ HYES
   have HNN:=Lib.hid hn
   clear hn hbc hsix
   by_cases he : n.bits=sz
   ·have e1 : (n.bits == sz)=true:=by rw [he]; simp
    have HY2 : Hid (o=some (addrS n)):=by have:=HYES.out; rw [if_pos he] at this; exact this
    clear he
    have HST : Hid (Below wc.heap.size wc wc.drew∧wc.drew.cell? ⟨w.heap.size,0,none⟩=some (.bool n.six)∧wc.drew.cell? ⟨w.heap.size,1,none⟩=some (.int .i64 n.bits)):=⟨⟨rfl,rfl,rfl,Nat.le_refl _,fun _ _=>rfl⟩,hs0,hb⟩
    go_wp2
    go_region_held3 (fun w'=>Below wc.heap.size wc w'∧w'.cell? ⟨w.heap.size,0,none⟩=some (.bool n.six)∧w'.cell? ⟨w.heap.size,1,none⟩=some (.int .i64 n.bits))
     (first | exact HST.out | assumption | fail)
     (first | (go_at_call 60; refine (HSZ.out _).mono ?_; rintro e wn ⟨rfl,rfl⟩) | fail)
    go_wp2
    go_ret2
    exact ⟨⟨HBC.out.os,HBC.out.tape,HBC.out.output,HBC.out.size,HBC.out.block⟩,Or.inr ⟨_,HY2.out,by rw [HT.out]; rfl⟩⟩
   ·have e1 : (n.bits == sz)=false:=by rw [beq_eq_false_iff_ne]; exact he
    have HY2 : Hid (o=some ((addrS n++[47])++Lib.decDigits n.bits.toNat)):=by have:=HYES.out; rw [if_neg he] at this; exact this
    obtain ⟨m,hm⟩:=Int.eq_ofNat_of_zero_le hb0
    have HD:=Lib.hid (fun wx=>rDigits_any m (by omega) wx)
    have hdl:=dec_len0 2 m (by omega)
    have hds : (⟨(Lib.decDigits m).toArray⟩ : ByteArray).size≤3:=by rw [arr_size]; exact hdl
    have hts : (T++(⟨#[47]⟩ : ByteArray)).size=T.size + 1:=by rw [ByteArray.size_append]; rfl
    have HFIN : Hid ((T++⟨#[47]⟩)++(⟨(Lib.decDigits m).toArray⟩ : ByteArray)=⟨((addrS n++[47])++Lib.decDigits n.bits.toNat).toArray⟩):=by
     show _=_
     apply ByteArray.ext
     apply Array.toList_inj.1
     rw [Joins.data_append,Joins.data_append,HT.out,hm]
     simp
    rw [hm] at hb e1
    generalize (⟨(Lib.decDigits m).toArray⟩ : ByteArray)=DX at HD hds HFIN
    clear he hdl hm
    have HST : Hid (Below wc.heap.size wc wc.drew∧wc.drew.cell? ⟨w.heap.size,0,none⟩=some (.bool n.six)∧wc.drew.cell? ⟨w.heap.size,1,none⟩=some (.int .i64 (m : Int))):=⟨⟨rfl,rfl,rfl,Nat.le_refl _,fun _ _=>rfl⟩,hs0,hb⟩
    go_wp2
    go_region_held3 (fun w'=>Below wc.heap.size wc w'∧w'.cell? ⟨w.heap.size,0,none⟩=some (.bool n.six)∧w'.cell? ⟨w.heap.size,1,none⟩=some (.int .i64 (m : Int)))
     (first | exact HST.out | assumption | fail)
     (first | (go_at_call 60; refine (HSZ.out _).mono ?_; rintro e wn ⟨rfl,rfl⟩) | fail)
    go_wp2_with (go_at_call 59; refine (HD.out _).mono ?_; rintro e w5 ⟨rfl,b5⟩; refine Hid.out ?_)
    refine Lib.hid ?_
    have HB5:=Lib.hid (HBC.out.trans (Below.mono (show Below wc.heap.size wc w5 from (show Below wc.heap.size wc wc.drew from ⟨rfl,rfl,rfl,Nat.le_refl _,fun _ _=>rfl⟩).trans b5) HBC.out.size))
    clear b5
    go_wp2
    go_ret2
    exact ⟨HB5.out,Or.inr ⟨_,HY2.out,by rw [HFIN.out]; rfl⟩⟩
end Go.Proofs.YtghnopkgcgfcpaaGreatDoor.Cidr
set_option maxHeartbeats 16000000
set_option maxRecDepth 100000
namespace Go.Proofs.YtghnopkgcgfcpaaGreatDoor.Cidr
open Go.RowKit Base
structure EnvS (w : World) : Prop where
 env : Env w
 tz : Tz w
theorem EnvS.on {w w' : World} (h : EnvS w) (hb : Below w.heap.size w w') : EnvS w':=⟨h.env.on hb,h.tz.on hb⟩
theorem wp_append_s {w0 : World} {ops : Array Oper} {rest : List Oper} {o : Oper} {a : Act} {Q : Exit→Act→World→Prop} (hgd : o.guard=none) (s y : Operand)
  (ho : o.op=.call { callee:=.builtin .append,args:=#[s,y],argTypes:=#[22,22] })
  (B : Nat) (v : Value) (ls : List (List UInt8)) (l : List UInt8) (hs : a.eval s=v) (hx : a.eval y=.slice (some ⟨w0.heap.size,0,none⟩) 1 1) (hown : OwnsS w0 B v ls) (hl : ls.length≤1000) (hB : B≤w0.heap.size)
  (h : ∀ v' w',OwnsS w' B v' (ls++[l])→Below B w0 w'→wpList Tryz.prog ops Q rest (a.put o.dst v') w') : wpList Tryz.prog ops Q (o :: rest) a (w0.alloc (.cells #[S l] 9)):=by
 obtain ⟨i0,hi0,hz0,hz1,hz2⟩:=info_parts info9
 refine wpList_append_row _ hgd s y 22 ho B 9 i0 (.string ⟨#[]⟩) 16 Tryz.underlying22 hi0 hz0 hz1 hz2 rfl v _ ls.length (ls.map S) [S l] hs hx (World.ownsRow.alloc hown _) (vreads_one _ _ _) (one_str _) (by rw [List.length_singleton]; omega) (by rw [List.length_singleton]; omega) (Nat.le_trans hB (Below.alloc1 w0 _).size) (fun v' w' o2 g2 a2=>?_)
 refine h v' w' ?_ (((Below.refl B w0).alloc hB _).grown g2 (Nat.le_trans hB (Below.alloc1 w0 _).size) (fun j hj=>(World.ownsRow.lt hown j hj).1))
 unfold OwnsS
 rw [List.map_append,List.length_append]
 exact o2
theorem pJoin (B : Nat) (v : Value) (ls : List (List UInt8)) (c : UInt8) (w : World) (h : OwnsS w B v ls) (hl : ls.length≤1000) (hlen : (Lib.join ls [c]).length≤100000) : Calls Tryz.prog 180 #[v,.string ⟨#[c]⟩] w fun e w'=>e=.returned (S (Lib.join ls [c]))∧Below w.heap.size w w':=by
 rcases h.2 with ⟨rfl,hn⟩ | ⟨g,cap,cur,rfl,h1,h2,h3,h4,h5,h6⟩
 ·have : ls=[]:=List.eq_nil_of_length_eq_zero hn
  subst this
  refine (Tryz.strings_Join_none none 0 ⟨#[c]⟩ w).mono ?_
  rintro e w' ⟨rfl,rfl⟩
  exact ⟨rfl,Below.refl _ _⟩
 ·obtain ⟨xs,rfl⟩ : ∃ xs : List ByteArray,ls=xs.map (·.data.toList):=⟨ls.map fun l=>⟨l.toArray⟩,by rw [List.map_map]; exact (List.map_id ls).symm⟩
  have hc:=fun (j : Nat) (x : List UInt8) hx=>OwnsS.cell (ls:=xs.map (·.data.toList)) (i:=j) (x:=x) h hx
  have:=Tryz.strings_Join g 0 cap xs ⟨#[c]⟩ w (fun j x hx=>by
   obtain ⟨b,hb,hcell⟩:=hc j x.data.toList (by rw [List.getElem?_map,hx]; rfl)
   cases hb
   rw [Nat.zero_add,hcell]) (heap_lt h2) (by simp at hl; omega) (by simpa using h3) (by
    have e : (⟨#[c]⟩ : ByteArray).data.toList=[c]:=rfl
    rw [e]; omega)
  rw [show (xs.map (·.data.toList)).length=xs.length by simp]
  exact this
theorem dec_len3 (x : UInt8) : (Lib.decDigits x.toNat).length≤3:=dec_len0 2 _ (by have:=x.toNat_lt; omega)
theorem four_join (a : List UInt8) : Lib.join ((List.range 4).map fun i=>Lib.decDigits (a.getD i 0).toNat) [46]=fourA a 4:=by
 rw [show List.range 4=[0,1,2,3] from rfl]
 simp only [List.map_cons,List.map_nil,fourA]
 rw [Lib.join_cons]
 simp [Lib.joinTail]
theorem itoa_nat (n : Nat) : Lib.itoa (n : Int)=Lib.decDigits n:=by unfold Lib.itoa; rw [if_neg (by omega),Int.toNat_natCast]
theorem pItoa (n : Nat) (hn : n≤9223372036854775807) (w : World) (he : Env w) : Calls Tryz.prog 179 #[.int .i64 (n : Int)] w fun e w'=>e=.returned (S (Lib.decDigits n))∧Below w.heap.size w w':=by
 refine (Tryz.strconv_Itoa (n : Int) (by omega) (by omega) w he.pow).mono ?_
 rintro e w' ⟨rfl,k,os,rfl⟩
 exact ⟨by rw [itoa_nat],Lib.below_grow _ w (Nat.le_refl _) k os⟩
theorem pFormFour (a : List UInt8) (ha : a.length=16) (w : World) (he : Env w) : Calls Tryz.prog 135 #[.agg (a.map B8).toArray] w fun e w'=>e=.returned (S (fourA a 4))∧Below w.heap.size w w':=by
 have HA:=Lib.hid ha
 have H0:=Lib.hid (AddrAt.new w a)
 have HB0:=Lib.hid (Below.alloc1 w (.cells (a.map B8).toArray 68))
 have HE0:=Lib.hid (he.on HB0.out)
 have hs4 : (Instr.sliceAt 68 (.pointer (some ⟨w.heap.size,0,none⟩)) none (some (.int .i64 4)) none).run Tryz.prog (w.alloc (.cells (a.map B8).toArray 68))=.ok (.slice (some ⟨w.heap.size,0,none⟩) 4 16) (w.alloc (.cells (a.map B8).toArray 68)):=by kernel_rfl
 obtain ⟨w0,hw0⟩ : ∃ w0,w0=w.alloc (.cells (a.map B8).toArray 68):=⟨_,rfl⟩
 rw [← hw0] at H0 HB0 HE0
 obtain ⟨R,hR⟩ : ∃ R : Value→Value→World→Prop,R=fun v i wr=>∃ k : Nat,k≤4∧i=.int .i64 (k : Int)∧OwnsS wr w0.heap.size v ((List.range k).map fun i=>Lib.decDigits (a.getD i 0).toNat)∧Below w0.heap.size w0 wr:=⟨_,rfl⟩
 have HR:=Lib.hid hR
 have HW0:=Lib.hid hw0
 clear hR hw0 he ha
 go_enter Tryz.func135,Tryz.ntmps135
 go_wp2
 go_loopw [3,8] (fun v i wr=>R v i wr) (fun _ i _=>4 - (intOf i).toNat)
 case atStart =>
  rw [HR.out]
  exact ⟨0,by omega,rfl,World.ownsRow_nil _ _ _ _,by rw [HW0.out]; exact Below.refl _ _⟩
 case round =>
  rw [HR.out] at hrel
  obtain ⟨k,hk,rfl,hown,hbw⟩:=hrel
  have HOW:=Lib.hid hown
  have HBW:=Lib.hid hbw
  by_cases hlt : k < 4
  ·have i1 : (k : Int) < 4:=by omega
   have i0 : (0 : Int)≤(k : Int):=by omega
   obtain ⟨c1,_⟩:=(H0.out.on hbw).cell (k:=k) (by rw [HA.out]; omega)
   have hx:=(a.getD k 0).toNat_lt
   have HDL:=Lib.hid (dec_len3 (a.getD k 0))
   have HNX : Hid ((List.range (k + 1)).map (fun i=>Lib.decDigits (a.getD i 0).toNat)=(List.range k).map (fun i=>Lib.decDigits (a.getD i 0).toNat)++[Lib.decDigits (a.getD k 0).toNat]):=by
    show _=_
    rw [List.range_succ,List.map_append]; rfl
   have HE1:=Lib.hid (HE0.out.on hbw)
   obtain ⟨z,hz⟩ : ∃ z,z=(a.getD k 0).toNat:=⟨_,rfl⟩
   rw [← hz] at c1 hx HDL HNX
   have HI:=Lib.hid (pItoa z (by omega) wr HE1.out)
   have HLS : Hid (((List.range k).map (fun i=>Lib.decDigits (a.getD i 0).toNat)).length≤1000):=by show _≤_; simp; omega
   generalize (List.range k).map (fun i=>Lib.decDigits (a.getD i 0).toNat)=ls at hown HOW HNX HLS
   obtain ⟨oa,oc,rfl,hoc⟩:=hown.form
   clear hown hbw hz
   go_wp2_with (first | (go_at_call 179; refine HI.out.mono ?_; rintro e w2 ⟨rfl,b2⟩; refine Hid.out ?_) | fail)
   refine Lib.hid ?_
   have HO2:=Lib.hid (HOW.out.on b2)
   have HB2:=Lib.hid (HBW.out.trans (b2.mono HBW.out.size))
   clear b2
   go_wp2_with (at_builtin; go_must (refine wp_append_s rfl _ _ rfl w0.heap.size (.slice oa ls.length oc) ls (Lib.decDigits z) rfl rfl HO2.out HLS.out HB2.out.size ?_); intro v3 w3 o3 b3; refine Hid.out ?_)
   refine Lib.hid ?_
   have HFIN : Hid (R v3 (.int .i64 ((k : Int) + 1)) w3):=by
    show R _ _ _
    rw [HR.out]
    exact ⟨k + 1,by omega,by simp,by rw [HNX.out]; exact o3,HB2.out.trans b3⟩
   clear o3 b3
   go_wp2
   go_roundw
   case rel=>exact HFIN.out
   case measure=>simp [intOf]; omega
  ·obtain rfl : k=4:=by omega
   have i1 : ¬ ((4 : Nat) : Int) < 4:=by omega
   have hjl : (Lib.join ((List.range 4).map fun i=>Lib.decDigits (a.getD i 0).toNat) [46]).length≤100000:=by rw [four_join]; have:=fourA_len a 4; omega
   have HJ:=Lib.hid (pJoin w0.heap.size _ _ 46 wr hown (by simp) hjl)
   rw [four_join] at HJ
   have HBF : Hid (Below w.heap.size w wr):=HB0.out.trans (hbw.mono HB0.out.size)
   clear hown hbw hjl HOW
   go_wp2_with (first | (go_at_call 180; refine HJ.out.mono ?_; rintro e w2 ⟨rfl,b2⟩; refine Hid.out ?_) | fail)
   refine Lib.hid ?_
   go_wp2
   go_ret
   exact ⟨rfl,HBF.out.trans (b2.mono HBF.out.size)⟩
end Go.Proofs.YtghnopkgcgfcpaaGreatDoor.Cidr
