/-
  MERGED by mergefill.py: CidrG5, CidrPSixF.
-/
import Derived.Test.YtghnopkgcgfcpaaGreatDoorCidrForm2Mg
import Derived.Deep.RegionHeld3
import Derived.Deep.CutBlock
import Derived.Deep.DeepCutAuto
set_option maxHeartbeats 16000000
set_option maxRecDepth 100000
namespace Go.Proofs.YtghnopkgcgfcpaaGreatDoor.Cidr
open Go.RowKit Base
abbrev U64 (n : Nat) : Value:=.int .u64 (n : Int)
theorem hexD_len4 (g : Nat) (h : g≤65535) : (hexD g).length≤4:=hexD_len g h
theorem join_small (c : UInt8) : ∀ (ls : List (List UInt8)),(∀ l ∈ ls,l.length≤4)→(Lib.join ls [c]).length≤5 * ls.length
 | [],_=>by simp [Lib.join_nil]
 | x :: r,h=>by
  rw [Lib.join_cons]
  have hx:=h x List.mem_cons_self
  have : ∀ (r : List (List UInt8)),(∀ l ∈ r,l.length≤4)→(Lib.joinTail [c] r).length≤5 * r.length:=by
   intro r
   induction r with
   | nil=>intro _; simp [Lib.joinTail]
   | cons y q ih =>
    intro hq
    have h1:=ih fun l hl=>hq l (List.mem_cons_of_mem _ hl)
    have h2:=hq y List.mem_cons_self
    simp only [Lib.joinTail,List.map_cons,List.flatten_cons,List.length_append,List.length_cons,List.length_nil] at h1 ⊢
    omega
  have:=this r fun l hl=>h l (List.mem_cons_of_mem _ hl)
  rw [List.length_append,List.length_cons]; omega
theorem vreads_on {w w' : World} {v : Value} {xs : List Value} (h : VReads w v xs) (hb : Below w.heap.size w w') : VReads w' v xs:=h.kept fun b _ hl=>hb.block b hl
theorem pFormGroups (A : Option Addr) (c : Nat) (gs : List Nat) (hg : ∀ g ∈ gs,g≤65535) (hl : gs.length≤8) (w : World) (hr : VReads w (.slice A gs.length c) (gs.map U64)) (he : EnvS w) :
  Calls Tryz.prog 182 #[.slice A gs.length c] w fun e w'=>e=.returned (S (Lib.join (gs.map hexD) [58]))∧Below w.heap.size w w':=by
 have HG:=Lib.hid hg
 have HL:=Lib.hid hl
 have HRD:=Lib.hid hr
 have HE0:=Lib.hid he
 obtain ⟨R,hR⟩ : ∃ R : Value→Value→World→Prop,R=fun v i wr=>∃ k : Nat,k≤gs.length∧i=.int .i64 (k : Int)∧OwnsS wr w.heap.size v ((gs.take k).map hexD)∧Below w.heap.size w wr:=⟨_,rfl⟩
 have HR:=Lib.hid hR
 clear hR he hg hr
 go_enter Tryz.func182,Tryz.ntmps182
 go_wp2
 go_loopw [3,8] (fun v i wr=>R v i wr) (fun _ i _=>gs.length - (intOf i).toNat)
 case atStart =>
  rw [HR.out]
  exact ⟨0,by omega,rfl,World.ownsRow_nil _ _ _ _,Below.refl _ _⟩
 case round =>
  rw [HR.out] at hrel
  obtain ⟨k,hk,rfl,hown,hbw⟩:=hrel
  have HBW:=Lib.hid hbw
  by_cases hlt : k < gs.length
  ·have i1 : (k : Int) < (gs.length : Int):=by omega
   have i0 : (0 : Int)≤(k : Int):=by omega
   have hgk : (gs.map U64)[k]?=some (U64 gs[k]):=by rw [List.getElem?_map,List.getElem?_eq_getElem hlt]; rfl
   obtain ⟨gb,go,rfl,hcell⟩:=VReads.cell (vreads_on HRD.out hbw) hgk
   have HNX : Hid ((gs.take (k + 1)).map hexD=(gs.take k).map hexD++[hexD gs[k]]):=by
    show _=_
    rw [List.take_succ_eq_append_getElem hlt,List.map_append]; rfl
   have hgs:=HG.out _ (List.getElem_mem hlt)
   have HE1:=Lib.hid (HE0.out.on hbw)
   generalize gs[k]=z at hcell HNX hgs hgk
   have HI:=Lib.hid (pHexF z hgs wr HE1.out.tz)
   have HLS : Hid (((gs.take k).map hexD).length≤1000):=by show _≤_; simp; omega
   have HOW:=Lib.hid hown
   generalize (gs.take k).map hexD=ls at hown HOW HNX HLS
   obtain ⟨oa,oc,rfl,hoc⟩:=hown.form
   clear hown hbw hgk
   go_wp2_with (first | (go_at_call 204; refine HI.out.mono ?_; rintro e w2 ⟨rfl,b2⟩; refine Hid.out ?_) | fail)
   refine Lib.hid ?_
   have HO2:=Lib.hid (HOW.out.on b2)
   have HB2:=Lib.hid (HBW.out.trans (b2.mono HBW.out.size))
   clear b2
   go_wp2_with (at_builtin; go_must (refine wp_append_s rfl _ _ rfl w.heap.size (.slice oa ls.length oc) ls (hexD z) rfl rfl HO2.out HLS.out HB2.out.size ?_); intro v3 w3 o3 b3; refine Hid.out ?_)
   refine Lib.hid ?_
   have HFIN : Hid (R v3 (.int .i64 ((k : Int) + 1)) w3):=by
    show R _ _ _
    rw [HR.out]
    exact ⟨k + 1,by omega,by simp,by rw [HNX.out]; exact o3,HB2.out.trans b3⟩
   clear o3 b3
   go_wp2
   go_roundw
   case rel=>exact HFIN.out
   case measure=>simp [intOf]; omega
  ·obtain rfl : k=gs.length:=by omega
   have i1 : ¬ (gs.length : Int) < (gs.length : Int):=by omega
   rw [List.take_length] at hown
   have hjl : (Lib.join (gs.map hexD) [58]).length≤100000:=by
    have:=join_small 58 (gs.map hexD) fun l hl=>by
     obtain ⟨g,hg,rfl⟩:=List.mem_map.1 hl
     exact hexD_len4 g (HG.out g hg)
    rw [List.length_map] at this; omega
   have HJ:=Lib.hid (pJoin w.heap.size _ _ 58 wr hown (by simp; omega) hjl)
   clear hown hbw hjl
   go_wp2_with (first | (go_at_call 180; refine HJ.out.mono ?_; rintro e w2 ⟨rfl,b2⟩; refine Hid.out ?_) | fail)
   refine Lib.hid ?_
   go_wp2
   go_ret
   exact ⟨rfl,HBW.out.trans (b2.mono HBW.out.size)⟩
end Go.Proofs.YtghnopkgcgfcpaaGreatDoor.Cidr
namespace Go.Proofs.YtghnopkgcgfcpaaGreatDoor.Cidr
open Go.RowKit Base
def zN (G : List Nat) : Nat→Nat × Nat × Nat
 | 0=>(0,0,0)
 | k + 1=>if G.getD k 0 ≠ 0 then ((zN G k).1,(zN G k).2.1,k + 1) else if max ((zN G k).2.1 - (zN G k).1) 1 < k + 1 - (zN G k).2.2 then ((zN G k).2.2,k + 1,(zN G k).2.2) else zN G k
theorem zN_ok (G : List Nat) : ∀ k,(zN G k).1≤(zN G k).2.1∧(zN G k).2.1≤k∧(zN G k).2.2≤k
 | 0=>by simp [zN]
 | k + 1=>by
  have:=zN_ok G k
  unfold zN
  split
  ·simp only; omega
  ·split
   ·simp only; omega
   ·omega
theorem list8 {c : List Nat} (h : c.length=8) : ∃ a0 a1 a2 a3 a4 a5 a6 a7,c=[a0,a1,a2,a3,a4,a5,a6,a7]:=by
 rcases c with _ | ⟨a0,c⟩
 ·simp at h
 rcases c with _ | ⟨a1,c⟩
 ·simp at h
 rcases c with _ | ⟨a2,c⟩
 ·simp at h
 rcases c with _ | ⟨a3,c⟩
 ·simp at h
 rcases c with _ | ⟨a4,c⟩
 ·simp at h
 rcases c with _ | ⟨a5,c⟩
 ·simp at h
 rcases c with _ | ⟨a6,c⟩
 ·simp at h
 rcases c with _ | ⟨a7,c⟩
 ·simp at h
 have hc : c=[]:=by simpa using h
 subst hc
 exact ⟨a0,a1,a2,a3,a4,a5,a6,a7,rfl⟩
theorem index81 (G : List Nat) (hG : G.length=8) (k : Nat) (hk : k < 8) (w : World) : (Instr.index 231 (.agg (G.map U64).toArray) (.int .i64 (k : Int))).run Tryz.prog w=.ok (.int .u64 ((G.getD k 0 : Nat) : Int)) w:=by
 obtain ⟨a0,a1,a2,a3,a4,a5,a6,a7,rfl⟩:=list8 hG
 rcases (by omega : k=0∨k=1∨k=2∨k=3∨k=4∨k=5∨k=6∨k=7) with rfl | rfl | rfl | rfl | rfl | rfl | rfl | rfl
 all_goals kernel_rfl
theorem size81 : (Tryz.prog.info? 231).map (·.size)=some 8:=by kernel_rfl
theorem pZeros (G : List Nat) (hG : G.length=8) (w : World) : Calls Tryz.prog 181 #[.agg (G.map U64).toArray] w fun e w'=>e=.returned (.tuple #[.int .i64 ((zN G 8).1 : Int),.int .i64 ((zN G 8).2.1 : Int)])∧Below w.heap.size w w':=by
 have HG:=Lib.hid hG
 have hat:=(MapKept.heap_alloc w (.cells (G.map U64).toArray 231)).1
 have HRG : Hid ((w.alloc (.cells (G.map U64).toArray 231)).rangeAt w.heap.size 0 (G.map U64)):=fun j v hv=>by
  rw [Nat.zero_add,cell_of_row _ _ j _ _ _ hat]; simpa using hv
 have HSZ : Hid ((Tryz.prog.info? 231).map (·.size)=some (G.map U64).length):=by show _=_; rw [size81]; simp [hG]
 have HB0:=Lib.hid (Below.alloc1 w (.cells (G.map U64).toArray 231))
 obtain ⟨R,hR⟩ : ∃ R : Value→Value→Value→Value→World→Prop,R=fun f t s i wr=>∃ k : Nat,k≤8∧i=.int .i64 (k : Int)∧f=.int .i64 ((zN G k).1 : Int)∧t=.int .i64 ((zN G k).2.1 : Int)∧s=.int .i64 ((zN G k).2.2 : Int)∧Below w.heap.size w wr:=⟨_,rfl⟩
 have HR:=Lib.hid hR
 clear hR hat
 go_enter Tryz.func181,Tryz.ntmps181
 go_wp2_with (first | (refine wpList_load_mid rfl 231 (.tmp 1) rfl w.heap.size 0 rfl (G.map U64) _ HRG.out Tryz.underlying231 rfl HSZ.out ?_) | fail)
 go_loopw [4,5,6,10] (fun f t s i wr=>R f t s i wr) (fun _ _ _ i _=>8 - (intOf i).toNat)
 case atStart=>rw [HR.out]; exact ⟨0,by omega,rfl,rfl,rfl,rfl,HB0.out⟩
 case round =>
  rw [HR.out] at hrel
  obtain ⟨k,hk,rfl,rfl,rfl,rfl,hb⟩:=hrel
  have HB:=Lib.hid hb
  obtain ⟨z1,z2,z3⟩:=zN_ok G k
  by_cases hlt : k < 8
  ·have i1 : (k : Int) < 8:=by omega
   have i0 : (0 : Int)≤(k : Int):=by omega
   have hkl : k < G.length:=by rw [hG]; exact hlt
   have hstep : zN G (k + 1)=if G.getD k 0 ≠ 0 then ((zN G k).1,(zN G k).2.1,k + 1) else if max ((zN G k).2.1 - (zN G k).1) 1 < k + 1 - (zN G k).2.2 then ((zN G k).2.2,k + 1,(zN G k).2.2) else zN G k:=rfl
   have HRK : Hid (∀ f t s,zN G (k + 1)=(f,t,s)→R (.int .i64 (f : Int)) (.int .i64 (t : Int)) (.int .i64 (s : Int)) (.int .i64 ((k : Int) + 1)) wr):=fun f t s h=>by
    rw [HR.out]
    exact ⟨k + 1,by omega,by simp,by rw [h],by rw [h],by rw [h],HB.out⟩
   have hix:=index81 G hG k hlt wr
   obtain ⟨f,hf⟩ : ∃ f,f=(zN G k).1:=⟨_,rfl⟩
   obtain ⟨t,ht⟩ : ∃ t,t=(zN G k).2.1:=⟨_,rfl⟩
   obtain ⟨s,hs⟩ : ∃ s,s=(zN G k).2.2:=⟨_,rfl⟩
   have hz : zN G k=(f,t,s):=by rw [hf,ht,hs]
   rw [hz] at hstep
   rw [← hf,← ht] at z1
   rw [← ht] at z2
   rw [← hs] at z3
   rw [← hf,← ht,← hs]
   simp only at hstep
   generalize G.getD k 0=g at hix hstep
   have HST:=Lib.hid hstep
   clear hstep hz hf ht hs hb
   by_cases hg0 : g=0
   ·subst hg0
    by_cases hm : max (t - f) 1 < k + 1 - s
    ·have HF : Hid (R (.int .i64 (s : Int)) (.int .i64 ((k : Int) + 1)) (.int .i64 (s : Int)) (.int .i64 ((k : Int) + 1)) wr):=by
      have:=HRK.out s (k + 1) s (by rw [HST.out,if_neg (by simp),if_pos hm])
      rw [show ((k + 1 : Nat) : Int)=(k : Int) + 1 from rfl] at this
      exact this
     have m1 : max ((t : Int) - (f : Int)) 1 < (k : Int) + 1 - (s : Int):=by omega
     go_wp2
     go_roundw
     case rel=>exact HF.out
     case measure=>simp [intOf]; omega
    ·have HF : Hid (R (.int .i64 (f : Int)) (.int .i64 (t : Int)) (.int .i64 (s : Int)) (.int .i64 ((k : Int) + 1)) wr):=HRK.out f t s (by rw [HST.out,if_neg (by simp),if_neg hm])
     have m1 : ¬ max ((t : Int) - (f : Int)) 1 < (k : Int) + 1 - (s : Int):=by omega
     go_wp2
     go_roundw
     case rel=>exact HF.out
     case measure=>simp [intOf]; omega
   ·have HF : Hid (R (.int .i64 (f : Int)) (.int .i64 (t : Int)) (.int .i64 ((k : Int) + 1)) (.int .i64 ((k : Int) + 1)) wr):=by
     have:=HRK.out f t (k + 1) (by rw [HST.out,if_pos hg0])
     rw [show ((k + 1 : Nat) : Int)=(k : Int) + 1 from rfl] at this
     exact this
    have m1 : ((g : Int) != 0)=true:=by rw [bne_iff_ne]; omega
    go_wp2
    go_roundw
    case rel=>exact HF.out
    case measure=>simp [intOf]; omega
  ·obtain rfl : k=8:=by omega
   have i1 : ¬ ((8 : Nat) : Int) < 8:=by omega
   clear hb
   go_wp2
   go_ret2
   exact ⟨rfl,HB.out⟩
end Go.Proofs.YtghnopkgcgfcpaaGreatDoor.Cidr
namespace Go.Proofs.YtghnopkgcgfcpaaGreatDoor.Cidr
open Go.RowKit Base
theorem hexDig_ne (n : Nat) (h : n < 16) : hexDig n ≠ 58:=by
 have : ∀ k : Fin 16,hexDig k.val ≠ 58:=by decide +kernel
 exact this ⟨n,h⟩
theorem hexD_last (n : Nat) : hexD n ≠ []∧(hexD n).getLastD 0 ≠ 58:=by
 rw [hexD]
 split
 ·rename_i h
  exact ⟨by simp,by simpa using hexDig_ne n h⟩
 ·refine ⟨by simp,?_⟩
  rw [List.getLastD_concat]
  exact hexDig_ne _ (Nat.mod_lt _ (by decide))
def stepH (s : List UInt8) (g : Nat) : List UInt8:=(if s ≠ []∧s.getLastD 0 ≠ 58 then s++[58] else s)++hexD g
theorem getLastD_append {a b : List UInt8} (hb : b ≠ []) : (a++b).getLastD 0=b.getLastD 0:=by
 rw [List.getLastD_eq_getLast?,List.getLastD_eq_getLast?,List.getLast?_append]
 cases hb2 : b.getLast? with
 | none=>rw [List.getLast?_eq_none_iff] at hb2; exact absurd hb2 hb
 | some x=>rfl
theorem fold_tail : ∀ (gs : List Nat) (s : List UInt8),s ≠ []→s.getLastD 0 ≠ 58→gs.foldl stepH s=s++Lib.joinTail [58] (gs.map hexD)
 | [],s,_,_=>by simp [Lib.joinTail]
 | g :: r,s,h1,h2=>by
  have hg:=hexD_last g
  have e : stepH s g=s++[58]++hexD g:=by unfold stepH; rw [if_pos ⟨h1,h2⟩]
  rw [List.foldl_cons,e]
  rw [fold_tail r _ (by simp) (by rw [getLastD_append hg.1]; exact hg.2)]
  simp [Lib.joinTail,List.append_assoc]
theorem fold_head (gs : List Nat) (s : List UInt8) (h : s=[]∨s.getLastD 0=58) : gs.foldl stepH s=s++Lib.join (gs.map hexD) [58]:=by
 cases gs with
 | nil=>simp [Lib.join_nil]
 | cons g r =>
  have hg:=hexD_last g
  rw [List.foldl_cons]
  have e : stepH s g=s++hexD g:=by
   unfold stepH
   rw [if_neg (fun hh=>by rcases h with h | h; exact hh.1 h; exact hh.2 h)]
  rw [e,fold_tail r _ (by simp [hg.1]) (by rw [getLastD_append hg.1]; exact hg.2),List.map_cons,Lib.join_cons,List.append_assoc]
theorem outN_none {G : List Nat} (hG : G.length=8) (m : Nat) : ∀ (f : Nat) (s : List UInt8) (i : Nat) (o : Option Nat),8 - i≤f→(∀ k,o=some k→k < i)→outN G o m f s i=(G.drop i).foldl stepH s
 | 0,s,i,o,h,_=>by
  rw [outN,List.drop_eq_nil_of_le (by omega)]; rfl
 | f + 1,s,i,o,h,ho=>by
  rw [outN]
  by_cases hi : i < 8
  ·rw [if_pos hi,if_neg (fun h=>by have:=ho i h; omega)]
   rw [outN_none hG m f _ (i + 1) o (by omega) (fun k hk=>by have:=ho k hk; omega)]
   rw [show G.drop i=G.getD i 0 :: G.drop (i + 1) by rw [List.getD_eq_getElem?_getD,List.getElem?_eq_getElem (by omega),Option.getD_some,List.getElem_cons_drop],List.foldl_cons]
   rfl
  ·rw [if_neg hi,List.drop_eq_nil_of_le (by omega)]; rfl
theorem outN_some {G : List Nat} (hG : G.length=8) (m k : Nat) (hk : k < 8) (hm : 1≤m) : ∀ (f : Nat) (s : List UInt8) (i : Nat),8 - i≤f→i≤k→outN G (some k) m f s i=(G.drop (k + m)).foldl stepH (((G.drop i).take (k - i)).foldl stepH s++[58,58])
 | 0,s,i,h,hi=>by omega
 | f + 1,s,i,h,hi=>by
  rw [outN,if_pos (by omega)]
  by_cases he : k=i
  ·subst he
   rw [if_pos rfl,Nat.sub_self,List.take_zero]
   rw [outN_none hG m f _ (k + m) (some k) (by omega) (fun j hj=>by cases hj; omega)]
   rfl
  ·rw [if_neg (fun h=>he (Option.some.inj h))]
   rw [outN_some hG m k hk hm f _ (i + 1) (by omega) (by omega)]
   rw [show G.drop i=G.getD i 0 :: G.drop (i + 1) by rw [List.getD_eq_getElem?_getD,List.getElem?_eq_getElem (by omega),Option.getD_some,List.getElem_cons_drop],show k - i=(k - (i + 1)) + 1 by omega,List.take_succ_cons,List.foldl_cons]
   rfl
def zP (p : List Bool) : Nat→Nat × Nat × Nat
 | 0=>(0,0,0)
 | k + 1=>if p.getD k true=false then ((zP p k).1,(zP p k).2.1,k + 1) else if max ((zP p k).2.1 - (zP p k).1) 1 < k + 1 - (zP p k).2.2 then ((zP p k).2.2,k + 1,(zP p k).2.2) else zP p k
def bestP (p : List Bool) : Nat→Option Nat × Nat
 | 0=>(none,1)
 | k + 1=>if (bestP p k).2 < ((p.drop k).takeWhile (· == true)).length then (some k,((p.drop k).takeWhile (· == true)).length) else bestP p k
theorem zN_zP (G : List Nat) (hG : G.length=8) : ∀ k,k≤8→zN G k=zP (G.map (· == 0)) k
 | 0,_=>rfl
 | k + 1,h=>by
  rw [zN,zP,zN_zP G hG k (by omega)]
  have e : ((G.map (· == 0)).getD k true=false) ↔ (G.getD k 0 ≠ 0):=by
   rw [List.getD_eq_getElem?_getD,List.getD_eq_getElem?_getD,List.getElem?_map,List.getElem?_eq_getElem (show k < G.length by omega)]
   simp
  by_cases hg : G.getD k 0 ≠ 0
  ·rw [if_pos hg,if_pos (e.2 hg)]
  ·rw [if_neg hg,if_neg (fun h=>hg (e.1 h))]
theorem runN_P (G : List Nat) (k : Nat) : runN G k=(((G.map (· == 0)).drop k).takeWhile (· == true)).length:=by
 unfold runN
 rw [← List.map_drop,List.takeWhile_map,List.length_map]
 congr 2
 funext x
 simp
theorem bestN_bestP (G : List Nat) : ∀ k,bestN G k=bestP (G.map (· == 0)) k
 | 0=>rfl
 | k + 1=>by rw [bestN,bestP,bestN_bestP G k,runN_P]
theorem pat_ok : ∀ a b c d e f g h : Bool,(match (bestP [a,b,c,d,e,f,g,h] 8).1 with | none=>decide ((zP [a,b,c,d,e,f,g,h] 8).1=(zP [a,b,c,d,e,f,g,h] 8).2.1) | some k=>decide ((zP [a,b,c,d,e,f,g,h] 8).1=k∧(zP [a,b,c,d,e,f,g,h] 8).2.1=k + (bestP [a,b,c,d,e,f,g,h] 8).2∧2≤(bestP [a,b,c,d,e,f,g,h] 8).2∧k + (bestP [a,b,c,d,e,f,g,h] 8).2≤8))=true:=by decide +kernel
theorem zeros_best (G : List Nat) (hG : G.length=8) : match (bestN G 8).1 with | none=>(zN G 8).1=(zN G 8).2.1 | some k=>(zN G 8).1=k∧(zN G 8).2.1=k + (bestN G 8).2∧2≤(bestN G 8).2∧k + (bestN G 8).2≤8:=by
 obtain ⟨a0,a1,a2,a3,a4,a5,a6,a7,rfl⟩:=list8 hG
 have h:=pat_ok (a0 == 0) (a1 == 0) (a2 == 0) (a3 == 0) (a4 == 0) (a5 == 0) (a6 == 0) (a7 == 0)
 rw [zN_zP _ rfl 8 (Nat.le_refl _),bestN_bestP]
 simp only [List.map_cons,List.map_nil]
 revert h
 generalize bestP [a0 == 0,a1 == 0,a2 == 0,a3 == 0,a4 == 0,a5 == 0,a6 == 0,a7 == 0] 8=bp
 generalize zP [a0 == 0,a1 == 0,a2 == 0,a3 == 0,a4 == 0,a5 == 0,a6 == 0,a7 == 0] 8=zp
 obtain ⟨o,m⟩:=bp
 cases o with
 | none=>intro h; exact of_decide_eq_true h
 | some k=>intro h; exact of_decide_eq_true h
def form6P (G : List Nat) : List UInt8:=if (zN G 8).1=(zN G 8).2.1 then Lib.join (G.map hexD) [58] else (Lib.join ((G.take (zN G 8).1).map hexD) [58]++[58,58])++Lib.join ((G.drop (zN G 8).2.1).map hexD) [58]
theorem form6_eq (G : List Nat) (hG : G.length=8) : outN G (bestN G 8).1 (bestN G 8).2 8 [] 0=form6P G:=by
 have hz:=zeros_best G hG
 unfold form6P
 cases ho : (bestN G 8).1 with
 | none =>
  rw [ho] at hz
  simp only at hz
  rw [if_pos hz,outN_none hG _ 8 [] 0 none (by omega) (fun k hk=>by cases hk),fold_head _ _ (Or.inl rfl)]
  rfl
 | some k =>
  rw [ho] at hz
  obtain ⟨h1,h2,h3,h4⟩:=hz
  rw [if_neg (by omega),outN_some hG _ k (by omega) (by omega) 8 [] 0 (by omega) (by omega),fold_head _ _ (Or.inl rfl),List.nil_append]
  rw [fold_head _ _ (Or.inr (by rw [getLastD_append (by simp)]; rfl)),h1,h2]
  rfl
end Go.Proofs.YtghnopkgcgfcpaaGreatDoor.Cidr
set_option maxHeartbeats 16000000
set_option maxRecDepth 100000
namespace Go.Proofs.YtghnopkgcgfcpaaGreatDoor.Cidr
open Go.RowKit Base
def partU (a : List UInt8) (k : Nat) : List Value:=(((grpsA a).take k).map U64)++List.replicate (8 - k) (U64 0)
theorem partU_set (a : List UInt8) {k : Nat} (h : k < 8) : (partU a k).toArray.setIfInBounds k (U64 (grpA a k))=(partU a (k + 1)).toArray:=by
 have hl : k < (grpsA a).length:=by rw [grpsA_len]; exact h
 apply Array.toList_inj.1
 have e : (grpsA a)[k]?=some (grpA a k):=by unfold grpsA; simp [h]
 have e1 : (grpsA a)[k]=grpA a k:=by rw [List.getElem?_eq_getElem hl] at e; exact Option.some.inj e
 have e2 : (List.map U64 (List.take k (grpsA a))).length=k:=by rw [List.length_map,List.length_take,grpsA_len]; omega
 unfold partU
 rw [Array.toList_setIfInBounds]
 show List.set _ _ _=_
 rw [List.set_append_right _ _ (by omega),e2,Nat.sub_self,show 8 - k=(8 - (k + 1)) + 1 by omega,List.replicate_succ,List.take_succ_eq_append_getElem hl,e1]
 simp
theorem partU_end (a : List UInt8) : partU a 8=(grpsA a).map U64:=by
 unfold partU; rw [List.take_of_length_le (by rw [grpsA_len]; omega)]; simp
def GrpAt (w : World) (b : Nat) (vs : List Value) : Prop:=w.heap[b]?=some (.cells vs.toArray 231 (0,0))
theorem GrpAt.range {w : World} {b : Nat} {vs : List Value} (h : GrpAt w b vs) : w.rangeAt b 0 vs:=fun j v hv=>by
 rw [Nat.zero_add,cell_of_row w b j _ _ _ h]; simpa using hv
theorem GrpAt.on {w w' : World} {b : Nat} {vs : List Value} (h : GrpAt w b vs) (hb : Below w.heap.size w w') : GrpAt w' b vs:=(hb.block b (heap_lt h)).trans h
theorem GrpAt.reads {w : World} {b : Nat} {G : List Nat} (h : GrpAt w b (G.map U64)) (o n c : Nat) (hn : o + n≤G.length) (hc : n≤c) : VReads w (.slice (some ⟨b,o,none⟩) n c) (((G.drop o).take n).map U64):=by
 have hl : ((G.drop o).take n).length=n:=by rw [List.length_take,List.length_drop]; omega
 refine Or.inr ⟨b,o,c,by rw [List.length_map,hl],by rw [List.length_map,hl]; exact hc,fun i x hx=>?_⟩
 refine h.range (o + i) x ?_ |> fun h=>by rwa [Nat.zero_add] at h
 rw [List.getElem?_map] at hx ⊢
 rw [← hx,List.getElem?_take]
 split
 ·rw [List.getElem?_drop]
 ·rename_i hi
  rw [List.getElem?_take,if_neg hi] at hx
  cases hx
theorem slice_to (w : World) (b f : Nat) (h : f≤8) : (Instr.sliceAt 231 (.pointer (some ⟨b,0,none⟩)) none (some (.int .i64 (f : Int))) none).run Tryz.prog w=.ok (.slice (some ⟨b,0,none⟩) f 8) w:=by
 rcases (by omega : f=0∨f=1∨f=2∨f=3∨f=4∨f=5∨f=6∨f=7∨f=8) with rfl | rfl | rfl | rfl | rfl | rfl | rfl | rfl | rfl
 all_goals kernel_rfl
theorem slice_all (w : World) (b : Nat) : (Instr.sliceAt 231 (.pointer (some ⟨b,0,none⟩)) none none none).run Tryz.prog w=.ok (.slice (some ⟨b,0,none⟩) 8 8) w:=by kernel_rfl
theorem slice_from (b f : Nat) (h : f≤8) : ∃ p,(∀ w,(Instr.sliceAt 231 (.pointer (some ⟨b,0,none⟩)) (some (.int .i64 (f : Int))) none none).run Tryz.prog w=.ok (.slice p (8 - f) (8 - f)) w)∧(f < 8→p=some ⟨b,f,none⟩):=by
 rcases (by omega : f=0∨f=1∨f=2∨f=3∨f=4∨f=5∨f=6∨f=7∨f=8) with rfl | rfl | rfl | rfl | rfl | rfl | rfl | rfl | rfl
 rotate_left 8
 ·exact ⟨some ⟨b,0,none⟩,fun w=>by kernel_rfl,fun h=>by omega⟩
 all_goals exact ⟨_,fun w=>by kernel_rfl,fun _=>rfl⟩
theorem or_sum (x y : Nat) (hx : x < 256) (hy : y < 256) : bits .or .u64 ((x : Int) * 256) (y : Int)=((256 * x + y : Nat) : Int):=by
 have h:=bits_or_u64_nat (x * 256) y (by omega) (by omega)
 rw [show ((x * 256 : Nat) : Int)=(x : Int) * 256 from Int.natCast_mul x 256] at h
 rw [h]
 congr 1
 have:=Nat.shiftLeft_add_eq_or_of_lt (i:=8) (show y < 2 ^ 8 by omega) x
 rw [Nat.shiftLeft_eq,show 2 ^ 8=256 from rfl] at this
 omega
set_option linter.unusedSimpArgs false in
theorem pFormSix (a : List UInt8) (ha : a.length=16) (w : World) (he : EnvS w) : Calls Tryz.prog 136 #[.agg (a.map B8).toArray] w (fun e w'=>e=.returned (S (form6 a))∧Below w.heap.size w w'):=by
 have HA:=Lib.hid ha
 have H0:=Lib.hid (AddrAt.new w a)
 have HB1:=Lib.hid (Below.alloc1 w (.cells (a.map B8).toArray 68))
 have hsz : (w.alloc (.cells (a.map B8).toArray 68)).heap.size=w.heap.size + 1:=by simp
 have HG : Hid (((w.alloc (.cells (a.map B8).toArray 68)).alloc (.cells (partU a 0).toArray 231)).heap[w.heap.size + 1]?=some (.cells (partU a 0).toArray 231 (0,0))):=by
  have:=(MapKept.heap_alloc (w.alloc (.cells (a.map B8).toArray 68)) (.cells (partU a 0).toArray 231)).1
  rw [hsz] at this
  exact this
 have HBW : Hid (Below w.heap.size w ((w.alloc (.cells (a.map B8).toArray 68)).alloc (.cells (partU a 0).toArray 231))):=(Below.alloc1 _ _).trans ((Below.alloc1 _ _).mono (by rw [hsz]; omega))
 have HAT : Hid (AddrAt ((w.alloc (.cells (a.map B8).toArray 68)).alloc (.cells (partU a 0).toArray 231)) w.heap.size a):=H0.out.on (Below.alloc1 _ _)
 obtain ⟨R,hR⟩ : ∃ R : Value→World→Prop,R=fun i wr=>∃ k : Nat,k≤8∧i=.int .i64 (k : Int)∧AddrAt wr w.heap.size a∧GrpAt wr (w.heap.size + 1) (partU a k)∧Below w.heap.size w wr:=⟨_,rfl⟩
 have HR:=Lib.hid hR
 have HST : Hid (R (.int .i64 0) ((w.alloc (.cells (a.map B8).toArray 68)).alloc (.cells (partU a 0).toArray 231))):=by
  show R _ _
  rw [HR.out]; exact ⟨0,by omega,rfl,HAT.out,HG.out,HBW.out⟩
 have HE:=Lib.hid he
 clear hR ha hsz he
 go_enter Tryz.func136,Tryz.ntmps136
 go_wp2
 go_loopw [7] (fun i wr=>R i wr) (fun i _=>8 - (intOf i).toNat)
 case atStart=>exact HST.out
 case round =>
  rw [HR.out] at hrel
  obtain ⟨k,hk,rfl,hb,hg,hbw⟩:=hrel
  by_cases hlt : k < 8
  ·obtain ⟨x,hx⟩ : ∃ x,x=(a.getD (2 * k) 0).toNat:=⟨_,rfl⟩
   obtain ⟨y,hy⟩ : ∃ y,y=(a.getD (2 * k + 1) 0).toNat:=⟨_,rfl⟩
   have hx2 : x < 256:=by rw [hx]; exact (a.getD (2 * k) 0).toNat_lt
   have hy2 : y < 256:=by rw [hy]; exact (a.getD (2 * k + 1) 0).toNat_lt
   have c1 : wr.drew.cell? ⟨w.heap.size,2 * k,none⟩=some (.int .u8 (x : Int)):=by
    rw [hx]; exact (hb.cell (k:=2 * k) (by rw [HA.out]; omega)).1
   have c2 : wr.drew.cell? ⟨w.heap.size,2 * k + 1,none⟩=some (.int .u8 (y : Int)):=by
    rw [hy]; exact (hb.cell (k:=2 * k + 1) (by rw [HA.out]; omega)).1
   have c3 : ∃ v,wr.drew.cell? ⟨w.heap.size + 1,k,none⟩=some v:=by
    have : wr.cell? ⟨w.heap.size + 1,k,none⟩=_:=cell_of_row wr _ k _ _ _ hg
    refine ⟨(partU a k).toArray[k]'(by simp [partU,grpsA_len]; omega),(show wr.drew.cell? _=wr.cell? _ from rfl).trans (this.trans (Array.getElem?_eq_getElem _))⟩
   obtain ⟨v,c3⟩:=c3
   have c4 : wr.drew.frozen? ⟨w.heap.size + 1,k,none⟩=false:=by
    have : wr.frozen? ⟨w.heap.size + 1,k,none⟩=false:=by simp [World.frozen?,show wr.heap[w.heap.size + 1]?=_ from hg]
    exact this
   have i1 : (k : Int) < 8:=by omega
   have i0 : (0 : Int)≤(k : Int):=by omega
   have i2 : (0 : Int)≤2 * (k : Int):=by omega
   have i3 : 2 * (k : Int) < 16:=by omega
   have i4 : (0 : Int)≤2 * (k : Int) + 1:=by omega
   have i5 : 2 * (k : Int) + 1 < 16:=by omega
   have wr1 : IntKind.i64.wrap (2 * (k : Int))=2 * (k : Int):=IntWalk.i64_in _ (by omega)
   have wr2 : IntKind.i64.wrap (2 * (k : Int) + 1)=2 * (k : Int) + 1:=IntWalk.i64_in _ (by omega)
   have tn1 : (2 * (k : Int)).toNat=2 * k:=by omega
   have tn2 : (2 * (k : Int) + 1).toNat=2 * k + 1:=by omega
   have hor:=or_sum x y hx2 hy2
   have wr3 : IntKind.u64.wrap (x : Int)=(x : Int):=IntWalk.u64_in _ (by omega)
   have wr4 : IntKind.u64.wrap (y : Int)=(y : Int):=IntWalk.u64_in _ (by omega)
   have wr5 : IntKind.u64.wrap ((x : Int) * 256)=(x : Int) * 256:=IntWalk.u64_in _ (by omega)
   have n1 : w.heap.size + 1 ≠ w.heap.size:=by omega
   have HBr:=Lib.hid hb
   have HGr:=Lib.hid hg
   have HWr:=Lib.hid hbw
   have HGA : Hid (grpA a k=256 * x + y):=by rw [hx,hy]; rfl
   clear hb hg hbw hx hy
   go_wp2
   go_region_held3 (fun w'=>w'.cell? ⟨w.heap.size,2 * k,none⟩=some (.int .u8 (x : Int))∧w'.cell? ⟨w.heap.size,2 * k + 1,none⟩=some (.int .u8 (y : Int)))
    (first | exact ⟨c1,c2⟩ | exact ⟨(World.cell?_setCell_far _ _ _ _ n1).trans c1,(World.cell?_setCell_far _ _ _ _ n1).trans c2⟩ | fail) (fail)
   have HRK : Hid (R (.int .i64 ((k : Int) + 1)) (wr.setCell ⟨w.heap.size + 1,k,none⟩ (.int .u64 ((256 * x + y : Nat) : Int))).drew):=by
    show R _ _
    rw [HR.out]
    have hk1:=KeepX.set (w.heap.size + 1) wr k (.int .u64 ((256 * x + y : Nat) : Int))
    have hg1:=heap_setCell_any wr (w.heap.size + 1) k _ _ _ (.int .u64 ((256 * x + y : Nat) : Int)) HGr.out
    rw [show Value.int .u64 ((256 * x + y : Nat) : Int)=U64 (grpA a k) by rw [HGA.out],partU_set a hlt] at hg1
    have hb1 : Below w.heap.size w (wr.setCell ⟨w.heap.size + 1,k,none⟩ (.int .u64 ((256 * x + y : Nat) : Int))):=HWr.out.trans (hk1.below (by omega) (heap_lt HGr.out))
    refine ⟨k + 1,by omega,by simp,(hk1.block _ (heap_lt HBr.out) (by omega)).trans HBr.out,?_,⟨hb1.os,hb1.tape,hb1.output,hb1.size,hb1.block⟩⟩
    rw [show Value.int .u64 ((256 * x + y : Nat) : Int)=U64 (grpA a k) by rw [HGA.out]]
    exact hg1
   clear c1 c2 c3 c4
   go_wp2
   go_roundw
   case rel=>exact HRK.out
   case measure=>simp [intOf]; omega
  ·have hk8 : k=8:=by omega
   subst hk8
   rw [partU_end] at hg
   have i1 : ¬ ((8 : Nat) : Int) < 8:=by omega
   have HROW:=Lib.hid hg
   have HBW2:=Lib.hid hbw
   have HES:=Lib.hid (HE.out.on hbw)
   clear hb hg hbw
   have hF:=form6_eq (grpsA a) (grpsA_len a)
   have HFM : Hid (form6 a=form6P (grpsA a)):=hF
   have hGL:=grpsA_len a
   have hGS : ∀ g ∈ grpsA a,g≤65535:=fun g hg=>by
    unfold grpsA at hg
    obtain ⟨i,_,rfl⟩:=List.mem_map.1 hg
    exact grpA_le a i
   generalize grpsA a=G at HROW HFM hGL hGS
   have HGS:=Lib.hid hGS
   have HGL:=Lib.hid hGL
   have HS81 : Hid ((Tryz.prog.info? 231).map (·.size)=some (G.map U64).length):=by show _=_; rw [size81]; simp [hGL]
   have HZ:=Lib.hid (pZeros G hGL wr)
   have HRG:=Lib.hid (GrpAt.range HROW.out)
   obtain ⟨z1,z2,-⟩:=zN_ok G 8
   unfold form6P at HFM
   have hfull:=fun w' h=>GrpAt.reads (w:=w') (G:=G) (b:=w.heap.size + 1) h 0 8 8 (by omega) (by omega)
   have hto:=fun w' h f (hf : f≤8)=>GrpAt.reads (w:=w') (G:=G) (b:=w.heap.size + 1) h 0 f 8 (by omega) (by omega)
   have hfrom:=fun w' h f (hf : f≤8)=>GrpAt.reads (w:=w') (G:=G) (b:=w.heap.size + 1) h f (8 - f) (8 - f) (by omega) (by omega)
   generalize (zN G 8).1=f at HZ z1 HFM
   generalize (zN G 8).2.1=t at HZ z1 z2 HFM
   clear hF hGL hGS
   go_wp2_with (first | (refine wpList_load_mid rfl 231 (.tmp 3) rfl (w.heap.size + 1) 0 rfl (G.map U64) _ HRG.out Tryz.underlying231 rfl HS81.out ?_) | (go_at_call 181; refine HZ.out.mono ?_; rintro e w2 ⟨rfl,b2⟩; refine Hid.out ?_) | fail)
   refine Lib.hid ?_
   have HROW2:=Lib.hid (GrpAt.on HROW.out b2)
   have HBW3 : Hid (Below w.heap.size w w2):=HBW2.out.trans (b2.mono HBW2.out.size)
   have HES2:=Lib.hid (HES.out.on b2)
   clear b2
   by_cases hft : f=t
   ·subst hft
    have hsl:=slice_all w2 (w.heap.size + 1)
    rw [if_pos rfl] at HFM
    have hr:=hfull w2 HROW2.out
    rw [List.drop_zero,List.take_of_length_le (by rw [HGL.out]; omega)] at hr
    have HFG:=Lib.hid (pFormGroups (some ⟨w.heap.size + 1,0,none⟩) 8 G HGS.out (by rw [HGL.out]; omega) w2 (by rw [HGL.out]; exact hr) HES2.out)
    rw [HGL.out] at HFG
    clear hr hfull hto hfrom
    go_wp2_with (first | (go_at_call 182; refine HFG.out.mono ?_; rintro e w3 ⟨rfl,b3⟩; refine Hid.out ?_) | fail)
    refine Lib.hid ?_
    go_wp2
    go_ret
    exact ⟨by rw [HFM.out]; rfl,HBW3.out.trans (b3.mono HBW3.out.size)⟩
   ·have e1 : ((f : Int) == (t : Int))=false:=by rw [beq_eq_false_iff_ne]; omega
    rw [if_neg hft] at HFM
    have hst:=fun w'=>slice_to w' (w.heap.size + 1) f (by omega)
    obtain ⟨p,hsf,hp⟩:=slice_from (w.heap.size + 1) t (by omega)
    have H1 : Hid (∀ w',Below w2.heap.size w2 w'→Calls Tryz.prog 182 #[.slice (some ⟨w.heap.size + 1,0,none⟩) f 8] w' fun e w3=>e=.returned (.string ⟨(Lib.join ((G.take f).map hexD) [58]).toArray⟩)∧Below w'.heap.size w' w3):=fun w' hb=>by
     have hr:=hto w' (HROW2.out.on hb) f (by omega)
     rw [List.drop_zero] at hr
     have:=pFormGroups (some ⟨w.heap.size + 1,0,none⟩) 8 (G.take f) (fun g hg=>HGS.out g (List.mem_of_mem_take hg)) (by rw [List.length_take]; omega) w' (by rw [List.length_take,HGL.out,show min f 8=f by omega]; exact hr) (HES2.out.on hb)
     rw [List.length_take,HGL.out,show min f 8=f by omega] at this
     exact this
    have H2 : Hid (∀ w',Below w2.heap.size w2 w'→Calls Tryz.prog 182 #[.slice p (8 - t) (8 - t)] w' fun e w3=>e=.returned (.string ⟨(Lib.join ((G.drop t).map hexD) [58]).toArray⟩)∧Below w'.heap.size w' w3):=fun w' hb=>by
     have hl : (G.drop t).length=8 - t:=by rw [List.length_drop,HGL.out]
     have hr : VReads w' (.slice p (8 - t) (8 - t)) ((G.drop t).map U64):=by
      by_cases h8 : t < 8
      ·have hr:=hfrom w' (HROW2.out.on hb) t (by omega)
       rw [List.take_of_length_le (by omega)] at hr
       rw [hp h8]; exact hr
      ·obtain rfl : t=8:=by omega
       have : G.drop 8=[]:=List.eq_nil_of_length_eq_zero (by omega)
       rw [this]
       exact Or.inl ⟨rfl,p,0,rfl,fun _=>rfl⟩
     have:=pFormGroups p (8 - t) (G.drop t) (fun g hg=>HGS.out g (List.mem_of_mem_drop hg)) (by omega) w' (by rw [hl]; exact hr) (HES2.out.on hb)
     rw [hl] at this
     exact this
    have hl1 : (⟨(Lib.join ((G.take f).map hexD) [58]).toArray⟩ : ByteArray).size≤1000:=by
     rw [arr_size]
     have:=join_small 58 ((G.take f).map hexD) fun l hl=>by
      obtain ⟨g,hg,rfl⟩:=List.mem_map.1 hl
      exact hexD_len4 g (HGS.out g (List.mem_of_mem_take hg))
     have h2:=HGL.out
     rw [List.length_map,List.length_take] at this; omega
    have hl2 : (⟨(Lib.join ((G.drop t).map hexD) [58]).toArray⟩ : ByteArray).size≤1000:=by
     rw [arr_size]
     have:=join_small 58 ((G.drop t).map hexD) fun l hl=>by
      obtain ⟨g,hg,rfl⟩:=List.mem_map.1 hl
      exact hexD_len4 g (HGS.out g (List.mem_of_mem_drop hg))
     have h2:=HGL.out
     rw [List.length_map,List.length_drop] at this; omega
    have HFIN : Hid ((⟨(Lib.join ((G.take f).map hexD) [58]).toArray⟩ : ByteArray)++⟨#[58,58]⟩++⟨(Lib.join ((G.drop t).map hexD) [58]).toArray⟩=⟨(form6 a).toArray⟩):=by
     show _=_
     apply ByteArray.ext
     apply Array.toList_inj.1
     rw [Joins.data_append,Joins.data_append,HFM.out]
    generalize (⟨(Lib.join ((G.take f).map hexD) [58]).toArray⟩ : ByteArray)=T1 at H1 hl1 HFIN
    generalize (⟨(Lib.join ((G.drop t).map hexD) [58]).toArray⟩ : ByteArray)=T2 at H2 hl2 HFIN
    have hb1 : ¬ 9223372036854775807 < T1.size + 2:=by omega
    have hb2 : ¬ 9223372036854775807 < T1.size + 2 + T2.size:=by omega
    have hts : (T1++(⟨#[58,58]⟩ : ByteArray)).size=T1.size + 2:=by rw [ByteArray.size_append]; rfl
    clear hfull hto hfrom hp hft
    go_wp2
    refine wp_region_noPanic ?_
    refine wp_region_held_drew (S:=fun w'=>Below w2.heap.size w2 w') (by kernel_rfl) (Below.refl _ _).drew (fun hHeld=>?_)
    refine wpAnyH_take (i:=0) (v:=?vz1) rfl (by kernel_rfl) (by kernel_rfl) (by kernel_rfl) (fun _ _ _ h=>h) (Or.inl ⟨by rfl,?hyz1⟩) (by assumption) ?restz1
    case hyz1=>(intro w hSw; (try dsimp only at hSw); go_simp; try with_reducible rfl)
    (try simp only [Act.put,List.getElem_toArray,List.getElem_cons_succ,List.getElem_cons_zero,List.setIfInBounds_toArray,List.set_cons_zero,List.set_cons_succ])
    refine wpAnyH_take (i:=1) (v:=?vz2) rfl (by kernel_rfl) (by kernel_rfl) (by kernel_rfl) (fun _ _ _ h=>h) (Or.inl ⟨by rfl,?hyz2⟩) (by assumption) ?restz2
    case hyz2=>(intro w hSw; (try dsimp only at hSw); go_simp; try with_reducible rfl)
    (try simp only [Act.put,List.getElem_toArray,List.getElem_cons_succ,List.getElem_cons_zero,List.setIfInBounds_toArray,List.set_cons_zero,List.set_cons_succ])
    refine wpAnyH_take (i:=4) (v:=?vz3) rfl (by kernel_rfl) (by kernel_rfl) (by kernel_rfl) (fun _ _ _ h=>h) (Or.inl ⟨by rfl,?hyz3⟩) (by assumption) ?restz3
    case hyz3=>(intro w hSw; (try dsimp only at hSw); go_simp; try with_reducible rfl)
    (try simp only [Act.put,List.getElem_toArray,List.getElem_cons_succ,List.getElem_cons_zero,List.setIfInBounds_toArray,List.set_cons_zero,List.set_cons_succ])
    refine wpAnyH_take (i:=5) (v:=?vz4) rfl (by kernel_rfl) (by kernel_rfl) (by kernel_rfl) (fun _ _ _ h=>h) (Or.inl ⟨by rfl,?hyz4⟩) (by assumption) ?restz4
    case hyz4=>(intro w hSw; (try dsimp only at hSw); go_simp; try with_reducible rfl)
    (try simp only [Act.put,List.getElem_toArray,List.getElem_cons_succ,List.getElem_cons_zero,List.setIfInBounds_toArray,List.set_cons_zero,List.set_cons_succ])
    refine wpAnyH_ready (rs:=[2]) (by kernel_rfl) (by simp) ?_
    refine AllReadyH.cons rfl (fun K hK=>?_) AllReadyH.nil
    go_simp
    go_wp2_with (go_at_call 182; refine (H1.out _ (by assumption)).mono ?_; rintro e wn1 ⟨rfl,hb1⟩)
    refine hK.out _ _ ((by assumption : Below w2.heap.size w2 _).trans (hb1.mono (Below.size (by assumption)))) (fun hHeld=>?_)
    clear hK K
    (try simp only [Act.put,List.getElem_toArray,List.getElem_cons_succ,List.getElem_cons_zero,List.setIfInBounds_toArray,List.set_cons_zero,List.set_cons_succ])
    refine wpAnyH_take (i:=3) (v:=?vz6) rfl (by kernel_rfl) (by kernel_rfl) (by kernel_rfl) (fun _ _ _ h=>h) (Or.inl ⟨by rfl,?hyz6⟩) (by assumption) ?restz6
    case hyz6=>(intro w hSw; (try dsimp only at hSw); go_simp; try with_reducible rfl)
    (try simp only [Act.put,List.getElem_toArray,List.getElem_cons_succ,List.getElem_cons_zero,List.setIfInBounds_toArray,List.set_cons_zero,List.set_cons_succ])
    refine wpAnyH_ready (rs:=[6]) (by kernel_rfl) (by simp) ?_
    refine AllReadyH.cons rfl (fun K hK=>?_) AllReadyH.nil
    go_simp
    go_wp2_with (go_at_call 182; refine (H2.out _ (by assumption)).mono ?_; rintro e wn2 ⟨rfl,hb2⟩)
    refine hK.out _ _ ((by assumption : Below w2.heap.size w2 _).trans (hb2.mono (Below.size (by assumption)))) (fun hHeld=>?_)
    clear hK K
    (try simp only [Act.put,List.getElem_toArray,List.getElem_cons_succ,List.getElem_cons_zero,List.setIfInBounds_toArray,List.set_cons_zero,List.set_cons_succ])
    refine wpAnyH_take (i:=7) (v:=?vz8) rfl (by kernel_rfl) (by kernel_rfl) (by kernel_rfl) (fun _ _ _ h=>h) (Or.inl ⟨by rfl,?hyz8⟩) (by assumption) ?restz8
    case hyz8=>(intro w hSw; (try dsimp only at hSw); go_simp; try with_reducible rfl)
    (try simp only [Act.put,List.getElem_toArray,List.getElem_cons_succ,List.getElem_cons_zero,List.setIfInBounds_toArray,List.set_cons_zero,List.set_cons_succ])
    refine wpAnyH_take (i:=8) (v:=?vz9) rfl (by kernel_rfl) (by kernel_rfl) (by kernel_rfl) (fun _ _ _ h=>h) (Or.inl ⟨by rfl,?hyz9⟩) (by assumption) ?restz9
    case hyz9=>(intro w hSw; (try dsimp only at hSw); go_simp; try with_reducible rfl)
    (try simp only [Act.put,List.getElem_toArray,List.getElem_cons_succ,List.getElem_cons_zero,List.setIfInBounds_toArray,List.set_cons_zero,List.set_cons_succ])
    refine wpAnyH_done (by kernel_rfl) ?_ _
    refine NoPanic.normal ?_
    go_wp2
    go_ret
    exact ⟨by rw [HFIN.out]; rfl,HBW3.out.trans (Below.mono (by assumption) HBW3.out.size)⟩
end Go.Proofs.YtghnopkgcgfcpaaGreatDoor.Cidr
