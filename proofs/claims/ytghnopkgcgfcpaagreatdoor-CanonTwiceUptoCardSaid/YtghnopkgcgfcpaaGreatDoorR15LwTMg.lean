/-
  MERGED by mergefill.py: R15LwT.
-/
import Derived.Test.YtghnopkgcgfcpaaGreatDoorR15FctMg
import Derived.BigQuiet
set_option maxHeartbeats 16000000
set_option maxRecDepth 100000
namespace Go.Proofs.YtghnopkgcgfcpaaGreatDoor.Path
open Go.RowKit Base
theorem canon_wrong {host : ByteArray} {Ts : List (List Table.KV)} {p : PV} (h : rightG p ≠ 0) : canonG host Ts p=p:=by
 unfold canonG
 rw [if_pos (Or.inl h)]
theorem wTwice (host : ByteArray) (A : Option Addr) (c : Nat) (Xs : List ByteArray) (p : PV) (w : World) (hX : StrsAt w A Xs) (hh : host.size≤100000000) (hXl : Xs.length≤9223372036854775807) (hl : p.loc.size≤100000000) (hd : p.dom.size≤100000000) (he : EnvC w) :
  Calls Tryz.prog 4 #[.agg #[.string host,.slice A Xs.length c],p.val] w fun e w'=>e=.returned (.bool true)∧Below w.heap.size w w':=by
 have C0:=Lib.hid (fun W (hb : Below w.heap.size w W)=>wAwake W (he.on hb))
 have CB:=Lib.hid (fun W hb=>both_new he (c:=c) hX hh hXl W hb)
 have hTs : ∀ Ts,newR litL locF host Xs=(0,Ts)→tabsOf litL locF Xs=some Ts:=fun Ts h=>new_tabs h
 have CQ:=Lib.hid (fun Ts (hT : tabsOf litL locF Xs=some Ts) W hb=>both_path he hT p hh hl hd W hb)
 have CQ2:=Lib.hid (fun Ts (hT : tabsOf litL locF Xs=some Ts) W hb=>both_path he hT (canonG host Ts p) hh (canon_le hT hh hl hd).1 (canon_le hT hh hl hd).2 W hb)
 have CR:=Lib.hid (fun W=>rRightG p W (by omega) (by omega))
 have HW:=Lib.hid (fun Ts=>canon_wrong (host:=host) (Ts:=Ts) (p:=p))
 obtain ⟨hb0,ha0,hp0⟩:=asked_boxes w host (.slice A Xs.length c) p
 clear he hX hXl
 generalize newR litL locF host Xs=r at CB hTs
 generalize rightG p=rg at CR HW
 obtain ⟨code,Ts⟩:=r
 have HTs:=Lib.hid hTs
 have HW1:=Lib.hid (HW.out Ts)
 clear hTs HW
 obtain ⟨n0,l0,d0,t0⟩:=p
 unfold PV.cells at hb0 ha0 hp0
 have HB0:=Lib.hid hb0
 have HA0:=Lib.hid ha0
 have HP0:=Lib.hid hp0
 have CR2 : Hid (∀ W,Calls Tryz.prog 11 #[.agg #[.bool n0,.string l0,.string d0,.bool t0]] W fun e w'=>e=.returned (.int .i64 rg)∧Below W.heap.size W w'):=CR
 clear hb0 ha0 hp0 hl hd hh CR
 show Calls Tryz.prog 4 #[.agg #[.string host,.slice A Xs.length c],.agg #[.bool n0,.string l0,.string d0,.bool t0]] w _
 go_enter Tryz.func4,Tryz.ntmps4
 go_wp2_with (first | (go_at_call 6; refine (C0.out _ HB0.out).mono ?_; rintro ee w1 ⟨rfl,hb⟩; refine Hid.out ?_) | fail)
 refine Lib.hid ?_
 have HB1:=Lib.hid (HB0.out.trans (hb.mono HB0.out.size))
 have HA1:=Lib.hid (HA0.out.on hb)
 have HP1:=Lib.hid (HP0.out.on hb)
 obtain ⟨a0,a1,_,_⟩:=two_cells HA1.out
 clear hb C0 HB0 HA0 HP0
 by_cases hc : code=0
 ·subst hc
  have hT:=HTs.out Ts rfl
  have CQ1:=Lib.hid (CQ.out Ts hT)
  have CQ3:=Lib.hid (CQ2.out Ts hT)
  have CB1:=Lib.hid (fun W hb=>new_yes (CB.out W hb).1)
  have CB2:=Lib.hid (fun W hb=>newG_yes (CB.out W hb).2)
  clear hT HTs CQ CQ2 CB
  go_wp2_with (first | (go_at_call 7; refine (CB1.out _ HB1.out).mono ?_; rintro ee w2 ⟨b1,rfl,hC1,hb⟩; refine Hid.out ?_) | fail)
  refine Lib.hid ?_
  have HB3:=Lib.hid (HB1.out.trans (hb.mono HB1.out.size))
  have HA3:=Lib.hid (HA1.out.on hb)
  have HP3:=Lib.hid (HP1.out.on hb)
  have HC3:=Lib.hid hC1
  clear hb hC1 a0 a1 HB1 HA1 HP1 CB1
  obtain ⟨c0,c1,c2,c3,f0,f1,f2,f3⟩:=four_cells HP3.out
  have CA:=Lib.hid (fun W hb=>(CQ1.out W hb).1)
  have CA3:=Lib.hid (fun W hb=>(CQ3.out W hb).1)
  have CG3:=Lib.hid (fun W hb=>(CQ3.out W hb).2)
  clear CQ1 CQ3
  generalize canonG host Ts (canonG host Ts ⟨n0,l0,d0,t0⟩)=s at CA3 CG3
  generalize canonG host Ts ⟨n0,l0,d0,t0⟩=q at CA CA3 CG3 HW1
  obtain ⟨n,l,d,t⟩:=q
  obtain ⟨n2,l2,d2,t2⟩:=s
  have CA2 : Hid (∀ W,Below w.heap.size w W→∀ b,CanonAt W b host Ts→Calls Tryz.prog 9 #[.pointer (some ⟨b,0,none⟩),.agg #[.bool n0,.string l0,.string d0,.bool t0]] W fun e w'=>e=.returned (.agg #[.bool n,.string l,.string d,.bool t])∧Below W.heap.size W w'):=CA
  have CA4 : Hid (∀ W,Below w.heap.size w W→∀ b,CanonAt W b host Ts→Calls Tryz.prog 9 #[.pointer (some ⟨b,0,none⟩),.agg #[.bool n,.string l,.string d,.bool t]] W fun e w'=>e=.returned (.agg #[.bool n2,.string l2,.string d2,.bool t2])∧Below W.heap.size W w'):=CA3
  have CG4 : Hid (∀ W,Below w.heap.size w W→∀ b,CanonG W b host Ts→Calls Tryz.prog 10 #[.pointer (some ⟨b,0,none⟩),.agg #[.bool n,.string l,.string d,.bool t]] W fun e w'=>e=.returned (.agg #[.bool n2,.string l2,.string d2,.bool t2])∧Below W.heap.size W w'):=CG3
  clear CA CA3 CG3
  go_wp2_with (first | (go_at_call 9; refine (CA2.out _ HB3.out _ HC3.out).mono ?_; rintro ee w4 ⟨rfl,hb⟩; refine Hid.out ?_) | fail)
  refine Lib.hid ?_
  have HB4:=Lib.hid (HB3.out.trans (hb.mono HB3.out.size))
  have HB5:=Lib.hid (below_step HB4.out (boxO n l d t))
  have HA5:=Lib.hid ((HA3.out.on hb).on (Below.alloc1 w4 (boxO n l d t)))
  have HP5:=Lib.hid (path_alloc (HP3.out.on hb) (boxO n l d t))
  have HC5:=Lib.hid ((HC3.out.on hb).on (Below.alloc1 w4 (boxO n l d t)))
  have HQ5:=Lib.hid (box_path w4 n l d t)
  clear hb c0 c1 c2 c3 f0 f1 f2 f3 HB3 HA3 HP3 HC3 CA2 HB4
  unfold boxO at HB5 HA5 HP5 HC5 HQ5
  go_wp2_with (first | (go_at_call 9; refine (CA4.out _ HB5.out _ HC5.out).mono ?_; rintro ee w6 ⟨rfl,hb⟩; refine Hid.out ?_) | fail)
  refine Lib.hid ?_
  have HB6:=Lib.hid (HB5.out.trans (hb.mono HB5.out.size))
  have HB7:=Lib.hid (below_step HB6.out (boxO n2 l2 d2 t2))
  have HA7:=Lib.hid ((HA5.out.on hb).on (Below.alloc1 w6 (boxO n2 l2 d2 t2)))
  have HP7:=Lib.hid (path_alloc (HP5.out.on hb) (boxO n2 l2 d2 t2))
  have HQ7:=Lib.hid (path_alloc (HQ5.out.on hb) (boxO n2 l2 d2 t2))
  have HR7:=Lib.hid (box_path w6 n2 l2 d2 t2)
  clear hb HB5 HA5 HP5 HC5 HQ5 CA4 HB6
  unfold boxO at HB7 HA7 HP7 HQ7 HR7
  obtain ⟨a0,a1,_,_⟩:=two_cells HA7.out
  go_wp2_with (first | (go_at_call 8; refine (CB2.out _ HB7.out).mono ?_; rintro ee w8 ⟨b2,rfl,hC2,hb⟩; refine Hid.out ?_) | fail)
  refine Lib.hid ?_
  have HB8:=Lib.hid (HB7.out.trans (hb.mono HB7.out.size))
  have HP8:=Lib.hid (HP7.out.on hb)
  have HQ8:=Lib.hid (HQ7.out.on hb)
  have HR8:=Lib.hid (HR7.out.on hb)
  have HG8:=Lib.hid hC2
  clear hb hC2 a0 a1 HB7 HA7 HP7 HQ7 HR7 CB2
  obtain ⟨c0,c1,c2,c3,f0,f1,f2,f3⟩:=four_cells HP8.out
  go_wp2_with (first | (go_at_call 11; refine (CR2.out _).mono ?_; rintro ee w9 ⟨rfl,hb⟩; refine Hid.out ?_) | fail)
  refine Lib.hid ?_
  have HB9:=Lib.hid (HB8.out.trans (hb.mono HB8.out.size))
  have HP9:=Lib.hid (HP8.out.on hb)
  have HQ9:=Lib.hid (HQ8.out.on hb)
  have HR9:=Lib.hid (HR8.out.on hb)
  have HG9:=Lib.hid (HG8.out.on hb)
  clear hb c0 c1 c2 c3 f0 f1 f2 f3 HB8 HP8 HQ8 HR8 HG8 CR2
  obtain ⟨c0,c1,c2,c3,f0,f1,f2,f3⟩:=four_cells HQ9.out
  go_wp2_with (first | (go_at_call 10; refine (CG4.out _ HB9.out _ HG9.out).mono ?_; rintro ee w10 ⟨rfl,hb⟩; refine Hid.out ?_) | fail)
  refine Lib.hid ?_
  have HB10:=Lib.hid (HB9.out.trans (hb.mono HB9.out.size))
  have HP10:=Lib.hid (HP9.out.on hb)
  have HQ10:=Lib.hid (HQ9.out.on hb)
  have HR10:=Lib.hid (HR9.out.on hb)
  have HF:=Lib.hid (below_step HB10.out (boxO n2 l2 d2 t2))
  unfold boxO at HF
  clear hb c0 c1 c2 c3 f0 f1 f2 f3 HB9 HP9 HQ9 HR9 HG9 CG4
  have hlt1:=heap_lt HP10.out
  have hlt2:=heap_lt HQ10.out
  have hlt3:=heap_lt HR10.out
  have ne1 : ¬ w.heap.size + 1=w10.heap.size:=by omega
  have ne2 : ¬ w4.heap.size=w10.heap.size:=by omega
  have ne3 : ¬ w6.heap.size=w10.heap.size:=by omega
  obtain ⟨c0,c1,c2,c3,_,_,_,_⟩:=four_cells HP10.out
  obtain ⟨y0,y1,y2,y3,_,_,_,_⟩:=four_cells HQ10.out
  obtain ⟨z0,z1,z2,z3,_,_,_,_⟩:=four_cells HR10.out
  clear HP10 HQ10 HR10 HB10
  by_cases hrg : rg=0
  ·subst hrg
   by_cases hs : (⟨n2,l2,d2,t2⟩ : PV)=⟨n,l,d,t⟩
   ·cases hs
    go_wp2
    go_quiet (fail)
    go_wp2
    go_ret
    exact ⟨rfl,HF.out.os,HF.out.tape,HF.out.output,HF.out.size,HF.out.block⟩
   ·rcases pv_ne hs with h1 | ⟨rfl,h1⟩ | ⟨rfl,rfl,h1⟩ | ⟨rfl,rfl,rfl,h1⟩
    ·cases n2 <;> cases n <;> first | exact absurd rfl h1 | clear h1 hs
     all_goals
      go_wp2
      go_quiet (fail)
      go_wp2
      go_ret
      exact ⟨rfl,HF.out.os,HF.out.tape,HF.out.output,HF.out.size,HF.out.block⟩
    ·have h2:=bytes_ne h1
     clear h1 hs
     go_wp2
     go_quiet (fail)
     go_wp2
     go_ret
     exact ⟨rfl,HF.out.os,HF.out.tape,HF.out.output,HF.out.size,HF.out.block⟩
    ·have h2:=bytes_ne h1
     clear h1 hs
     go_wp2
     go_quiet (fail)
     go_wp2
     go_ret
     exact ⟨rfl,HF.out.os,HF.out.tape,HF.out.output,HF.out.size,HF.out.block⟩
    ·cases t2 <;> cases t <;> first | exact absurd rfl h1 | clear h1 hs
     all_goals
      go_wp2
      go_quiet (fail)
      go_wp2
      go_ret
      exact ⟨rfl,HF.out.os,HF.out.tape,HF.out.output,HF.out.size,HF.out.block⟩
  ·have e1 : (rg == 0)=false:=by rw [beq_eq_false_iff_ne]; exact hrg
   have heq : (⟨n,l,d,t⟩ : PV)=⟨n0,l0,d0,t0⟩:=HW1.out hrg
   cases heq
   clear hrg HW1
   by_cases hs : (⟨n2,l2,d2,t2⟩ : PV)=⟨n0,l0,d0,t0⟩
   ·cases hs
    go_wp2
    go_quiet (fail)
    go_wp2
    go_ret
    exact ⟨rfl,HF.out.os,HF.out.tape,HF.out.output,HF.out.size,HF.out.block⟩
   ·rcases pv_ne hs with h1 | ⟨rfl,h1⟩ | ⟨rfl,rfl,h1⟩ | ⟨rfl,rfl,rfl,h1⟩
    ·cases n2 <;> cases n0 <;> first | exact absurd rfl h1 | clear h1 hs
     all_goals
      go_wp2
      go_quiet (fail)
      go_wp2
      go_ret
      exact ⟨rfl,HF.out.os,HF.out.tape,HF.out.output,HF.out.size,HF.out.block⟩
    ·have h2:=bytes_ne h1
     clear h1 hs
     go_wp2
     go_quiet (fail)
     go_wp2
     go_ret
     exact ⟨rfl,HF.out.os,HF.out.tape,HF.out.output,HF.out.size,HF.out.block⟩
    ·have h2:=bytes_ne h1
     clear h1 hs
     go_wp2
     go_quiet (fail)
     go_wp2
     go_ret
     exact ⟨rfl,HF.out.os,HF.out.tape,HF.out.output,HF.out.size,HF.out.block⟩
    ·cases t2 <;> cases t0 <;> first | exact absurd rfl h1 | clear h1 hs
     all_goals
      go_wp2
      go_quiet (fail)
      go_wp2
      go_ret
      exact ⟨rfl,HF.out.os,HF.out.tape,HF.out.output,HF.out.size,HF.out.block⟩
 ·have CB1:=Lib.hid (fun W hb=>new_no (CB.out W hb).1 hc)
  have e1 : (code != 0)=true:=by rw [bne_iff_ne]; exact hc
  clear HTs CQ CQ2 CB hc
  go_wp2_with (first | (go_at_call 7; refine (CB1.out _ HB1.out).mono ?_; rintro ee w2 ⟨rfl,hb⟩; refine Hid.out ?_) | fail)
  refine Lib.hid ?_
  have HB2:=Lib.hid (HB1.out.trans (hb.mono HB1.out.size))
  clear hb a0 a1 HB1 HA1 HP1 CB1
  go_wp2
  go_ret
  exact ⟨rfl,HB2.out⟩
end Go.Proofs.YtghnopkgcgfcpaaGreatDoor.Path
