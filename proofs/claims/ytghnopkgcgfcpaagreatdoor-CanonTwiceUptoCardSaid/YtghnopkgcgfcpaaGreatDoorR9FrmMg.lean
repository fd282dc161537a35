/-
  MERGED by mergefill.py: R9Frm.
-/
import Derived.Test.YtghnopkgcgfcpaaGreatDoorR9OffMg
import Derived.Test.YtghnopkgcgfcpaaGreatDoorPthBoxWMg
import Derived.Test.YtghnopkgcgfcpaaGreatDoorPthBldMg
set_option maxHeartbeats 16000000
set_option maxRecDepth 100000
namespace Go.Proofs.YtghnopkgcgfcpaaGreatDoor.Path
open Go.RowKit Base
def sixOf (d : ByteArray) : Bool:=match Cidr.addrN d with
 | some n=>n.six
 | none=>false
def formG (p : PV) : ByteArray :=
 if p.null=true then ⟨#[]⟩ else if p.lit=false then (if p.dom.size=0 then locG p.loc else locG p.loc++⟨#[64]⟩++p.dom)
 else if sixOf p.dom=true then locG p.loc++⟨#[64,91,73,80,118,54,58]⟩++p.dom++⟨#[93]⟩ else locG p.loc++⟨#[64,91]⟩++p.dom++⟨#[93]⟩
theorem locG_le (s : ByteArray) : (locG s).size≤2 * s.size + 2:=by
 unfold locG
 split
 ·omega
 ·have:=escB_le s.data.toList
  rw [str_len] at this
  rw [ByteArray.size_append,ByteArray.size_append]
  show 1 + (escB s.data.toList).toArray.size + 1≤_
  rw [List.size_toArray]; omega
theorem rForm (p : PV) (w : World) (hl : p.loc.size≤1000000000) (hd : p.dom.size≤1000000000) : Calls Tryz.prog 28 #[p.val] w fun e w'=>e=.returned (.string (formG p))∧Below w.heap.size w w':=by
 obtain ⟨n,l,d,t⟩:=p
 show Calls Tryz.prog 28 #[.agg #[.bool n,.string l,.string d,.bool t]] w fun e w'=>e=.returned (.string (formG ⟨n,l,d,t⟩))∧Below w.heap.size w w'
 have HC:=Lib.hid (fun w1=>rLocalForm l w1 (Nat.le_trans hl (by decide)))
 have hsz:=locG_le l
 have hl2 : l.size≤1000000000:=hl
 have hd2 : d.size≤1000000000:=hd
 obtain ⟨D,hD⟩ : ∃ D,D=formG ⟨n,l,d,t⟩:=⟨_,rfl⟩
 rw [← hD]
 have HD : Hid (D=if n=true then ⟨#[]⟩ else if t=false then (if d.size=0 then locG l else locG l++⟨#[64]⟩++d)
  else if sixOf d=true then locG l++⟨#[64,91,73,80,118,54,58]⟩++d++⟨#[93]⟩ else locG l++⟨#[64,91]⟩++d++⟨#[93]⟩):=hD
 clear hD hl hd
 generalize locG l=fl at HC HD hsz
 have HP0 : Hid (PathAt (w.alloc (Obj.cells #[Value.bool n,Value.string l,Value.string d,Value.bool t] 26)) w.heap.size ⟨n,l,d,t⟩):=(MapKept.heap_alloc w _).1
 have HB0:=Lib.hid (Below.alloc1 w (Obj.cells #[Value.bool n,Value.string l,Value.string d,Value.bool t] 26))
 cases n with
 | true =>
  have HT : Hid (D=⟨#[]⟩):=HD.out
  go_enter Tryz.func28,Tryz.ntmps28
  go_wp2
  go_ret
  exact ⟨by rw [HT.out]; rfl,HB0.out⟩
 | false =>
  cases t with
  | false =>
   have HT : Hid (D=if d.size=0 then fl else fl++⟨#[64]⟩++d):=HD.out
   clear HD
   have s1 : ¬ 9223372036854775807 < fl.size + 1:=by omega
   have s2 : ¬ 9223372036854775807 < fl.size + 1 + d.size:=by omega
   by_cases h0 : d.size=0
   ·have HT2 : Hid (D=fl):=by show _=_; rw [HT.out,if_pos h0]
    obtain rfl:=str_empty h0
    clear HT h0
    go_enter Tryz.func28,Tryz.ntmps28
    go_wp2_with (first | (go_at_call 27; refine (HC.out _).mono ?_; rintro ee w1 ⟨rfl,hb⟩; refine Hid.out ?_) | fail)
    refine Lib.hid ?_
    have HB1:=Lib.hid (HB0.out.trans (hb.mono HB0.out.size))
    obtain ⟨c0,c1,c2,c3,_⟩:=four_cells (HP0.out.on hb)
    clear hb
    go_wp2
    go_ret
    exact ⟨by rw [HT2.out]; rfl,HB1.out⟩
   ·have HT2 : Hid (D=fl++⟨#[64]⟩++d):=by show _=_; rw [HT.out,if_neg h0]
    obtain ⟨hn1,hn2⟩:=str_ne h0
    clear HT
    go_enter Tryz.func28,Tryz.ntmps28
    go_wp2_with (first | (go_at_call 27; refine (HC.out _).mono ?_; rintro ee w1 ⟨rfl,hb⟩; refine Hid.out ?_) | fail)
    refine Lib.hid ?_
    have HB1:=Lib.hid (HB0.out.trans (hb.mono HB0.out.size))
    obtain ⟨c0,c1,c2,c3,_⟩:=four_cells (HP0.out.on hb)
    clear hb
    go_wp2
    go_ret
    exact ⟨by rw [HT2.out]; rfl,HB1.out⟩
  | true =>
   have HT : Hid (D=if sixOf d=true then fl++⟨#[64,91,73,80,118,54,58]⟩++d++⟨#[93]⟩ else fl++⟨#[64,91]⟩++d++⟨#[93]⟩):=HD.out
   clear HD
   have s1 : ¬ 9223372036854775807 < fl.size + 7:=by omega
   have s2 : ¬ 9223372036854775807 < fl.size + 7 + d.size:=by omega
   have s3 : ¬ 9223372036854775807 < fl.size + 7 + d.size + 1:=by omega
   have s4 : ¬ 9223372036854775807 < fl.size + 2:=by omega
   have s5 : ¬ 9223372036854775807 < fl.size + 2 + d.size:=by omega
   have s6 : ¬ 9223372036854775807 < fl.size + 2 + d.size + 1:=by omega
   have CA:=Lib.hid (fun w1=>Cidr.rAddr d w1 (Nat.le_trans hd2 (by decide)))
   have HSX : Hid (sixOf d=match Cidr.addrN d with | some n=>n.six | none=>false):=rfl
   generalize sixOf d=sx at HT HSX
   generalize Cidr.addrN d=o at CA HSX
   cases o with
   | none =>
    have CA2:=Lib.hid (fun w1=>Cidr.addr_no (CA.out w1))
    clear CA
    have HT2 : Hid (D=fl++⟨#[64,91]⟩++d++⟨#[93]⟩):=by show _=_; rw [HT.out,HSX.out]; rfl
    clear HT
    by_cases h0 : d.size=0
    case' pos=>obtain rfl:=str_empty h0
    case' neg=>obtain ⟨hn1,hn2⟩:=str_ne h0
    all_goals
     clear h0
     go_enter Tryz.func28,Tryz.ntmps28
     go_wp2_with (first | (go_at_call 27; refine (HC.out _).mono ?_; rintro ee w1 ⟨rfl,hb⟩; refine Hid.out ?_) | fail)
     refine Lib.hid ?_
     have HB1:=Lib.hid (HB0.out.trans (hb.mono HB0.out.size))
     have HP1:=Lib.hid (HP0.out.on hb)
     obtain ⟨c0,c1,c2,c3,_⟩:=four_cells (HP0.out.on hb)
     clear hb
     go_wp2_with (first | (go_at_call 24; refine (CA2.out _).mono ?_; rintro ee w3 ⟨rfl,hb⟩; refine Hid.out ?_) | fail)
     refine Lib.hid ?_
     have HB3:=Lib.hid (HB1.out.trans (hb.mono HB1.out.size))
     have HP3:=Lib.hid (HP1.out.on hb)
     have HT3:=Lib.hid (Cidr.there_net (Cidr.NetAt.new w3 Cidr.zeroN) rfl (n:=Cidr.zeroN) rfl)
     have HC3:=Lib.hid (Cidr.size25c (n:=Cidr.zeroN) rfl)
     clear hb c0 c1 c2 c3
     go_wp2_with (first | (refine wpList_store_mid rfl 70 (.tmp 4) (.tmp 34) rfl w3.heap.size 0 (Cidr.netC Cidr.zeroN) rfl rfl HT3.out HC3.out (Cidr.netC_all _) ?_; generalize hw4 : World.setCells _ _ _ _=w4; refine Hid.out ?_) | fail)
     refine Lib.hid ?_
     obtain ⟨hn4,hb4⟩:=Cidr.net_new (n:=Cidr.zeroN) rfl hw4
     have HB4:=Lib.hid (HB3.out.trans (hb4.mono HB3.out.size))
     obtain ⟨c0,c1,c2,c3,_⟩:=four_cells (HP3.out.on hb4)
     have y0:=hn4.six
     clear hw4 hn4 hb4 HT3 HC3
     go_wp2
     go_ret
     exact ⟨by rw [HT2.out]; rfl,HB4.out⟩
   | some n =>
    have CA2:=Lib.hid (fun w1=>Cidr.addr_yes (CA.out w1))
    clear CA
    have HSX2 : Hid (sx=n.six):=HSX.out
    clear HSX
    cases hsx : n.six with
    | true =>
     have HSX : Hid (sx=true):=by show _=_; rw [HSX2.out,hsx]
     have HX:=Lib.hid hsx
     clear HSX2 hsx
     have HT2 : Hid (D=fl++⟨#[64,91,73,80,118,54,58]⟩++d++⟨#[93]⟩):=by show _=_; rw [HT.out,HSX.out]; rfl
     clear HT
     by_cases h0 : d.size=0
     case' pos=>obtain rfl:=str_empty h0
     case' neg=>obtain ⟨hn1,hn2⟩:=str_ne h0
     all_goals
      clear h0
      go_enter Tryz.func28,Tryz.ntmps28
      go_wp2_with (first | (go_at_call 27; refine (HC.out _).mono ?_; rintro ee w1 ⟨rfl,hb⟩; refine Hid.out ?_) | fail)
      refine Lib.hid ?_
      have HB1:=Lib.hid (HB0.out.trans (hb.mono HB0.out.size))
      have HP1:=Lib.hid (HP0.out.on hb)
      obtain ⟨c0,c1,c2,c3,_⟩:=four_cells (HP0.out.on hb)
      clear hb
      go_wp2_with (first | (go_at_call 24; refine (CA2.out _).mono ?_; rintro ee w3 ⟨hna,rfl,hb⟩; refine Hid.out ?_) | fail)
      refine Lib.hid ?_
      have HNA:=Lib.hid hna
      have HB3:=Lib.hid (HB1.out.trans (hb.mono HB1.out.size))
      have HP3:=Lib.hid (HP1.out.on hb)
      have HT3:=Lib.hid (Cidr.there_net (Cidr.NetAt.new w3 Cidr.zeroN) rfl (n:=n) hna)
      have HC3:=Lib.hid (Cidr.size25c (n:=n) hna)
      clear hb c0 c1 c2 c3 hna
      go_wp2_with (first | (refine wpList_store_mid rfl 70 (.tmp 4) (.tmp 34) rfl w3.heap.size 0 (Cidr.netC n) rfl rfl HT3.out HC3.out (Cidr.netC_all _) ?_; generalize hw4 : World.setCells _ _ _ _=w4; refine Hid.out ?_) | fail)
      refine Lib.hid ?_
      obtain ⟨hn4,hb4⟩:=Cidr.net_new (n:=n) HNA.out hw4
      have HB4:=Lib.hid (HB3.out.trans (hb4.mono HB3.out.size))
      obtain ⟨c0,c1,c2,c3,_⟩:=four_cells (HP3.out.on hb4)
      have y0:=hn4.six
      rw [HX.out] at y0
      clear hw4 hn4 hb4 HT3 HC3
      go_wp2
      go_ret
      exact ⟨by rw [HT2.out]; rfl,HB4.out⟩
    | false =>
     have HSX : Hid (sx=false):=by show _=_; rw [HSX2.out,hsx]
     have HX:=Lib.hid hsx
     clear HSX2 hsx
     have HT2 : Hid (D=fl++⟨#[64,91]⟩++d++⟨#[93]⟩):=by show _=_; rw [HT.out,HSX.out]; rfl
     clear HT
     by_cases h0 : d.size=0
     case' pos=>obtain rfl:=str_empty h0
     case' neg=>obtain ⟨hn1,hn2⟩:=str_ne h0
     all_goals
      clear h0
      go_enter Tryz.func28,Tryz.ntmps28
      go_wp2_with (first | (go_at_call 27; refine (HC.out _).mono ?_; rintro ee w1 ⟨rfl,hb⟩; refine Hid.out ?_) | fail)
      refine Lib.hid ?_
      have HB1:=Lib.hid (HB0.out.trans (hb.mono HB0.out.size))
      have HP1:=Lib.hid (HP0.out.on hb)
      obtain ⟨c0,c1,c2,c3,_⟩:=four_cells (HP0.out.on hb)
      clear hb
      go_wp2_with (first | (go_at_call 24; refine (CA2.out _).mono ?_; rintro ee w3 ⟨hna,rfl,hb⟩; refine Hid.out ?_) | fail)
      refine Lib.hid ?_
      have HNA:=Lib.hid hna
      have HB3:=Lib.hid (HB1.out.trans (hb.mono HB1.out.size))
      have HP3:=Lib.hid (HP1.out.on hb)
      have HT3:=Lib.hid (Cidr.there_net (Cidr.NetAt.new w3 Cidr.zeroN) rfl (n:=n) hna)
      have HC3:=Lib.hid (Cidr.size25c (n:=n) hna)
      clear hb c0 c1 c2 c3 hna
      go_wp2_with (first | (refine wpList_store_mid rfl 70 (.tmp 4) (.tmp 34) rfl w3.heap.size 0 (Cidr.netC n) rfl rfl HT3.out HC3.out (Cidr.netC_all _) ?_; generalize hw4 : World.setCells _ _ _ _=w4; refine Hid.out ?_) | fail)
      refine Lib.hid ?_
      obtain ⟨hn4,hb4⟩:=Cidr.net_new (n:=n) HNA.out hw4
      have HB4:=Lib.hid (HB3.out.trans (hb4.mono HB3.out.size))
      obtain ⟨c0,c1,c2,c3,_⟩:=four_cells (HP3.out.on hb4)
      have y0:=hn4.six
      rw [HX.out] at y0
      clear hw4 hn4 hb4 HT3 HC3
      go_wp2
      go_ret
      exact ⟨by rw [HT2.out]; rfl,HB4.out⟩
end Go.Proofs.YtghnopkgcgfcpaaGreatDoor.Path
