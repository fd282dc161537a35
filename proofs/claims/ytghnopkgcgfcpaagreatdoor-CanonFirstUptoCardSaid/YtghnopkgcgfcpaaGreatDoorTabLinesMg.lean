/-
  MERGED by mergefill.py: TabLines, TabParM, TabPLib, TabIdx.
-/
import Derived.Test.YtghnopkgcgfcpaaGreatDoorTabSearchMg
import Derived.Shelf.Strings.SlTrimAscii
import Derived.Laws.Runes
import Derived.Laws.RangeAny
import Derived.Lib.QuoteLoop
import Derived.Deep.CutBlock
import Derived.Deep.DeepCutAuto
import Derived.BigQuiet
import Derived.Deep.LoopGhost
set_option maxHeartbeats 16000000
set_option maxRecDepth 100000
namespace Go.Proofs.YtghnopkgcgfcpaaGreatDoor.Table
open Go.RowKit Base
def LinesEndF (fin : LS) (w : World) (e : Ending) (w' : World) : Prop :=
 ∃ own ov bv es,e=.returned (.tuple #[ov,bv])∧es.map Prod.fst=fin.1∧LSt own w w' ov bv es fin.2
def LinesEnd (l : List UInt8) (w : World) (e : Ending) (w' : World) : Prop:=LinesEndF (linesOf l) w e w'
def BadSt (s : ByteArray) (w : World) (bv : Value) (k : Nat) (wr : World) : Prop:=∃ own,LSt own w wr (.slice none 0 0) bv [] (badK s.data.toList k)
theorem BadSt.start (s : ByteArray) (w : World) : BadSt s w (.slice none 0 0) 0 w :=
 ⟨fun _=>.no,⟨Below.refl _ _,World.ownsRow_nil _ _ _ _,(fun b hb=>by cases hb),World.ownsRow_nil _ _ _ _,(fun b hb=>by cases hb),(fun i e he=>by simp at he),fun _ _=>rfl⟩⟩
structure LnR (s : ByteArray) (w : World) (fin : LS) (ov bv : Value) (a : Nat) (wr : World) (own : Nat→Tg) (es : List (Ent × Value)) (bad : List Nat) : Prop where
 st : LSt own w wr ov bv es bad
 eq : linesFrom a (splitB 10 (s.data.toList.drop a)) (es.map Prod.fst,bad)=fin
 le : es.length≤a
 bl : bad.length≤s.size + a
 ml : ∀ e ∈ es,e.1.more.length≤a
theorem set_last {es : List (Ent × Value)} {e : Ent × Value} (he : es[es.length - 1]?=some e) (p : List UInt8) (v : Value) : (es.set (es.length - 1) ({ e.1 with more:=e.1.more++[p] },v)).map Prod.fst=addLast (es.map Prod.fst) p:=by
 unfold addLast
 rw [List.length_map,List.getElem?_map,he]
 show _=(es.map Prod.fst).set _ _
 rw [List.map_set]
section
variable {s : ByteArray} {w wr w' : World} {fin : LS} {ov bv ov' bv' : Value} {a e : Nat} {own own' : Nat→Tg} {es es' : List (Ent × Value)} {bad bad' : List Nat}
theorem LnR.step (h : LnR s w fin ov bv a wr own es bad) (h1 : a≤e) (h2 : e≤s.size) (hno : ∀ j,a≤j→j < e→s.data.toList.getD j 0 ≠ 10) (hat : e < s.size→s.data.toList.getD e 0=10) :
  linesFrom (e + 1) (splitB 10 (s.data.toList.drop (e + 1))) (stepL (es.map Prod.fst,bad) a ((s.data.toList.take e).drop a))=fin:=by
 rw [← h.eq]
 exact (lines_next _ h1 (by rw [str_len]; exact h2) hno (by rw [str_len]; exact hat)).symm
theorem LnR.skip (h : LnR s w fin ov bv a wr own es bad) (h1 : a≤e) {line : List UInt8} (hst : linesFrom (e + 1) (splitB 10 (s.data.toList.drop (e + 1))) (stepL (es.map Prod.fst,bad) a line)=fin) (hs : skipB line=true) : LnR s w fin ov bv (e + 1) wr own es bad:=by
 unfold stepL at hst
 rw [if_pos hs] at hst
 exact ⟨h.st,hst,by have:=h.le; omega,by have:=h.bl; omega,fun x hx=>by have:=h.ml x hx; omega⟩
theorem LnR.wrong (h : LnR s w fin ov bv a wr own es bad) (h1 : a≤e) {line : List UInt8} (hst : linesFrom (e + 1) (splitB 10 (s.data.toList.drop (e + 1))) (stepL (es.map Prod.fst,bad) a line)=fin) (hs : skipB line=false) (hb : headIs isBl line=true) (h0 : es=[]) (hn : LSt own' w w' ov bv' es (bad++[a])) : LnR s w fin ov bv' (e + 1) w' own' es (bad++[a]):=by
 unfold stepL at hst
 rw [if_neg (by rw [hs]; simp),if_pos hb,if_pos (by rw [h0]; rfl)] at hst
 exact ⟨hn,hst,by have:=h.le; omega,by rw [List.length_append]; have:=h.bl; simp; omega,fun x hx=>by have:=h.ml x hx; omega⟩
theorem LnR.more (h : LnR s w fin ov bv a wr own es bad) (h1 : a≤e) {line : List UInt8} (hst : linesFrom (e + 1) (splitB 10 (s.data.toList.drop (e + 1))) (stepL (es.map Prod.fst,bad) a line)=fin) (hs : skipB line=false) (hb : headIs isBl line=true) {x : Ent × Value} (hx : es[es.length - 1]?=some x) {v' : Value}
  (hn : LSt own' w w' ov bv (es.set (es.length - 1) ({ x.1 with more:=x.1.more++[trim line] },v')) bad) : LnR s w fin ov bv (e + 1) w' own' (es.set (es.length - 1) ({ x.1 with more:=x.1.more++[trim line] },v')) bad:=by
 have hne : es ≠ []:=fun e=>by rw [e] at hx; simp at hx
 unfold stepL at hst
 rw [if_neg (by rw [hs]; simp),if_pos hb,if_neg (by simpa using hne)] at hst
 refine ⟨hn,by rw [set_last hx]; exact hst,by rw [List.length_set]; have:=h.le; omega,by have:=h.bl; omega,fun y hy=>?_⟩
 have hmx:=h.ml x (List.mem_of_getElem? hx)
 rcases List.mem_or_eq_of_mem_set hy with hy | rfl
 ·have:=h.ml y hy; omega
 ·show (x.1.more++[trim line]).length≤_
  rw [List.length_append]; simp; omega
theorem LnR.line (h : LnR s w fin ov bv a wr own es bad) (h1 : a≤e) {line : List UInt8} (hst : linesFrom (e + 1) (splitB 10 (s.data.toList.drop (e + 1))) (stepL (es.map Prod.fst,bad) a line)=fin) (hs : skipB line=false) (hb : headIs isBl line=false)
  (hn : LSt own' w w' ov' bv (es++[(⟨a,line,[]⟩,.slice none 0 0)]) bad) : LnR s w fin ov' bv (e + 1) w' own' (es++[(⟨a,line,[]⟩,.slice none 0 0)]) bad:=by
 unfold stepL at hst
 rw [if_neg (by rw [hs]; simp),if_neg (by rw [hb]; simp)] at hst
 refine ⟨hn,by rw [List.map_append]; exact hst,by rw [List.length_append]; have:=h.le; simp; omega,by have:=h.bl; omega,fun y hy=>?_⟩
 rcases List.mem_append.1 hy with hy | hy
 ·have:=h.ml y hy; omega
 ·rw [List.mem_singleton.1 hy]; exact Nat.zero_le _
end
theorem LSt.lastCell {own : Nat→Tg} {w0 w : World} {bv : Value} {oa : Option Addr} {oc n : Nat} {es : List (Ent × Value)} {bad : List Nat} (h : LSt own w0 w (.slice oa n oc) bv es bad) {i : Nat} {x : Ent × Value} (hx : es[i]?=some x) :
  ∃ g,oa=some ⟨g,0,none⟩∧w.cell? ⟨g,i * 3 + 2,none⟩=some x.2∧w.frozen? ⟨g,i * 3 + 2,none⟩=false:=by
 have hil:=(List.getElem?_eq_some_iff.1 hx).1
 have ho:=h.orow
 rcases ho.2 with ⟨_,hn⟩ | ⟨g,cap,cur,he,_⟩
 ·omega
 ·cases he
  exact ⟨g,rfl,by rw [World.ownsRow.cellAt ho (i * 3 + 2) (by omega),flat3 es i 2 x hx (by omega)]; rfl,World.ownsRow.frozenAt ho _⟩
theorem ext_mid (s : ByteArray) (a e : Nat) (line : ByteArray) (h : s.extract a e=line) : line.data.toList=(s.data.toList.take e).drop a∧line.size≤s.size:=by
 have h1 : line.data.toList=(s.data.toList.take e).drop a:=by rw [← h,extract_bytes]
 refine ⟨h1,?_⟩
 rw [← str_len line,h1,List.length_drop,List.length_take,str_len]; omega
theorem head_at (p : UInt8→Bool) (t : ByteArray) (h : 0 < t.size) : headIs p t.data.toList=p t[0]:=by rw [ext_tail t h]; rfl
theorem skip_yes0 {line : List UInt8} {inn : ByteArray} (h : inn.data.toList=trim line) (h0 : inn.size=0) : skipB line=true:=by
 have : trim line=[]:=by rw [← h]; exact List.eq_nil_of_length_eq_zero (by rw [str_len]; exact h0)
 simp [skipB,this]
theorem skip_yes1 {line : List UInt8} {inn : ByteArray} (h : inn.data.toList=trim line) (h0 : 0 < inn.size) (h1 : inn[0].toNat=35) : skipB line=true:=by
 unfold skipB
 rw [← h,head_at isHash inn h0]
 simp [isHash,h1]
theorem skip_no {line : List UInt8} {inn : ByteArray} (h : inn.data.toList=trim line) (h0 : 0 < inn.size) (h1 : ¬ inn[0].toNat=35) : skipB line=false:=by
 unfold skipB
 rw [← h,head_at isHash inn h0]
 have : ¬ inn.data.toList=[]:=fun e=>by have:=str_len inn; rw [e] at this; simp at this; omega
 simp [isHash,h1,this]
def LnX (s : ByteArray) (w : World) (fin : LS) (ov bv : Value) (a : Nat) (wr : World) : Prop:=∃ own es bad,LnR s w fin ov bv a wr own es bad
theorem rLines (s : ByteArray) (w : World) (hs : s.size≤262144) : Calls Tryz.prog 46 #[.string s] w (LinesEnd s.data.toList w):=by
 obtain ⟨fin,hfin⟩ : ∃ fin,fin=linesOf s.data.toList:=⟨_,rfl⟩
 have HFIN:=Lib.hid hfin
 unfold LinesEnd
 rw [← hfin]
 clear hfin
 go_enter Tryz.func46,Tryz.ntmps46
 go_wp2
 go_loopw [5,6] (fun b i wr=>∃ (k : Nat) (bv : Value),k≤s.size∧i=.int .i64 k∧b=bv∧Hid (BadSt s w bv k wr)) (fun _ i _=>s.size - (intOf i).toNat)
 case atStart=>exact ⟨0,_,by omega,rfl,rfl,BadSt.start s w⟩
 case round =>
  obtain ⟨k,bv,hk,rfl,hbv,HBS⟩:=hrel
  obtain rfl : bv=_:=hbv.symm
  by_cases hlt : k < s.size
  ·have i0 : (0 : Int)≤(k : Int):=by omega
   have i1 : (k : Int) < (s.size : Int):=by omega
   have HG:=Lib.hid (str_get s k hlt)
   have hx:=s[k].toNat_lt
   have HY : isOkB s[k]=true→Hid (BadSt s w bv (k + 1) wr):=fun h=>by
    obtain ⟨own,h1⟩:=HBS.out
    exact ⟨own,by rw [badK_yes (by rw [HG.out]; exact h)]; exact h1⟩
   by_cases h9 : s[k].toNat=9
   ·have e1 : ((s[k].toNat : Int) == 9)=true:=by rw [h9]; rfl
    have HB:=HY (by simp [isOkB,h9])
    clear HY h9 HBS
    go_wp2
    go_roundw
    case rel=>exact ⟨k + 1,bv,by omega,by go_num,rfl,HB⟩
    case measure=>simp [intOf]; omega
   ·have e1 : ((s[k].toNat : Int) == 9)=false:=by rw [beq_eq_false_iff_ne]; omega
    by_cases h10 : s[k].toNat=10
    ·have e2 : ((s[k].toNat : Int) == 10)=true:=by rw [h10]; rfl
     have HB:=HY (by simp [isOkB,h10])
     clear HY h9 h10 HBS
     go_wp2
     go_roundw
     case rel=>exact ⟨k + 1,bv,by omega,by go_num,rfl,HB⟩
     case measure=>simp [intOf]; omega
    ·have e2 : ((s[k].toNat : Int) == 10)=false:=by rw [beq_eq_false_iff_ne]; omega
     by_cases h32 : 32≤s[k].toNat
     ·have e3 : (32 : Int)≤(s[k].toNat : Int):=by omega
      by_cases h126 : s[k].toNat≤126
      ·have e4 : (s[k].toNat : Int)≤126:=by omega
       have HB:=HY (by simp [isOkB,h32,h126])
       clear HY h9 h10 h32 h126 HBS
       go_wp2
       go_roundw
       case rel=>exact ⟨k + 1,bv,by omega,by go_num,rfl,HB⟩
       case measure=>simp [intOf]; omega
      ·have e4 : ¬ (s[k].toNat : Int)≤126:=by omega
       have HNO:=Lib.hid (show isOkB s[k]=false by simp [isOkB,h9,h10]; omega)
       clear HY h9 h10 h32 h126
       have HBL:=Lib.hid (badK_len s.data.toList k)
       obtain ⟨own,hst⟩:=HBS.out
       have HST:=Lib.hid hst
       clear hst HBS
       go_wp2_with (at_builtin; go_must (refine wp_addBad rfl _ _ rfl HST.out (by have:=HBL.out; omega) k rfl rfl ?_); intro v2 w2 own2 hst2; refine Hid.out ?_)
       refine Lib.hid ?_
       have HB : Hid (BadSt s w v2 (k + 1) w2):=⟨own2,by rw [badK_no (by rw [HG.out]; exact HNO.out)]; exact hst2⟩
       clear hst2
       go_wp2
       go_roundw
       case rel=>exact ⟨k + 1,v2,by omega,by go_num,rfl,HB⟩
       case measure=>simp [intOf]; omega
     ·have e3 : ¬ (32 : Int)≤(s[k].toNat : Int):=by omega
      have HNO:=Lib.hid (show isOkB s[k]=false by simp [isOkB,h9,h10]; omega)
      clear HY h9 h10 h32
      have HBL:=Lib.hid (badK_len s.data.toList k)
      obtain ⟨own,hst⟩:=HBS.out
      have HST:=Lib.hid hst
      clear hst HBS
      go_wp2_with (at_builtin; go_must (refine wp_addBad rfl _ _ rfl HST.out (by have:=HBL.out; omega) k rfl rfl ?_); intro v2 w2 own2 hst2; refine Hid.out ?_)
      refine Lib.hid ?_
      have HB : Hid (BadSt s w v2 (k + 1) w2):=⟨own2,by rw [badK_no (by rw [HG.out]; exact HNO.out)]; exact hst2⟩
      clear hst2
      go_wp2
      go_roundw
      case rel=>exact ⟨k + 1,v2,by omega,by go_num,rfl,HB⟩
      case measure=>simp [intOf]; omega
  ·have i1 : ¬ (k : Int) < (s.size : Int):=by omega
   have HL0 : Hid (LnX s w fin (.slice none 0 0) bv 0 wr):=by
    obtain ⟨own,h1⟩:=HBS.out
    have hk2 : k=s.data.toList.length:=by rw [str_len]; omega
    refine ⟨own,[],_,h1,?_,Nat.le_refl _,?_,fun e he=>by simp at he⟩
    ·rw [HFIN.out,hk2]; rfl
    ·have:=badK_len s.data.toList k; omega
   clear HBS hlt
   obtain ⟨wo,hwo⟩ : ∃ wo : World,wo=wr:=⟨_,rfl⟩
   subst hwo
   go_wp2
   go_loopw [4,5,8] (fun o b i wx=>∃ (a : Nat) (ov bv : Value),a≤s.size + 1∧i=.int .i64 a∧o=ov∧b=bv∧Hid (LnX s w fin ov bv a wx)) (fun _ _ i _=>s.size + 1 - (intOf i).toNat)
   case atStart=>exact ⟨0,_,_,by omega,rfl,rfl,rfl,HL0⟩
   case round =>
    clear HL0
    obtain ⟨a,ov,bv,ha,rfl,hov,hbv,HLX⟩:=hrel
    obtain rfl : bv=_:=hbv.symm
    obtain rfl : ov=_:=hov.symm
    obtain ⟨own,es,bad,hln⟩:=HLX.out
    obtain ⟨oa,oc,rfl,hoc⟩:=row_form hln.st.orow
    have HLN:=Lib.hid hln
    clear hln HLX
    by_cases hlt : a < s.size
    ·have i0 : (0 : Int)≤(a : Int):=by omega
     have i1 : (a : Int) < (s.size : Int):=by omega
     obtain ⟨wo2,hwo2⟩ : ∃ wo2 : World,wo2=wr:=⟨_,rfl⟩
     subst hwo2
     go_wp2
     go_loop [9] (fun i=>∃ e : Nat,a≤e∧e≤s.size∧i=.int .i64 e∧Hid (∀ j,a≤j→j < e→s.data.toList.getD j 0 ≠ 10)) (fun i=>s.size - (intOf i).toNat)
     case atStart=>exact ⟨a,by omega,by omega,rfl,fun j h1 h2=>by omega⟩
     case round =>
      obtain ⟨e,hae,hes,rfl,HNO⟩:=hrel
      have j0 : (0 : Int)≤(e : Int):=by omega
      have j2 : (e : Int)≤(s.size : Int):=by omega
      have j3 : (a : Int)≤(e : Int):=by omega
      by_cases he : e < s.size
      ·have j1 : (e : Int) < (s.size : Int):=by omega
       have HGE:=Lib.hid (str_get s e he)
       by_cases h10 : s[e].toNat=10
       ·have e1 : ((s[e].toNat : Int) != 10)=false:=by rw [h10]; rfl
        have HST:=Lib.hid (HLN.out.step hae hes HNO.out (fun _=>by rw [HGE.out]; exact UInt8.toNat_inj.1 h10))
        clear h10 HNO
        have HLS : Hid (∀ line : ByteArray,s.extract a e=line→line.data.toList=(s.data.toList.take e).drop a∧line.size≤s.size):=fun line h=>ext_mid s a e line h
        go_wp2_with fail
        generalize hline : s.extract a e=line
        obtain ⟨hl1,hl2⟩:=HLS.out _ hline
        rw [← hl1] at HST
        obtain ⟨inn,hinn⟩ : ∃ inn : ByteArray,inn.data.toList=trim line.data.toList:=⟨⟨(trim line.data.toList).toArray⟩,rfl⟩
        have HT : Hid (∀ w1,Calls Tryz.prog 77 #[.string line] w1 fun e w'=>e=.returned (.string inn)∧w1=w'):=fun w1=>by
         have:=rTrim line w1 (by omega)
         rw [← hinn] at this
         exact this
        have HINN:=Lib.hid hinn
        clear hline hl1 HLS hinn
        have hil : inn.size≤line.size:=by rw [← str_len,HINN.out,← str_len line]; exact trim_len _
        have HB : Hid (∀ (h : 0 < line.size) w1,Calls Tryz.prog 78 #[.int .u8 (line[0].toNat : Int)] w1 fun e w'=>e=.returned (.bool (isBl line[0]))∧w1=w'):=fun h w1=>rBlank line[0] w1
        by_cases hi : inn.size=0
        ·have e4 : inn.toList=[]:=(toList_nil_iff_emptyBytes inn).2 (str_empty hi)
         have e3 : inn.toList.isEmpty=true:=by rw [e4]; rfl
         have HFX : Hid (LnX s w fin (.slice oa es.length oc) bv (e + 1) wo2):=⟨own,es,bad,HLN.out.skip hae HST.out (skip_yes0 HINN.out hi)⟩
         clear hi HST HINN
         refine (HT.out _).mono ?_
         rintro e' w' ⟨rfl,rfl⟩
         go_wp2
         go_roundw
         case rel=>exact ⟨e + 1,_,bv,by omega,by go_num,rfl,rfl,HFX⟩
         case measure=>simp [intOf]; omega
        ·obtain ⟨e3,e4⟩:=str_ne hi
         have hi0 : 0 < inn.size:=by omega
         have hl0 : 0 < line.size:=by omega
         have n0 : (0 : Int) < (inn.size : Int):=by omega
         have n1 : (0 : Int) < (line.size : Int):=by omega
         by_cases h35 : inn[0].toNat=35
         ·have e5 : ((inn[0].toNat : Int) == 35)=true:=by rw [h35]; rfl
          have HFX : Hid (LnX s w fin (.slice oa es.length oc) bv (e + 1) wo2):=⟨own,es,bad,HLN.out.skip hae HST.out (skip_yes1 HINN.out hi0 h35)⟩
          clear hi h35 HST HINN
          refine (HT.out _).mono ?_
          rintro e' w' ⟨rfl,rfl⟩
          go_wp2
          go_roundw
          case rel=>exact ⟨e + 1,_,bv,by omega,by go_num,rfl,rfl,HFX⟩
          case measure=>simp [intOf]; omega
         ·have e5 : ((inn[0].toNat : Int) == 35)=false:=by rw [beq_eq_false_iff_ne]; omega
          have HNS:=Lib.hid (skip_no HINN.out hi0 h35)
          have HHD:=Lib.hid (head_at isBl line hl0)
          have HB2:=Lib.hid (HB.out hl0)
          clear hi h35 HB
          cases hb : isBl line[0]
          ·rw [hb] at HB2 HHD
           clear hb
           have hle:=HLN.out.le
           refine (HT.out _).mono ?_
           rintro e' w' ⟨rfl,rfl⟩
           go_wp2_with (first | (go_at_call 78; refine (HB2.out _).mono ?_; rintro e' w' ⟨rfl,rfl⟩) | (at_builtin; go_must (refine wp_addLine rfl _ _ rfl HLN.out.st (by omega) a line rfl rfl ?_); intro v2 w2 own2 hst2; refine Hid.out ?_) | fail)
           refine Lib.hid ?_
           have HFX : Hid (LnX s w fin v2 bv (e + 1) w2):=⟨own2,_,bad,HLN.out.line hae HST.out HNS.out HHD.out hst2⟩
           clear hst2
           go_wp2
           go_roundw
           case rel=>exact ⟨e + 1,_,bv,by omega,by go_num,rfl,rfl,HFX⟩
           case measure=>simp [intOf]; omega
          ·rw [hb] at HB2 HHD
           clear hb
           have hle:=HLN.out.le
           have hbl:=HLN.out.bl
           by_cases hes0 : es.length=0
           ·have e6 : ((es.length : Int) == 0)=true:=by rw [hes0]; rfl
            have HES:=Lib.hid (List.eq_nil_of_length_eq_zero hes0)
            clear hes0
            refine (HT.out _).mono ?_
            rintro e' w' ⟨rfl,rfl⟩
            go_wp2_with (first | (go_at_call 78; refine (HB2.out _).mono ?_; rintro e' w' ⟨rfl,rfl⟩) | (at_builtin; go_must (refine wp_addBad rfl _ _ rfl HLN.out.st (by omega) a rfl rfl ?_); intro v2 w2 own2 hst2; refine Hid.out ?_) | fail)
            refine Lib.hid ?_
            have HFX : Hid (LnX s w fin (.slice oa es.length oc) v2 (e + 1) w2):=⟨own2,es,_,HLN.out.wrong hae HST.out HNS.out HHD.out HES.out hst2⟩
            clear hst2
            go_wp2
            go_roundw
            case rel=>exact ⟨e + 1,_,v2,by omega,by go_num,rfl,rfl,HFX⟩
            case measure=>simp [intOf]; omega
           ·have e6 : ((es.length : Int) == 0)=false:=by rw [beq_eq_false_iff_ne]; omega
            obtain ⟨i,hi⟩ : ∃ i,es.length=i + 1:=⟨es.length - 1,by omega⟩
            obtain ⟨x,hx⟩ : ∃ x,es[i]?=some x:=⟨es[i],List.getElem?_eq_getElem (by omega)⟩
            have hx2 : es[es.length - 1]?=some x:=by rw [hi]; exact hx
            obtain ⟨g,rfl,c1,c2⟩:=HLN.out.st.lastCell hx
            have k1 : (es.length : Int) - 1=(i : Int):=by omega
            have k2 : (0 : Int)≤(i : Int):=by omega
            have k3 : (i : Int) < (es.length : Int):=by omega
            have hml:=HLN.out.ml x (List.mem_of_getElem? hx)
            have HX:=Lib.hid hx
            have HX2:=Lib.hid hx2
            have HI:=Lib.hid hi
            obtain ⟨xa,xc,hxf,hxc⟩:=row_form (HLN.out.st.lines i x hx).row
            have HXF:=Lib.hid hxf
            rw [hxf] at c1
            clear hes0 hx hx2 hi hxf
            refine (HT.out _).mono ?_
            rintro e' w' ⟨rfl,rfl⟩
            go_wp2_with (first | (go_at_call 78; refine (HB2.out _).mono ?_; rintro e' w' ⟨rfl,rfl⟩) | (at_builtin; go_must (refine wp_addMore rfl _ _ rfl HLN.out.st HX.out (by omega) inn.data.toList rfl (.slice xa x.1.more.length xc) HXF.out rfl rfl ?_); rintro va vn vc v2 w2 own2 rfl hst2 c3 c4; refine Hid.out ?_) | fail)
            refine Lib.hid ?_
            obtain ⟨u,c3⟩:=c3
            have HFX : Hid (LnX s w fin (.slice (some ⟨g,0,none⟩) es.length oc) bv (e + 1) (w2.setCell ⟨g,i * 3 + 2,none⟩ (.slice va vn vc))):=by
             have h9:=hst2
             rw [HINN.out] at h9
             refine ⟨own2,_,bad,HLN.out.more hae HST.out HNS.out HHD.out HX2.out (v':=.slice va vn vc) ?_⟩
             have hi : es.length - 1=i:=by have:=HI.out; omega
             rw [hi]; exact h9
            clear hst2 c1 c2
            go_wp2
            go_roundw
            case rel=>exact ⟨e + 1,_,bv,by omega,by go_num,rfl,rfl,HFX⟩
            case measure=>simp [intOf]; omega
       ·have e1 : ((s[e].toNat : Int) != 10)=true:=by rw [bne_iff_ne]; omega
        have HNO2 : Hid (∀ j,a≤j→j < e + 1→s.data.toList.getD j 0 ≠ 10):=fun j h1 h2=>by
         rcases Nat.lt_or_ge j e with h | h
         ·exact HNO.out j h1 h
         ·obtain rfl : j=e:=by omega
          rw [HGE.out]; intro hh; exact h10 (by rw [hh]; rfl)
        clear h10 HNO
        go_wp2
        go_round
        case rel=>exact ⟨e + 1,by omega,by omega,by go_num,HNO2⟩
        case measure=>simp [intOf]; omega
      ·have j1 : ¬ (e : Int) < (s.size : Int):=by omega
       have HST:=Lib.hid (HLN.out.step hae hes HNO.out (fun h=>absurd h he))
       clear HNO
       have HLS : Hid (∀ line : ByteArray,s.extract a e=line→line.data.toList=(s.data.toList.take e).drop a∧line.size≤s.size):=fun line h=>ext_mid s a e line h
       go_wp2_with fail
       generalize hline : s.extract a e=line
       obtain ⟨hl1,hl2⟩:=HLS.out _ hline
       rw [← hl1] at HST
       obtain ⟨inn,hinn⟩ : ∃ inn : ByteArray,inn.data.toList=trim line.data.toList:=⟨⟨(trim line.data.toList).toArray⟩,rfl⟩
       have HT : Hid (∀ w1,Calls Tryz.prog 77 #[.string line] w1 fun e w'=>e=.returned (.string inn)∧w1=w'):=fun w1=>by
        have:=rTrim line w1 (by omega)
        rw [← hinn] at this
        exact this
       have HINN:=Lib.hid hinn
       clear hline hl1 HLS hinn
       have hil : inn.size≤line.size:=by rw [← str_len,HINN.out,← str_len line]; exact trim_len _
       have HB : Hid (∀ (h : 0 < line.size) w1,Calls Tryz.prog 78 #[.int .u8 (line[0].toNat : Int)] w1 fun e w'=>e=.returned (.bool (isBl line[0]))∧w1=w'):=fun h w1=>rBlank line[0] w1
       by_cases hi : inn.size=0
       ·have e4 : inn.toList=[]:=(toList_nil_iff_emptyBytes inn).2 (str_empty hi)
        have e3 : inn.toList.isEmpty=true:=by rw [e4]; rfl
        have HFX : Hid (LnX s w fin (.slice oa es.length oc) bv (e + 1) wo2):=⟨own,es,bad,HLN.out.skip hae HST.out (skip_yes0 HINN.out hi)⟩
        clear hi HST HINN
        refine (HT.out _).mono ?_
        rintro e' w' ⟨rfl,rfl⟩
        go_wp2
        go_roundw
        case rel=>exact ⟨e + 1,_,bv,by omega,by go_num,rfl,rfl,HFX⟩
        case measure=>simp [intOf]; omega
       ·obtain ⟨e3,e4⟩:=str_ne hi
        have hi0 : 0 < inn.size:=by omega
        have hl0 : 0 < line.size:=by omega
        have n0 : (0 : Int) < (inn.size : Int):=by omega
        have n1 : (0 : Int) < (line.size : Int):=by omega
        by_cases h35 : inn[0].toNat=35
        ·have e5 : ((inn[0].toNat : Int) == 35)=true:=by rw [h35]; rfl
         have HFX : Hid (LnX s w fin (.slice oa es.length oc) bv (e + 1) wo2):=⟨own,es,bad,HLN.out.skip hae HST.out (skip_yes1 HINN.out hi0 h35)⟩
         clear hi h35 HST HINN
         refine (HT.out _).mono ?_
         rintro e' w' ⟨rfl,rfl⟩
         go_wp2
         go_roundw
         case rel=>exact ⟨e + 1,_,bv,by omega,by go_num,rfl,rfl,HFX⟩
         case measure=>simp [intOf]; omega
        ·have e5 : ((inn[0].toNat : Int) == 35)=false:=by rw [beq_eq_false_iff_ne]; omega
         have HNS:=Lib.hid (skip_no HINN.out hi0 h35)
         have HHD:=Lib.hid (head_at isBl line hl0)
         have HB2:=Lib.hid (HB.out hl0)
         clear hi h35 HB
         cases hb : isBl line[0]
         ·rw [hb] at HB2 HHD
          clear hb
          have hle:=HLN.out.le
          refine (HT.out _).mono ?_
          rintro e' w' ⟨rfl,rfl⟩
          go_wp2_with (first | (go_at_call 78; refine (HB2.out _).mono ?_; rintro e' w' ⟨rfl,rfl⟩) | (at_builtin; go_must (refine wp_addLine rfl _ _ rfl HLN.out.st (by omega) a line rfl rfl ?_); intro v2 w2 own2 hst2; refine Hid.out ?_) | fail)
          refine Lib.hid ?_
          have HFX : Hid (LnX s w fin v2 bv (e + 1) w2):=⟨own2,_,bad,HLN.out.line hae HST.out HNS.out HHD.out hst2⟩
          clear hst2
          go_wp2
          go_roundw
          case rel=>exact ⟨e + 1,_,bv,by omega,by go_num,rfl,rfl,HFX⟩
          case measure=>simp [intOf]; omega
         ·rw [hb] at HB2 HHD
          clear hb
          have hle:=HLN.out.le
          have hbl:=HLN.out.bl
          by_cases hes0 : es.length=0
          ·have e6 : ((es.length : Int) == 0)=true:=by rw [hes0]; rfl
           have HES:=Lib.hid (List.eq_nil_of_length_eq_zero hes0)
           clear hes0
           refine (HT.out _).mono ?_
           rintro e' w' ⟨rfl,rfl⟩
           go_wp2_with (first | (go_at_call 78; refine (HB2.out _).mono ?_; rintro e' w' ⟨rfl,rfl⟩) | (at_builtin; go_must (refine wp_addBad rfl _ _ rfl HLN.out.st (by omega) a rfl rfl ?_); intro v2 w2 own2 hst2; refine Hid.out ?_) | fail)
           refine Lib.hid ?_
           have HFX : Hid (LnX s w fin (.slice oa es.length oc) v2 (e + 1) w2):=⟨own2,es,_,HLN.out.wrong hae HST.out HNS.out HHD.out HES.out hst2⟩
           clear hst2
           go_wp2
           go_roundw
           case rel=>exact ⟨e + 1,_,v2,by omega,by go_num,rfl,rfl,HFX⟩
           case measure=>simp [intOf]; omega
          ·have e6 : ((es.length : Int) == 0)=false:=by rw [beq_eq_false_iff_ne]; omega
           obtain ⟨i,hi⟩ : ∃ i,es.length=i + 1:=⟨es.length - 1,by omega⟩
           obtain ⟨x,hx⟩ : ∃ x,es[i]?=some x:=⟨es[i],List.getElem?_eq_getElem (by omega)⟩
           have hx2 : es[es.length - 1]?=some x:=by rw [hi]; exact hx
           obtain ⟨g,rfl,c1,c2⟩:=HLN.out.st.lastCell hx
           have k1 : (es.length : Int) - 1=(i : Int):=by omega
           have k2 : (0 : Int)≤(i : Int):=by omega
           have k3 : (i : Int) < (es.length : Int):=by omega
           have hml:=HLN.out.ml x (List.mem_of_getElem? hx)
           have HX:=Lib.hid hx
           have HX2:=Lib.hid hx2
           have HI:=Lib.hid hi
           obtain ⟨xa,xc,hxf,hxc⟩:=row_form (HLN.out.st.lines i x hx).row
           have HXF:=Lib.hid hxf
           rw [hxf] at c1
           clear hes0 hx hx2 hi hxf
           refine (HT.out _).mono ?_
           rintro e' w' ⟨rfl,rfl⟩
           go_wp2_with (first | (go_at_call 78; refine (HB2.out _).mono ?_; rintro e' w' ⟨rfl,rfl⟩) | (at_builtin; go_must (refine wp_addMore rfl _ _ rfl HLN.out.st HX.out (by omega) inn.data.toList rfl (.slice xa x.1.more.length xc) HXF.out rfl rfl ?_); rintro va vn vc v2 w2 own2 rfl hst2 c3 c4; refine Hid.out ?_) | fail)
           refine Lib.hid ?_
           obtain ⟨u,c3⟩:=c3
           have HFX : Hid (LnX s w fin (.slice (some ⟨g,0,none⟩) es.length oc) bv (e + 1) (w2.setCell ⟨g,i * 3 + 2,none⟩ (.slice va vn vc))):=by
            have h9:=hst2
            rw [HINN.out] at h9
            refine ⟨own2,_,bad,HLN.out.more hae HST.out HNS.out HHD.out HX2.out (v':=.slice va vn vc) ?_⟩
            have hi : es.length - 1=i:=by have:=HI.out; omega
            rw [hi]; exact h9
           clear hst2 c1 c2
           go_wp2
           go_roundw
           case rel=>exact ⟨e + 1,_,bv,by omega,by go_num,rfl,rfl,HFX⟩
           case measure=>simp [intOf]; omega
    ·have i1 : ¬ (a : Int) < (s.size : Int):=by omega
     have HE : Hid (es.map Prod.fst=fin.1∧LSt own w wr (.slice oa es.length oc) bv es fin.2):=by
      have h1:=HLN.out.eq
      rw [List.drop_eq_nil_of_le (by rw [str_len]; omega),lines_end] at h1
      rw [← h1]
      exact ⟨rfl,HLN.out.st⟩
     go_wp2
     go_ret2
     exact ⟨own,_,_,es,rfl,HE.out⟩
end Go.Proofs.YtghnopkgcgfcpaaGreatDoor.Table
namespace Go.Proofs.YtghnopkgcgfcpaaGreatDoor.Table
open Go.RowKit Base
def wrongE (T : List KV) (x : KV) : Nat :=
 if 320 < x.1.length∨x.2=[]∨1000 < x.2.length then 61 else if hasOf T x.1=true then 63 else if 2000≤T.length then 62 else 0
def insKV (T : List KV) (x : KV) : List KV:=T.take (posOf T x.1)++x :: T.drop (posOf T x.1)
def minBad : List Nat→Nat × Nat→Nat × Nat
 | [],r=>r
 | x :: l,r=>minBad l (if x < r.1 then (x,61) else r)
abbrev PAns:=List KV × Nat × Nat
def runE : List Ent→Nat→Nat→List KV→PAns
 | [],a,c,T=>(T,c,a)
 | e :: r,a,c,T=>if e.pos < a then (if wrongE T (kvOf e)=0 then runE r a c (insKV T (kvOf e)) else runE r e.pos (wrongE T (kvOf e)) T) else (T,c,a)
def parseOf (l : List UInt8) : PAns :=
 if 262144 < l.length then ([],60,262144) else runE (linesOf l).1 (minBad (linesOf l).2 (l.length + 1,0)).1 (minBad (linesOf l).2 (l.length + 1,0)).2 []
def ParseEnd (ty : TypeId) (p : PAns) (w : World) (e : Ending) (w' : World) : Prop :=
 Below w.heap.size w w'∧((p.2.1=0∧∃ b,e=.returned (.tuple #[.pointer (some ⟨b,0,none⟩),.agg #[.int .i64 0,.int .i64 0]])∧TabNew ty w w' b p.1)∨(p.2.1 ≠ 0∧e=.returned (.tuple #[.pointer none,.agg #[.int .i64 (p.2.1 : Int),.int .i64 (p.2.2 : Int)]])))
structure Good (T : List KV) : Prop where
 rise : Rising T
 short : Short T
 few : T.length≤2000
theorem Good.nil : Good []:=⟨List.Pairwise.nil,fun p hp=>by simp at hp,Nat.zero_le _⟩
theorem tw_take {α : Type} {p : α→Bool} : ∀ (l : List α),l.take (l.takeWhile p).length=l.takeWhile p∧l.drop (l.takeWhile p).length=l.dropWhile p
 | []=>by simp
 | x :: r=>by
  obtain ⟨h1,h2⟩:=tw_take (p:=p) r
  by_cases h : p x=true
  ·simp [h,h1,h2]
  ·simp [h]
theorem tw_mem {α : Type} {p : α→Bool} {x : α} : ∀ (l : List α),x ∈ l.takeWhile p→p x=true
 | [],h=>by simp at h
 | y :: r,h=>by
  by_cases hy : p y=true
  ·rw [List.takeWhile_cons_of_pos hy] at h
   rcases List.mem_cons.1 h with rfl | h
   ·exact hy
   ·exact tw_mem r h
  ·rw [List.takeWhile_cons_of_neg hy] at h; simp at h
theorem dw_head {α : Type} {p : α→Bool} {x : α} {r : List α} : ∀ (l : List α),l.dropWhile p=x :: r→p x=false
 | [],h=>by simp at h
 | y :: l,h=>by
  by_cases hy : p y=true
  ·rw [List.dropWhile_cons_of_pos hy] at h; exact dw_head l h
  ·rw [List.dropWhile_cons_of_neg hy] at h
   cases h; simpa using hy
theorem bytes_total : ∀ (a b : List UInt8),a < b∨a=b∨b < a
 | [],[]=>Or.inr (Or.inl rfl)
 | [],_ :: _=>Or.inl (by simp)
 | _ :: _,[]=>Or.inr (Or.inr (by simp))
 | x :: a,y :: b=>by
  rw [List.cons_lt_cons_iff,List.cons_lt_cons_iff]
  rcases UInt8.lt_or_lt_of_ne (a:=x) (b:=y) |> fun h=>(Classical.em (x=y)).symm.imp_left h with h | h
  ·rcases h with h | h
   ·exact Or.inl (Or.inl h)
   ·exact Or.inr (Or.inr (Or.inl h))
  ·subst h
   rcases bytes_total a b with h | h | h
   ·exact Or.inl (Or.inr ⟨rfl,h⟩)
   ·exact Or.inr (Or.inl (by rw [h]))
   ·exact Or.inr (Or.inr (Or.inr ⟨rfl,h⟩))
theorem take_under {T : List KV} {key : List UInt8} : ∀ p ∈ T.take (posOf T key),p.1 < key:=by
 intro p hp
 unfold posOf at hp
 rw [(tw_take T).1] at hp
 exact of_decide_eq_true (show decide (p.1 < key)=true from tw_mem (p:=under key) T hp)
theorem drop_over {T : List KV} (hr : Rising T) {key : List UInt8} (hn : hasOf T key=false) : ∀ p ∈ T.drop (posOf T key),key < p.1:=by
 intro p hp
 rcases Nat.lt_or_ge (posOf T key) T.length with hlt | hge
 ·have hd:=List.drop_eq_getElem_cons hlt
  have hnot : ¬ T[posOf T key].1 < key:=by
   have e:=(tw_take (p:=under key) T).2
   have h:=dw_head T (e.symm.trans hd)
   intro hh
   rw [show under key T[posOf T key]=true from decide_eq_true hh] at h
   cases h
  have hneq : T[posOf T key].1 ≠ key:=fun e=>by
   unfold hasOf at hn
   rw [List.getElem?_eq_getElem hlt] at hn
   simp [e] at hn
  have h0 : key < T[posOf T key].1:=by
   rcases bytes_total key T[posOf T key].1 with h | h | h
   ·exact h
   ·exact absurd h.symm hneq
   ·exact absurd h hnot
  rw [hd] at hp
  rcases List.mem_cons.1 hp with rfl | hp
  ·exact h0
  ·obtain ⟨j,hj,rfl⟩:=List.getElem_of_mem hp
   rw [List.length_drop] at hj
   have h1:=rise_lt hr (i:=posOf T key) (j:=posOf T key + 1 + j) (p:=T[posOf T key]) (q:=T[posOf T key + 1 + j]) (by omega) (List.getElem?_eq_getElem hlt) (List.getElem?_eq_getElem (by omega))
   rw [List.getElem_drop]
   exact bytes_trans h0 h1
 ·rw [List.drop_eq_nil_of_le hge] at hp; simp at hp
theorem Good.ins {T : List KV} (h : Good T) {x : KV} (hw : wrongE T x=0) : Good (insKV T x):=by
 unfold wrongE at hw
 split at hw
 ·omega
 ·rename_i h1
  split at hw
  ·omega
  ·rename_i h2
   split at hw
   ·omega
   ·rename_i h3
    have hn : hasOf T x.1=false:=by simpa using h2
    refine ⟨?_,fun p hp=>?_,?_⟩
    ·unfold insKV Rising
     rw [List.pairwise_append]
     refine ⟨List.Pairwise.sublist (List.take_sublist _ _) h.rise,?_,fun a ha b hb=>?_⟩
     ·rw [List.pairwise_cons]
      exact ⟨drop_over h.rise hn,List.Pairwise.sublist (List.drop_sublist _ _) h.rise⟩
     ·have h4:=take_under a ha
      rcases List.mem_cons.1 hb with rfl | hb
      ·exact h4
      ·exact bytes_trans h4 (drop_over h.rise hn b hb)
    ·unfold insKV at hp
     rcases List.mem_append.1 hp with hp | hp
     ·exact h.short p (List.mem_of_mem_take hp)
     ·rcases List.mem_cons.1 hp with rfl | hp
      ·omega
      ·exact h.short p (List.mem_of_mem_drop hp)
    ·unfold insKV
     have:=posOf_le T x.1
     rw [List.length_append,List.length_take,List.length_cons,List.length_drop]
     omega
theorem info40 : (Tryz.prog.info? 66).map (fun i=>(i.zero,i.size,i.bytes))=some (some (.agg #[.string ⟨#[]⟩,.string ⟨#[]⟩]),2,32):=by kernel_rfl
theorem Rows2.take {w : World} {a : Option Addr} {n c k : Nat} {T : List KV} (h : Rows2 w (.slice a n c) T) (hk : k≤T.length) : Rows2 w (.slice a k c) (T.take k):=by
 have hl : (T.take k).length=k:=by simp; omega
 rcases h with ⟨rfl,a,c,he,hn⟩ | ⟨b,o,c,he,h1,h2⟩
 ·cases he
  have : k=0:=by simpa using hk
  subst this
  exact Or.inl ⟨rfl,_,_,rfl,hn⟩
 ·cases he
  refine Or.inr ⟨b,o,c,by rw [hl],by omega,fun i x hx=>?_⟩
  have hi : i < k:=by have:=(List.getElem?_eq_some_iff.1 hx).1; omega
  rw [List.getElem?_take_of_lt hi] at hx
  exact h2 i x hx
theorem Rows2.drop {w : World} {a : Option Addr} {n c k : Nat} {T : List KV} (h : Rows2 w (.slice a n c) T) (hk : k≤T.length) :
  Rows2 w (.slice (if c=k then a else Option.map (fun x=>x.add (k * 2)) a) (n - k) (c - k)) (T.drop k):=by
 have hl : (T.drop k).length=T.length - k:=List.length_drop
 rcases h with ⟨rfl,a,c,he,hn⟩ | ⟨b,o,c,he,h1,h2⟩
 ·cases he
  have : k=0:=by simpa using hk
  subst this
  refine Or.inl ⟨rfl,_,_,rfl,fun hx=>?_⟩
  split at hx
  ·have:=hn hx; omega
  ·cases a with
   | none=>have:=hn rfl; omega
   | some a=>cases hx
 ·cases he
  by_cases hz : k=T.length
  ·refine Or.inl ⟨List.drop_eq_nil_of_le (by omega),_,_,by rw [show T.length - k=0 by omega],fun hx=>?_⟩
   split at hx <;> cases hx
  ·rw [if_neg (by omega)]
   refine Or.inr ⟨b,o + k * 2,c - k,by rw [hl]; simp [Addr.add_lit],by omega,fun i x hx=>?_⟩
   rw [List.getElem?_drop] at hx
   have:=h2 (k + i) x hx
   rw [show o + k * 2 + i * 2=o + (k + i) * 2 by omega]
   exact this
theorem rows2_one (w : World) (p : KV) (t : TypeId) : Rows2 (w.alloc (.cells #[S p.1,S p.2] t)) (.slice (some ⟨w.heap.size,0,none⟩) 1 1) [p]:=by
 have hb:=(MapKept.heap_alloc w (.cells #[S p.1,S p.2] t)).1
 refine Or.inr ⟨w.heap.size,0,1,rfl,Nat.le_refl _,fun i q hq=>?_⟩
 have hi : i=0:=by have:=(List.getElem?_eq_some_iff.1 hq).1; simp at this; omega
 subst hi
 simp at hq; subst hq
 exact ⟨cell_of_row _ _ 0 _ _ _ hb,cell_of_row _ _ 1 _ _ _ hb⟩
theorem enc2_one (T : List KV) : ∀ u ∈ T.flatMap enc2,u.oneCell'=true:=fun u hu=>by
 obtain ⟨p,_,hu⟩:=List.mem_flatMap.1 hu
 simp [enc2] at hu
 rcases hu with rfl | rfl <;> rfl
theorem run_append2 (w : World) (B : Nat) (ty : TypeId) (v y : Value) (T X : List KV) (hown : w.ownsRow B 66 2 v T.length (T.flatMap enc2)) (hr : Rows2 w y X) (hlim : T.length + X.length≤1000000) (hB : B≤w.heap.size) :
  ∃ v' w',(Builtin.append_ #[60,60] ty #[v,y]).run Tryz.prog w=.ok v' w'∧w'.ownsRow B 66 2 v' (T++X).length ((T++X).flatMap enc2)∧Below B w w':=by
 obtain ⟨i0,hi,hz0,hz1,hz2⟩:=info_parts info40
 have hb : ∀ w',w.grownBy w' v.ownBlock→Below B w w':=fun w' hg=>(Below.refl B w).grown hg hB fun k hk=>(World.ownsRow.lt hown k hk).1
 rcases hr with ⟨rfl,a,c,rfl,hc⟩ | ⟨b,o,c,rfl,_,hcell⟩
 ·cases a with
  | none =>
   obtain rfl:=hc rfl
   refine ⟨v,w,run_append_owned_none (P:=Tryz.prog) w B 60 ty 66 i0 2 Tryz.underlying60 hi v _ _ hown,?_,Below.refl _ _⟩
   rw [List.append_nil]; exact hown
  | some a =>
   obtain ⟨v',w',k1,k2,k3,_,k5⟩:=run_append_own_at (P:=Tryz.prog) w B 60 ty 66 i0 (.agg #[.string ⟨#[]⟩,.string ⟨#[]⟩]) 2 32 Tryz.underlying60 hi hz0 hz1 hz2 rfl (by decide) v _ _ hown a 0 c [] rfl (fun j u h=>by simp at h) (fun u h=>by cases h) (by unfold maxLen; omega) (by omega) hB
   refine ⟨v',w',k1,?_,hb w' k3⟩
   rw [List.append_nil]; simpa using k2
 ·obtain ⟨v',w',k1,k2,k3,_,k5⟩:=run_append_own_at (P:=Tryz.prog) w B 60 ty 66 i0 (.agg #[.string ⟨#[]⟩,.string ⟨#[]⟩]) 2 32 Tryz.underlying60 hi hz0 hz1 hz2 rfl (by decide) v _ _ hown ⟨b,o,none⟩ X.length c (X.flatMap enc2) (by rw [flat2_len]) (fun j u h=>by
    rw [Addr.add_lit]
    have hj : j < (X.flatMap enc2).length:=(List.getElem?_eq_some_iff.1 h).1
    rw [flat2_len] at hj
    obtain ⟨p,hp⟩ : ∃ p,X[j / 2]?=some p:=⟨X[j / 2],List.getElem?_eq_getElem (by omega)⟩
    have h2:=flat2 X (j / 2) (j % 2) p hp (by omega)
    rw [show j / 2 * 2 + j % 2=j by omega,h] at h2
    obtain ⟨c1,c2⟩:=hcell (j / 2) p hp
    rcases Nat.mod_two_eq_zero_or_one j with hm | hm
    ·rw [hm] at h2
     rw [show o + j=o + j / 2 * 2 by omega,c1]; exact h2.symm
    ·rw [hm] at h2
     rw [show o + j=o + j / 2 * 2 + 1 by omega,c2]; exact h2.symm) (enc2_one X) (by unfold maxLen; omega) (by omega) hB
  refine ⟨v',w',k1,?_,hb w' k3⟩
  rw [List.length_append,List.flatMap_append]; exact k2
theorem wp_append2 {w : World} {ops : Array Oper} {rest : List Oper} {o : Oper} {a : Act} {Q : Exit→Act→World→Prop} (hgd : o.guard=none) (s x : Operand)
  (ho : o.op=.call { callee:=.builtin .append,args:=#[s,x],argTypes:=#[60,60] })
  (B : Nat) (v y : Value) (T X : List KV) (hs : a.eval s=v) (hx : a.eval x=y) (hown : w.ownsRow B 66 2 v T.length (T.flatMap enc2)) (hr : Rows2 w y X) (hlim : T.length + X.length≤1000000) (hB : B≤w.heap.size)
  (h : ∀ v' w',w'.ownsRow B 66 2 v' (T++X).length ((T++X).flatMap enc2)→Below B w w'→wpList Tryz.prog ops Q rest (a.put o.dst v') w') : wpList Tryz.prog ops Q (o :: rest) a w:=by
 refine wpList_plain hgd fun K hK=>?_
 obtain ⟨v',w',hr,h2,h3⟩:=run_append2 w B o.type v y T X hown hr hlim hB
 unfold Oper.wp execOp
 simp only [ho,resolve,invoke,builtin,Sem.run_bind,Sem.run_pure,Result.andThen_ok,List.map_toArray,List.map_cons,List.map_nil,hs,hx,hr]
 exact hK _ _ (h v' w' h2 h3)
end Go.Proofs.YtghnopkgcgfcpaaGreatDoor.Table
set_option maxHeartbeats 16000000
set_option maxRecDepth 100000
namespace Go.Proofs.YtghnopkgcgfcpaaGreatDoor.Table
open Go.RowKit Base
theorem bl_iff (c : UInt8) : ([32,9] : List UInt8).contains c=isBl c:=by
 unfold isBl
 rw [Bool.eq_iff_iff]
 simp only [List.contains_cons,List.contains_nil,Bool.or_false,Bool.or_eq_true,beq_iff_eq,decide_eq_true_eq]
 constructor
 ·rintro (h | h) <;> rw [h] <;> decide
 ·rintro (h | h)
  ·exact Or.inl (UInt8.toNat_inj.1 h)
  ·exact Or.inr (UInt8.toNat_inj.1 h)
theorem left_set (l : List UInt8) : Lib.trimLeftS l [32,9]=trimL l:=by
 unfold Lib.trimLeftS trimL
 congr 1; funext c; exact bl_iff c
theorem right_set (l : List UInt8) : Lib.trimRightS l [32,9]=trimR l:=by
 unfold Lib.trimRightS trimR
 congr 2; funext c; exact bl_iff c
theorem trimL_snoc (m : List UInt8) (c : UInt8) : trimL (m++[c])=if trimL m=[] then trimL [c] else trimL m++[c]:=by
 unfold trimL
 rw [List.dropWhile_append]
 simp only [List.isEmpty_iff]
theorem trimR_blank : ∀ (n : Nat) (m : List UInt8),m.length=n→trimL m=[]→trimR m=[]
 | 0,m,h,_=>by rw [List.eq_nil_of_length_eq_zero h]; rfl
 | n + 1,m,h,h0=>by
  have hne : m ≠ []:=fun e=>by rw [e] at h; simp at h
  obtain ⟨q,c,rfl⟩ : ∃ q c,m=q++[c]:=⟨m.dropLast,m.getLast hne,(List.dropLast_concat_getLast hne).symm⟩
  rw [trimL_snoc] at h0
  have hq : trimL q=[]:=by
   by_cases e : trimL q=[]
   ·exact e
   ·rw [if_neg e] at h0; simp at h0
  rw [if_pos hq] at h0
  have hc : isBl c=true:=by
   cases hb : isBl c
   ·rw [trimL_cons_no hb] at h0; simp at h0
   ·rfl
  rw [trimR_snoc_yes hc]
  exact trimR_blank n q (by simpa using h) hq
theorem trim_comm : ∀ (n : Nat) (l : List UInt8),l.length=n→trimL (trimR l)=trimR (trimL l)
 | 0,l,h=>by rw [List.eq_nil_of_length_eq_zero h]; rfl
 | n + 1,l,h=>by
  have hne : l ≠ []:=fun e=>by rw [e] at h; simp at h
  obtain ⟨q,c,rfl⟩ : ∃ q c,l=q++[c]:=⟨l.dropLast,l.getLast hne,(List.dropLast_concat_getLast hne).symm⟩
  have ih:=trim_comm n q (by simpa using h)
  cases hb : isBl c
  ·rw [trimR_snoc_no hb,trimL_snoc]
   split
   ·rw [trimL_cons_no hb]
    have:=trimR_snoc_no (l:=[]) hb
    simpa using this.symm
   ·rw [trimR_snoc_no hb]
  ·rw [trimR_snoc_yes hb,trimL_snoc]
   split
   ·rename_i hq
    rw [trimR_blank _ q rfl hq,trimL_cons_yes hb]; rfl
   ·rw [trimR_snoc_yes hb,ih]
theorem trim_set (l : List UInt8) : Lib.trimS l [32,9]=trim l:=by
 unfold Lib.trimS trim
 rw [right_set,left_set,trim_comm _ l rfl]
theorem trimL_head (l : List UInt8) : trimL l=[]∨∃ c r,trimL l=c :: r∧isBl c=false:=by
 cases h : trimL l with
 | nil=>exact Or.inl rfl
 | cons c r=>exact Or.inr ⟨c,r,rfl,dw_head l h⟩
theorem trimR_head {c : UInt8} (hb : isBl c=false) : ∀ (n : Nat) (r : List UInt8),r.length=n→∃ q,trimR (c :: r)=c :: q
 | 0,r,h=>⟨[],by
  rw [List.eq_nil_of_length_eq_zero h]
  have:=trimR_snoc_no (l:=[]) hb
  simpa using this⟩
 | n + 1,r,h=>by
  have hne : r ≠ []:=fun e=>by rw [e] at h; simp at h
  obtain ⟨q,d,rfl⟩ : ∃ q d,r=q++[d]:=⟨r.dropLast,r.getLast hne,(List.dropLast_concat_getLast hne).symm⟩
  rw [← List.cons_append]
  cases hd : isBl d
  ·rw [trimR_snoc_no hd]; exact ⟨_,rfl⟩
  ·rw [trimR_snoc_yes hd]; exact trimR_head hb n q (by simpa using h)
def passB (line : List UInt8) : Bool:=decide (trimL line=[]) || headIs isHash (trimL line)
theorem pass_skip (line : List UInt8) : passB line=skipB line:=by
 unfold passB skipB trim
 rcases trimL_head line with h | ⟨c,r,h,hb⟩
 ·rw [h]; rfl
 ·obtain ⟨q,hq⟩:=trimR_head hb _ r rfl
  rw [h,hq]; rfl
theorem asc : ∀ (j : Nat) b,(⟨#[32,9]⟩ : ByteArray).data.toList[j]?=some b→b.toNat < 128:=fun j b h=>by
 match j with
 | 0=>simp at h; subst h; decide
 | 1=>simp at h; subst h; decide
 | j + 2=>simp at h
theorem pTrim (s : ByteArray) (w : World) (hs : s.size≤9223372036854775807) : Calls Tryz.prog 71 #[.string s,.string ⟨#[32,9]⟩] w fun e w'=>e=.returned (S (trim s.data.toList))∧Below w.heap.size w w':=by
 have:=Any.strings_Trim_laid Tryz.lays160 (by kernel_rfl) s ⟨#[32,9]⟩ w hs (by decide) asc
 rw [show (⟨#[32,9]⟩ : ByteArray).data.toList=[32,9] from rfl,trim_set] at this
 exact this
theorem pTrimL (s : ByteArray) (w : World) : Calls Tryz.prog 67 #[.string s,.string ⟨#[32,9]⟩] w fun e w'=>e=.returned (S (trimL s.data.toList))∧Below w.heap.size w w':=by
 have:=Any.strings_TrimLeft_laid Tryz.lays161 (by kernel_rfl) s ⟨#[32,9]⟩ w (by decide) asc
 rw [show (⟨#[32,9]⟩ : ByteArray).data.toList=[32,9] from rfl,left_set] at this
 exact this
theorem pBlank (c : UInt8) (w : World) : Calls Tryz.prog 36 #[.int .u8 (c.toNat : Int)] w fun e w'=>e=.returned (.bool (isBl c))∧w=w':=by
 by_cases h1 : c.toNat=32
 ·have e1 : ((c.toNat : Int) == 32)=true:=by rw [h1]; rfl
  have HE : Hid (isBl c=true):=by show _=_; simp [isBl,h1]
  clear h1
  go_enter Tryz.func36,Tryz.ntmps36
  go_wp2
  go_ret
  exact ⟨by rw [HE.out]; rfl,rfl⟩
 ·have e1 : ((c.toNat : Int) == 32)=false:=by rw [beq_eq_false_iff_ne]; omega
  by_cases h2 : c.toNat=9
  ·have e2 : ((c.toNat : Int) == 9)=true:=by rw [h2]; rfl
   have HE : Hid (isBl c=true):=by show _=_; simp [isBl,h2]
   clear h1 h2
   go_enter Tryz.func36,Tryz.ntmps36
   go_wp2
   go_ret
   exact ⟨by rw [HE.out]; rfl,rfl⟩
  ·have e2 : ((c.toNat : Int) == 9)=false:=by rw [beq_eq_false_iff_ne]; omega
   have HE : Hid (isBl c=false):=by show _=_; simp [isBl,h1,h2]
   clear h1 h2
   go_enter Tryz.func36,Tryz.ntmps36
   go_wp2
   go_ret
   exact ⟨by rw [HE.out]; rfl,rfl⟩
def BoolEnd (b : Bool) (w : World) (e : Ending) (w' : World) : Prop:=e=.returned (.bool b)∧Below w.heap.size w w'
theorem pPassed (s : ByteArray) (w : World) : Calls Tryz.prog 35 #[.string s] w (BoolEnd (skipB s.data.toList) w):=by
 rw [← pass_skip]
 have HT:=pTrimL s w
 obtain ⟨inn,hinn⟩ : ∃ inn : ByteArray,inn.data.toList=trimL s.data.toList:=⟨⟨(trimL s.data.toList).toArray⟩,rfl⟩
 have HTH : Hid (Calls Tryz.prog 67 #[.string s,.string ⟨#[32,9]⟩] w fun e w'=>e=.returned (.string inn)∧Below w.heap.size w w'):=by
  rw [← hinn] at HT; exact HT
 have HP : passB s.data.toList=(decide (inn.data.toList=[]) || headIs isHash inn.data.toList):=by unfold passB; rw [hinn]
 clear HT hinn
 by_cases hi : inn.size=0
 ·have e4 : inn.toList=[]:=(toList_nil_iff_emptyBytes inn).2 (str_empty hi)
  have e3 : inn.toList.isEmpty=true:=by rw [e4]; rfl
  have HR:=Lib.hid (show passB s.data.toList=true by rw [HP,List.eq_nil_of_length_eq_zero (l:=inn.data.toList) (by rw [str_len]; exact hi)]; rfl)
  clear hi HP
  go_enter Tryz.func35,Tryz.ntmps35
  go_wp2_with (first | (go_at_call 67; (with_reducible refine HTH.out.mono ?_); rintro e w1 ⟨rfl,hb1⟩; refine Hid.out ?_) | fail)
  refine Lib.hid ?_
  have HB:=Lib.hid hb1
  clear hb1
  go_wp2
  go_ret
  exact ⟨by rw [HR.out]; rfl,HB.out⟩
 ·obtain ⟨e3,e4⟩:=str_ne hi
  have hi0 : 0 < inn.size:=by omega
  have n0 : (0 : Int) < (inn.size : Int):=by omega
  have hne : ¬ inn.data.toList=[]:=fun e=>by have:=str_len inn; rw [e] at this; simp at this; omega
  rw [head_at isHash inn hi0,decide_eq_false hne] at HP
  by_cases h35 : inn[0].toNat=35
  ·have e5 : ((inn[0].toNat : Int) == 35)=true:=by rw [h35]; rfl
   have HR:=Lib.hid (show passB s.data.toList=true by rw [HP]; simp [isHash,h35])
   clear hi h35 HP hne
   go_enter Tryz.func35,Tryz.ntmps35
   go_wp2_with (first | (go_at_call 67; (with_reducible refine HTH.out.mono ?_); rintro e w1 ⟨rfl,hb1⟩; refine Hid.out ?_) | fail)
   refine Lib.hid ?_
   have HB:=Lib.hid hb1
   clear hb1
   go_wp2
   go_ret
   exact ⟨by rw [HR.out]; rfl,HB.out⟩
  ·have e5 : ((inn[0].toNat : Int) == 35)=false:=by rw [beq_eq_false_iff_ne]; omega
   have HR:=Lib.hid (show passB s.data.toList=false by rw [HP]; simp [isHash,h35])
   clear hi h35 HP hne
   go_enter Tryz.func35,Tryz.ntmps35
   go_wp2_with (first | (go_at_call 67; (with_reducible refine HTH.out.mono ?_); rintro e w1 ⟨rfl,hb1⟩; refine Hid.out ?_) | fail)
   refine Lib.hid ?_
   have HB:=Lib.hid hb1
   clear hb1
   go_wp2
   go_ret
   exact ⟨by rw [HR.out]; rfl,HB.out⟩
end Go.Proofs.YtghnopkgcgfcpaaGreatDoor.Table
set_option maxHeartbeats 16000000
set_option maxRecDepth 100000
namespace Go.Proofs.YtghnopkgcgfcpaaGreatDoor.Table
open Go.RowKit Base
theorem below_drew (w : World) (n : Nat) : Below w.heap.size w (w.drewN n):=⟨rfl,rfl,rfl,Nat.le_refl _,fun _ _=>rfl⟩
def MinusEnd (w : World) (e : Ending) (w' : World) : Prop:=e=.returned (.int .i64 (-1))∧Below w.heap.size w w'
theorem idx_no {c : UInt8} (hc : 128≤c.toNat) : ∀ (l : List UInt8),(∀ x ∈ l,x.toNat < 128)→Lib.indexByte l c=-1
 | [],_=>rfl
 | x :: r,h=>by
  have h1:=h x List.mem_cons_self
  have h2:=idx_no hc r fun y hy=>h y (List.mem_cons_of_mem _ hy)
  have h3 : (x == c)=false:=beq_eq_false_iff_ne.2 (fun e=>by subst e; omega)
  unfold Lib.indexByte
  rw [h3,h2]
  simp
theorem pHighV (s : ByteArray) (hs : s=⟨#[32,9]⟩) (r : Int) (w : World) (h1 : 128≤r) (h2 : r ≠ 65533) (hv : Lib.validRune r=true) : Calls Tryz.prog 110 #[.string s,.int .i32 r] w (MinusEnd w):=by
 have hs3 : 2≤s.size:=by rw [hs]; exact Nat.le_refl 2
 have hs4 : s.size≤2:=by rw [hs]; exact Nat.le_refl 2
 have hv2 : Utf8.valid r=true:=by
  unfold Lib.validRune at hv
  have:=of_decide_eq_true hv
  unfold Utf8.valid
  simp
  omega
 obtain ⟨es,hes⟩ : ∃ es,es=Utf8.encode r:=⟨_,rfl⟩
 have hcv : ∀ w1,(convert 21 9 (.int .i32 r)).run Tryz.prog w1=.ok (.string es) w1:=fun w1=>by rw [hes]; exact run_convert_int_string w1 21 9 .i32 r (by rw [Tryz.underlying21]; rfl) Tryz.underlying9
 have HE : Hid (2≤es.size∧es.size≤4∧∀ h : es.size - 1 < es.size,128≤(es[es.size - 1]'h).toNat):=by rw [hes]; exact encode_facts r hv2 h1
 clear hes
 have i1 : ¬ r < 128:=by omega
 have i2 : (r == 65533)=false:=by simp [h2]
 have HVR : Hid (∀ w1,Calls Tryz.prog 150 #[.int .i32 r] w1 fun e w'=>e=.returned (.bool true)∧w'=w1):=fun w1=>by have:=Tryz.utf8_ValidRune r w1; rw [hv] at this; exact this
 clear hv hv2
 obtain ⟨e1,e2,e3⟩:=HE.out
 obtain ⟨c,hc,hc0⟩ : ∃ c : UInt8,128≤c.toNat∧es[es.size - 1]'(by omega)=c:=⟨_,e3 (by omega),rfl⟩
 clear HE e3
 have hlst : es[((es.size : Int) - 1).toNat]'(by omega)=c:=by
  have : ((es.size : Int) - 1).toNat=es.size - 1:=by omega
  simp only [this]; exact hc0
 clear hc0
 have HIB : Hid (∀ (a b : Nat) w1,Calls Tryz.prog 149 #[.string (s.extract a b),.int .u8 (c.toNat : Int)] w1 fun e w'=>e=.returned (.int .i64 (-1))∧w'=w1):=fun a b w1=>(Tryz.strings_IndexByte _ _ w1).mono fun e w' ⟨he,hw⟩=>⟨by
  rw [he]
  have hh:=idx_no (c:=c) hc ((s.extract a b).data.toList) (fun x hx=>by
   have hx2:=mem_extract hx
   rw [hs] at hx2
   simp at hx2
   rcases hx2 with rfl | rfl <;> decide)
  have hb : ((c.toNat : Int)).toNat.toUInt8=c:=by simp
  rw [hb,hh],hw⟩
 have HS:=Lib.hid hs
 clear hs h1 h2
 go_enter Tryz.func110,Tryz.ntmps110
 go_upto_region 2 with (first | (go_at_call 150; refine (HVR.out _).mono ?_; rintro e w1 ⟨rfl,rfl⟩) | fail)
 refine wp_scope_fwd fun F hF=>?_
 clear hF
 go_wp2
 refine wp_loop_once ?_
 by_cases hz : es.size=2
 ·have i5 : decide ((es.size : Int) - 1 < (s.size : Int))=true:=decide_eq_true (by omega)
  have e3 : es.size≤2:=by omega
  clear hz
  have i6 : (s[((es.size : Int) - 1).toNat]'(by omega))=9:=by
   have : ((es.size : Int) - 1).toNat=1:=by omega
   have hs:=HS.out
   subst hs
   simp only [this]; rfl
  have i7 : ¬ ((9 : Int)=(c.toNat : Int)):=by omega
  have i8 : (0 : Int)≤(es.size : Int) - 1:=by omega
  have i9 : ((es.size : Int) - 1).toNat < es.size:=by omega
  have i10 : ((es.size : Int) - 1).toNat < s.size:=by omega
  have i11 : (0 : Int)≤(es.size : Int) - 1 + 1:=by omega
  have i12 : (es.size : Int) - 1 + 1≤(s.size : Int):=by omega
  clear HS
  have j1 : ∀ w1 : World,(Instr.index 9 (.string s) (.int .i64 ((es.size : Int) - 1))).run Tryz.prog w1=.ok (.int .u8 9) w1:=fun w1=>by
   rw [run_index_string w1 9 s .i64 _ Tryz.underlying9,dif_pos ⟨i8,by omega⟩,i6]; rfl
  have j2 : ∀ w1 : World,(Instr.index 9 (.string es) (.int .i64 ((es.size : Int) - 1))).run Tryz.prog w1=.ok (.int .u8 (c.toNat : Int)) w1:=fun w1=>by
   rw [run_index_string w1 9 es .i64 _ Tryz.underlying9,dif_pos ⟨i8,by omega⟩,hlst]
  have j3 : (1 : Int)≤(es.size : Int):=by omega
  have j4 : (es.size : Int) - 1 < (s.size : Int):=by omega
  have j5 : (es.size : Int) - 1 < (es.size : Int):=by omega
  have j6 : IntKind.i64.wrap (es.size : Int)=(es.size : Int):=wrap_small _ (by omega) (by omega)
  have j7 : (es.size : Int)≤(s.size : Int):=by omega
  have j8 : es.size≤s.size:=by omega
  clear i6 hlst
  go_wp2
  refine wp_scope_fwd fun F2 hF2=>?_
  clear hF2
  go_wp2
  go_quiet (fail)
  go_wp2
  go_quiet ((exact (HIB.out _ _ _).mono fun _ _ h=>⟨h.1,_,h.2⟩))
  go_wp2
  rw [Exit.fwd_ret]
  exact bodyPost_ret (v:=.int .i64 (-1)) (by simp [results,Tryz.results110,go_sem]) rfl ⟨rfl,below_drew _ _⟩
 ·have i5 : decide ((es.size : Int) - 1 < (s.size : Int))=false:=decide_eq_false (by omega)
  clear hlst HIB
  go_wp2
  rw [Exit.fwd_ret]
  exact bodyPost_ret (v:=.int .i64 (-1)) (by simp [results,Tryz.results110,go_sem]) rfl ⟨rfl,Below.refl _ _⟩
theorem pHighI (s : ByteArray) (r : Int) (w : World) (h1 : 128≤r) (h2 : r ≠ 65533) (hv : Lib.validRune r=false) : Calls Tryz.prog 110 #[.string s,.int .i32 r] w (MinusEnd w):=by
 have i1 : ¬ r < 128:=by omega
 have i2 : (r == 65533)=false:=by simp [h2]
 have HVR : Hid (∀ w1,Calls Tryz.prog 150 #[.int .i32 r] w1 fun e w'=>e=.returned (.bool false)∧w'=w1):=fun w1=>by have:=Tryz.utf8_ValidRune r w1; rw [hv] at this; exact this
 clear hv h1 h2
 go_enter Tryz.func110,Tryz.ntmps110
 go_wp2_with (first | (go_at_call 150; refine (HVR.out _).mono ?_; rintro e w1 ⟨rfl,rfl⟩) | fail)
 go_ret
 exact ⟨rfl,Below.refl _ _⟩
theorem pHighE (s : ByteArray) (w : World) (hascii : ∀ (j : Nat) b,s.data.toList[j]?=some b→b.toNat < 128) : Calls Tryz.prog 110 #[.string s,.int .i32 65533] w (MinusEnd w):=by
 have HA : Hid (∀ (j : Nat) b,s.data.toList[j]?=some b→b.toNat < 128):=hascii
 clear hascii
 go_enter Tryz.func110,Tryz.ntmps110
 go_wp2
 go_loopg [5,6] s.size (fun g _ _ wx=>∃ i : Nat,i + g=s.size∧wx=w.iter s i)
 case atStart=>exact ⟨0,by omega,rfl⟩
 case round =>
  obtain ⟨i,hig,rfl⟩:=hrel
  cases gk with
  | zero =>
   obtain rfl : i=s.size:=by omega
   have hnx:=run_next_end (P:=Tryz.prog) w s s.size
   go_wp2
   go_ret
   exact ⟨rfl,Below.alloc1 _ _⟩
  | succ g =>
   have hi : i < s.size:=by omega
   obtain ⟨x,hx⟩ : ∃ x : UInt8,s[i]'hi=x:=⟨_,rfl⟩
   have hxl : s.data.toList[i]?=some x:=by rw [← hx]; exact Lib.data_getElem? s i hi
   have hx128 : x.toNat < 128:=HA.out i x hxl
   have hnx:=fun ty=>run_next_ascii (P:=Tryz.prog) w s i ty hi (by rw [hx]; exact hx128)
   rw [hx] at hnx
   clear hxl hx
   have hne : ((x.toNat : Int) == 65533)=false:=beq_eq_false_iff_ne.2 (by omega)
   go_wp2
   go_roundg g
   case measure=>omega
   case rel=>exact ⟨i + 1,by omega,rfl⟩
theorem pHigh (r : Int) (w : World) (h1 : 128≤r) : Calls Tryz.prog 110 #[.string ⟨#[32,9]⟩,.int .i32 r] w (MinusEnd w):=by
 by_cases h2 : r=65533
 ·rw [h2]; exact pHighE _ w asc
 ·cases hv : Lib.validRune r
  ·exact pHighI _ r w h1 h2 hv
  ·exact pHighV _ rfl r w h1 h2 hv
end Go.Proofs.YtghnopkgcgfcpaaGreatDoor.Table
