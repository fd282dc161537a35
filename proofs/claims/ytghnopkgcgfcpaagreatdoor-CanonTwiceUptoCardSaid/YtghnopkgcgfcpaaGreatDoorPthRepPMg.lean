/-
  MERGED by mergefill.py: PthRepP, PthEqF, PthLit, PthOnce, PthOnceB.
-/
import Derived.Test.YtghnopkgcgfcpaaGreatDoorPthBoxWMg
import Derived.Lib.SlBuf
import Derived.Test.YtghnopkgcgfcpaaGreatDoorShelfMg
import Derived.Laws.RangeAny
import Derived.Laws.Strings3
import Derived.Deep.LoopGhost
import Derived.Lib.Walk
import Derived.Lib.Fold
import Derived.Lib.Strings
import Derived.Test.YtghnopkgcgfcpaaGreatDoorPthQuoMg
import Derived.Test.YtghnopkgcgfcpaaGreatDoorCidrPSixMg
import Derived.Test.YtghnopkgcgfcpaaGreatDoorCidrPShowMg
import Derived.Deep.CutBlock
import Derived.Deep.DeepCutAuto
import Derived.Deep.CutRange
import Derived.Defers
import Derived.Laws.LoneSync
import Derived.Laws.Pointers
import Derived.RegionCalls
namespace Go.Proofs.YtghnopkgcgfcpaaGreatDoor.Path
open Go.RowKit Base
def escB (l : List UInt8) : List UInt8:=l.flatMap fun c=>if c=34 then [92,34] else if c=92 then [92,92] else [c]
def isEsc (c : UInt8) : Bool:=c == 34 || c == 92
theorem escB_cons (c : UInt8) (l : List UInt8) : escB (c :: l)=(if c=34 then [92,34] else if c=92 then [92,92] else [c])++escB l:=rfl
theorem escB_app (l m : List UInt8) : escB (l++m)=escB l++escB m:=by unfold escB; rw [List.flatMap_append]
theorem esc_len (l : List UInt8) : (escB l).length=l.length + l.countP isEsc:=by
 induction l with
 | nil=>rfl
 | cons c l ih =>
  rw [escB_cons,List.length_append,ih,List.countP_cons,List.length_cons]
  by_cases h : c=34
  ·subst h; simp [isEsc]; omega
  ·by_cases h2 : c=92
   ·subst h2; simp [isEsc]; omega
   ·have e : isEsc c=false:=by unfold isEsc; rw [Bool.or_eq_false_iff]; exact ⟨beq_eq_false_iff_ne.2 h,beq_eq_false_iff_ne.2 h2⟩
    simp [h,h2,e]; omega
theorem esc_none {l : List UInt8} (h : l.countP isEsc=0) : escB l=l:=by
 induction l with
 | nil=>rfl
 | cons c l ih =>
  rw [List.countP_cons] at h
  have h1 : isEsc c=false:=by cases hc : isEsc c with | true=>rw [hc] at h; simp at h | false=>rfl
  rw [h1] at h
  unfold isEsc at h1
  rw [Bool.or_eq_false_iff] at h1
  rw [escB_cons,if_neg (beq_eq_false_iff_ne.1 h1.1),if_neg (beq_eq_false_iff_ne.1 h1.2),ih (by simpa using h)]
  rfl
theorem esc_two (l : List UInt8) : l.countP isEsc=l.count 92 + l.count 34:=by
 induction l with
 | nil=>rfl
 | cons c l ih =>
  rw [List.countP_cons,List.count_cons,List.count_cons,ih]
  by_cases h : c=34
  ·subst h; simp [isEsc]; omega
  ·by_cases h2 : c=92
   ·subst h2; simp [isEsc]; omega
   ·have e : isEsc c=false:=by unfold isEsc; rw [Bool.or_eq_false_iff]; exact ⟨beq_eq_false_iff_ne.2 h,beq_eq_false_iff_ne.2 h2⟩
    simp [h,h2,e]
theorem take_next {l : List UInt8} {k : Nat} (h : k < l.length) : l.take (k + 1)=l.take k++[l.getD k 0]:=by
 rw [List.take_add_one,List.getElem?_eq_getElem h,List.getD_eq_getElem?_getD,List.getElem?_eq_getElem h]
 rfl
theorem esc_next {l : List UInt8} {k : Nat} (h : k < l.length) : escB (l.take (k + 1))=escB (l.take k)++(if l.getD k 0=34 then [92,34] else if l.getD k 0=92 then [92,92] else [l.getD k 0]):=by
 rw [take_next h,escB_app,escB_cons]
 simp [escB]
theorem cnt_next {l : List UInt8} {k : Nat} (h : k < l.length) : (l.take (k + 1)).countP isEsc=(l.take k).countP isEsc + (if isEsc (l.getD k 0) then 1 else 0):=by
 rw [take_next h,List.countP_append,List.countP_cons,List.countP_nil,Nat.zero_add]
theorem cnt_le (l : List UInt8) : l.countP isEsc≤l.length:=List.countP_le_length
theorem esc_take_le (l : List UInt8) (k : Nat) : (escB (l.take k)).length≤(escB l).length:=by
 have e : escB l=escB (l.take k)++escB (l.drop k):=by rw [← escB_app,List.take_append_drop]
 rw [e,List.length_append]
 omega
def repV (sq sb : Value) (c : Nat) : Value:=if c=34 then sq else if c=92 then sb else .slice none 0 0
structure RepAt (w : World) (g A c1 c2 a1 a2 : Nat) : Prop where
 row : ∀ c,c < 256→w.cell? ⟨g,c,none⟩=some (repV (.slice (some ⟨a1,0,none⟩) 2 c1) (.slice (some ⟨a2,0,none⟩) 2 c2) c)
 list : w.cell? ⟨g,256,none⟩=some (.slice (some ⟨A,0,none⟩) 2 2)
 l0 : w.cell? ⟨A,0,none⟩=some (.string ⟨#[92]⟩)
 l1 : w.cell? ⟨A,1,none⟩=some (.string ⟨#[34]⟩)
 q : Reads w (.slice (some ⟨a1,0,none⟩) 2 c1) [92,34]
 b : Reads w (.slice (some ⟨a2,0,none⟩) 2 c2) [92,92]
theorem cell_on {w w' : World} {b o : Nat} {v : Value} (h : w.cell? ⟨b,o,none⟩=some v) (hb : Below w.heap.size w w') : w'.cell? ⟨b,o,none⟩=some v:=by
 rw [hb.cell (p:=⟨b,o,none⟩) (cell_lt h),h]
theorem RepAt.on {w w' : World} {g A c1 c2 a1 a2 : Nat} (h : RepAt w g A c1 c2 a1 a2) (hb : Below w.heap.size w w') : RepAt w' g A c1 c2 a1 a2 :=
 ⟨fun c hc=>cell_on (h.row c hc) hb,cell_on h.list hb,cell_on h.l0 hb,cell_on h.l1 hb,h.q.on hb,h.b.on hb⟩
theorem holds_of_reads {w : World} {a : Option Addr} {n c : Nat} {l : List UInt8} (h : Reads w (.slice a n c) l) : Lib.HoldsBytes w (.slice a n c) l:=by
 rcases h with ⟨rfl,a',c',e,ha⟩ | ⟨b,o,c',e,_,hc⟩
 ·injection e with e1 e2 e3
  subst e1; subst e2; subst e3
  exact ⟨a,c,rfl,fun _=>rfl,fun _ _ i x h=>by simp at h⟩
 ·injection e with e1 e2 e3
  subst e1; subst e2; subst e3
  refine ⟨_,c,rfl,fun h=>by simp at h,fun a ha i x hx=>?_⟩
  injection ha with ha
  subst ha
  have hi : i < l.length:=(List.getElem?_eq_some_iff.1 hx).1
  have:=hc i hi
  rw [List.getD_eq_getElem?_getD,hx] at this
  have ha : (⟨b,o,none⟩ : Addr).add i=⟨b,o + i,none⟩:=by
   unfold Addr.add
   by_cases h0 : i=0
   ·subst h0; simp
   ·simp [h0]
  rw [ha]
  exact this
theorem buf_put {w0 wr : World} {h N : Nat} {acc : List UInt8} (hb : Lib.Buf w0 wr h N acc) (hlt : acc.length < N) (c : UInt8) : Lib.Buf w0 (wr.setCell ⟨h,acc.length,none⟩ (.int .u8 (c.toNat : Int))) h N (acc++[c]):=by
 have hth:=hb.there _ hlt
 obtain ⟨u,hu⟩:=Option.isSome_iff_exists.1 hth
 refine ⟨hb.below.setCell (p:=⟨h,_,none⟩) (Nat.le_refl _) _,fun j hj=>?_,fun j hj=>?_,fun j x hx=>?_,by rw [List.length_append]; exact hlt⟩
 ·by_cases e : j=acc.length
  ·subst e; rw [World.cell?_setCell_same _ _ _ hu]; rfl
  ·rw [World.cell?_setCell_other _ _ _ _ (fun h=>e (by injection h with _ h2; exact h2.symm))]; exact hb.there j hj
 ·rw [World.frozen?_setCell]; exact hb.free j hj
 ·by_cases e : j=acc.length
  ·subst e
   rw [World.cell?_setCell_same _ _ _ hu]
   rw [List.getElem?_append_right (Nat.le_refl _),Nat.sub_self] at hx
   injection hx with hx
   rw [← hx]
  ·have hj : j < acc.length:=by
    have:=(List.getElem?_eq_some_iff.1 hx).1
    rw [List.length_append] at this
    have : j < acc.length + 1:=this
    omega
   rw [World.cell?_setCell_other _ _ _ _ (fun h=>e (by injection h with _ h2; exact h2.symm))]
   rw [List.getElem?_append_left hj] at hx
   exact hb.holds j x hx
theorem buf_reads {w0 wr : World} {h N : Nat} {acc : List UInt8} (hb : Lib.Buf w0 wr h N acc) (hN : acc.length=N) : Reads wr (.slice (some ⟨h,0,none⟩) N N) acc:=by
 refine Or.inr ⟨h,0,N,by rw [hN],by rw [hN]; exact Nat.le_refl _,fun i hi=>?_⟩
 rw [Nat.zero_add]
 rw [hb.holds i acc[i] (List.getElem?_eq_getElem hi),List.getD_eq_getElem?_getD,List.getElem?_eq_getElem hi]
 rfl
theorem buf_made {w w' : World} {N : Nat} {xs : List Value} (h : w'.ownsRow w.heap.size 5 1 (.slice (some ⟨w.heap.size,0,none⟩) N N) N xs) (hg : w.grownBy w' none) : Lib.Buf w w' w.heap.size N []:=by
 have hl : xs.length=N:=by have:=h.1; omega
 refine ⟨(Below.refl _ _).grown hg (Nat.le_refl _) (fun k hk=>by cases hk),fun j hj=>?_,fun j _=>World.ownsRow.frozenAt h j,fun j x hx=>by simp at hx,Nat.zero_le _⟩
 rw [World.ownsRow.cellAt h j (by omega),List.getElem?_eq_getElem (by omega)]
 rfl
end Go.Proofs.YtghnopkgcgfcpaaGreatDoor.Path
set_option maxHeartbeats 16000000
set_option maxRecDepth 100000
namespace Go.Proofs.YtghnopkgcgfcpaaGreatDoor.Path
open Go.RowKit Base
theorem pSimple (r f : Nat) (hr : r < 128) (hf : f < 128) (w : World) (hc : w.cell? ⟨1,r,none⟩=some (.int .u16 (f : Int))) : Calls Tryz.prog 130 #[.int .i32 (r : Int)] w fun e w'=>e=.returned (.int .i32 (f : Int))∧w'=w:=by
 have e1 : ¬ (r : Int) < 0:=by omega
 have e2 : ¬ (1114111 : Int) < (r : Int):=by omega
 have e3 : (r : Int) < 128:=by omega
 have e4 : (0 : Int)≤(r : Int):=by omega
 go_enter Tryz.func130,Tryz.ntmps130
 go_wp2
 go_ret
 exact ⟨rfl,rfl⟩
structure FoldT (w : World) (t : ByteArray) : Prop where
 asc : ∀ (j : Nat) b,t.data.toList[j]?=some b→b.toNat < 128
 fold : ∀ (j : Nat) b,t.data.toList[j]?=some b→∃ f : Nat,f < 128∧w.cell? ⟨1,b.toNat,none⟩=some (.int .u16 (f : Int))∧w.cell? ⟨1,f,none⟩=some (.int .u16 (b.toNat : Int))
theorem ext_head {s : ByteArray} {i : Nat} {x : UInt8} (h : s.data.toList[i]?=some x) : (s.extract i s.size).data.toList[0]?=some x:=by
 rw [extract_bytes]
 show ((s.data.toList.take s.size).drop i)[0]?=_
 rw [List.getElem?_drop,Nat.add_zero,List.take_of_length_le (by rw [str_len]; exact Nat.le_refl _)]
 exact h
theorem pEqF (s t : ByteArray) (w : World) (hs : s.size < 4294967281) (hst : s.size=t.size) (hF : FoldT w t) :
    Calls Tryz.prog 97 #[.string s,.string t] w fun e w'=>e=.returned (.bool (Lib.equalFold s.data.toList t.data.toList))∧Below w.heap.size w w':=by
  have HT : Hid (FoldT w t):=hF
  obtain ⟨out,hout⟩ : ∃ out,out=Lib.equalFold s.data.toList t.data.toList:=⟨_,rfl⟩
  have HO:=Lib.hid hout
  rw [← hout]
  have HST:=Lib.hid hst
  have hmin : min (s.size : Int) (t.size : Int)=(s.size : Int):=by omega
  clear hF hout hst
  go_enter Tryz.func97,Tryz.ntmps97
  go_wp2
  refine wp_scope_fwd fun F hF=>?_
  have HF:=Lib.hid hF
  clear hF
  go_wp2
  go_loopg [5] s.size (fun g s5 wx=>w=wx∧∃ i : Nat,i + g=s.size∧s5=.int .i64 i∧Lib.equalFold (s.data.toList.drop i) (t.data.toList.drop i)=out)
  case atStart=>exact ⟨rfl,0,by omega,rfl,HO.out.symm⟩
  case round =>
    obtain ⟨rfl,i,hig,rfl,hinv⟩:=hrel
    have HI:=Lib.hid hinv
    clear hinv hmin
    cases gk with
    | zero =>
      have hiM : ¬ ((i : Int) < (s.size : Int)):=by omega
      have hst:=HST.out
      have hE : Hid (out=true):=by
        show _=_
        rw [← HI.out,Lib.equalFold_end _ _ (Or.inl (List.drop_eq_nil_of_le (by rw [← Lib.size_eq]; omega))),List.length_drop,List.length_drop,← Lib.size_eq,← Lib.size_eq]
        exact decide_eq_true (by omega)
      have hb : ((s.size : Int) == (t.size : Int))=true:=beq_iff_eq.2 (by omega)
      clear hst
      go_wp2
      rw [Exit.fwd_ret]
      go_ret
      exact ⟨by rw [hE.out]; rfl,Below.refl _ _⟩
    | succ g =>
      have hiM : (i : Int) < (s.size : Int):=by omega
      have hitz : (i : Int) < (t.size : Int):=by have:=HST.out; omega
      obtain ⟨x,hx⟩ : ∃ x : UInt8,s[i]'(by omega)=x:=⟨_,rfl⟩
      obtain ⟨y,hy⟩ : ∃ y : UInt8,t[i]'(by omega)=y:=⟨_,rfl⟩
      have hxl : s.data.toList[i]?=some x:=by rw [← hx]; exact Lib.data_getElem? s i (by omega)
      have hyl : t.data.toList[i]?=some y:=by rw [← hy]; exact Lib.data_getElem? t i (by omega)
      have hy128 : y.toNat < 128:=HT.out.asc i y hyl
      have Hx : Hid (s.data.toList[i]?=some x∧t.data.toList[i]?=some y):=⟨hxl,hyl⟩
      by_cases hx128 : x.toNat < 128
      · have hor : bits .or .u8 (x.toNat : Int) (y.toNat : Int)=((x.toNat ||| y.toNat : Nat) : Int):=u8_or_nat _ _ (by omega) (by omega)
        have hor128 : ¬ ((128 : Int)≤((x.toNat ||| y.toNat : Nat) : Int)):=by have:=Nat.or_lt_two_pow (n:=7) hx128 hy128; omega
        clear hxl hyl
        go_wp2
        all_goals (try simp only [beq_iff_eq,beq_eq_false_iff_ne,ne_eq] at *)
        all_goals first
          | (go_roundg g
             case measure=>omega
             case rel=>exact ⟨rfl,i + 1,by omega,by first | rfl | simp,by rw [← HI.out,Lib.drop_at Hx.out.1,Lib.drop_at Hx.out.2,Lib.equalFold_yes _ _ _ _ (decide_eq_true (by omega))]⟩)
          | (rw [Exit.fwd_ret]
             go_ret
             refine ⟨?_,Below.refl _ _⟩
             rw [← HI.out,Lib.drop_at Hx.out.1,Lib.drop_at Hx.out.2,Lib.equalFold_no _ _ _ _ (decide_eq_false (by omega))]
             rfl)
      · have hor : bits .or .u8 (x.toNat : Int) (y.toNat : Int)=((x.toNat ||| y.toNat : Nat) : Int):=u8_or_nat _ _ (by have:=x.toNat_lt; omega) (by omega)
        have hor128 : (128 : Int)≤((x.toNat ||| y.toNat : Nat) : Int):=by have : x.toNat≤x.toNat ||| y.toNat:=Nat.left_le_or; omega
        have HE : Hid (out=false):=by
          show _=_
          rw [← HI.out,Lib.drop_at Hx.out.1,Lib.drop_at Hx.out.2,Lib.equalFold_no _ _ _ _ (decide_eq_false (by omega))]
        clear hxl hyl
        obtain ⟨f,hf128,hcy,hcf⟩:=HT.out.fold i y Hx.out.2
        have HC : Hid (w.cell? ⟨1,y.toNat,none⟩=some (.int .u16 (f : Int))∧w.cell? ⟨1,f,none⟩=some (.int .u16 (y.toNat : Int))):=⟨hcy,hcf⟩
        have b1 : (i : Int)≤(s.size : Int):=by omega
        have b2 : (i : Int)≤(t.size : Int):=by omega
        have b3 : (0 : Int)≤(i : Int):=by omega
        have b4 : i < s.size:=by omega
        have b5 : i < t.size:=by omega
        clear hcy hcf
        go_wp2
        go_step3
        (try simp only [Exit.inBlock,Exit.then])
        refine ⟨_,by rw [HF.out]; rfl,?_⟩
        clear HF
        obtain ⟨S,hS⟩ : ∃ S,S=s.extract i s.size:=⟨_,rfl⟩
        obtain ⟨T,hTt⟩ : ∃ T,T=t.extract i t.size:=⟨_,rfl⟩
        have hSs : 0 < S.size:=by rw [hS,ByteArray.size_extract]; omega
        have hS0 : S.data.toList[0]?=some x:=by rw [hS]; exact ext_head Hx.out.1
        have hT0 : T.data.toList[0]?=some y:=by rw [hTt]; exact ext_head Hx.out.2
        have hTs : 0 < T.size:=by rw [hTt,ByteArray.size_extract]; omega
        have hx0 : 128≤(S[0]'hSs).toNat:=by
          have e:=Lib.data_getElem? S 0 hSs
          rw [hS0] at e
          injection e with e
          rw [← e]; omega
        have hd:=decode_high S 0 hSs hx0
        have HBI : Hid (∀ p,Below w.heap.size w (w.iter S p)):=fun p=>(Below.refl _ _).alloc (Nat.le_refl _) _
        have HT0:=Lib.hid hT0
        have HS1:=Lib.hid hSs
        clear hS0 hT0 hx0 hx hy
        go_wp2
        rw [← hS,← hTt]
        clear hS hTt
        go_loopw [1] (fun t1 wx=>t1=.string T∧wx=w.iter S 0) (fun _ _=>0)
        case atStart=>exact ⟨rfl,rfl⟩
        case round =>
          obtain ⟨rfl,rfl⟩:=hrel
          have hnx : ∀ ty,(Instr.next (.pointer (some ⟨w.heap.size,0,none⟩)) true ty).run Tryz.prog (w.iter S 0)=_:=fun ty=>run_next_any w S 0 ty HS1.out
          generalize Utf8.decode S 0=D at hnx hd
          obtain ⟨R,wd⟩:=D
          have hd : 128≤R:=hd.1
          have e1 : ((T.size : Int) == 0)=false:=beq_eq_false_iff_ne.2 (by omega)
          have e2 : ((y.toNat : Int) == (R : Int))=false:=beq_eq_false_iff_ne.2 (by omega)
          have e3 : (y.toNat : Int) < (R : Int):=by omega
          have e4 : ¬ (R : Int) < 128:=by omega
          have e5 : (1 : Int)≤(T.size : Int):=by omega
          have C1 : Hid (∀ W,Calls Tryz.prog 129 #[.string T] W fun e w'=>e=.returned (.tuple #[.int .i32 y.toNat,.int .i64 1])∧w'=W):=fun W=>Tryz.utf8_DecodeRuneInString_ascii T y W HT0.out hy128
          go_wp2_with (first | (go_at_call 129; refine (C1.out _).mono ?_; rintro ee W1 ⟨rfl,rfl⟩; refine Hid.out ?_) | fail)
          refine Lib.hid ?_
          have C2 : Hid (Calls Tryz.prog 130 #[.int .i32 (y.toNat : Int)] (w.iter S wd) fun e w'=>e=.returned (.int .i32 (f : Int))∧w'=w.iter S wd):=pSimple y.toNat f hy128 hf128 _ (cell_on HC.out.1 (HBI.out wd))
          have C3 : Hid (Calls Tryz.prog 130 #[.int .i32 (f : Int)] (w.iter S wd) fun e w'=>e=.returned (.int .i32 (y.toNat : Int))∧w'=w.iter S wd):=pSimple f y.toNat hf128 hy128 _ (cell_on HC.out.2 (HBI.out wd))
          have HY : Hid (f < R):=by show f < R; omega
          go_wp2_with (first | (go_at_call 130; refine C2.out.mono ?_; rintro ee W1 ⟨rfl,rfl⟩; refine Hid.out ?_) | fail)
          refine Lib.hid ?_
          go_wp2
          go_loop [13] (fun r=>∃ k : Nat,k≤1∧r=.int .i32 (if k=0 then (f : Int) else (y.toNat : Int))) (fun r=>if intOf r=(y.toNat : Int) then 0 else 1)
          case atStart=>exact ⟨0,by omega,rfl⟩
          case round =>
            obtain ⟨k,hk,rfl⟩:=hrel
            rcases (by omega : k=0∨k=1) with rfl | rfl
            · rw [if_pos rfl]
              by_cases hfy : f=y.toNat
              · subst hfy
                have c1 : ((y.toNat : Int) == (y.toNat : Int))=true:=beq_self_eq_true _
                have c2 : ((y.toNat : Int) == (R : Int))=false:=e2
                go_wp2
                go_ret
                exact ⟨by rw [HE.out]; rfl,HBI.out wd⟩
              · have c1 : ((f : Int) != (y.toNat : Int))=true:=by rw [bne_iff_ne]; omega
                have c2 : (f : Int) < (R : Int):=by have:=HY.out; omega
                go_wp2_with (first | (go_at_call 130; refine C3.out.mono ?_; rintro ee W1 ⟨rfl,rfl⟩; refine Hid.out ?_) | fail)
                refine Lib.hid ?_
                go_wp2
                go_round
                case rel=>exact ⟨1,by omega,rfl⟩
                case measure =>
                  have hne : ¬ (f : Int)=(y.toNat : Int):=by omega
                  simp [intOf,hne]
            · rw [if_neg (show ¬ (1 : Nat)=0 by decide)]
              go_wp2
              go_ret
              exact ⟨by rw [HE.out]; rfl,HBI.out wd⟩
end Go.Proofs.YtghnopkgcgfcpaaGreatDoor.Path
set_option maxHeartbeats 16000000
set_option maxRecDepth 100000
namespace Go.Proofs.YtghnopkgcgfcpaaGreatDoor.Path
open Go.RowKit Base
def notBr (c : UInt8) : Bool:=decide (c.toNat ≠ 93)
def sixT : ByteArray:=⟨#[73,80,118,54,58]⟩
def isSixT (t : ByteArray) : Bool:=decide (5≤t.size) && Lib.equalFold (t.extract 0 5).data.toList [73,80,118,54,58]
def litU (t : ByteArray) : ByteArray:=if isSixT t=true then t.extract 5 t.size else t
def litShow (n : Cidr.NetM) : ByteArray:=match Cidr.showN n with
 | some l=>⟨l.toArray⟩
 | none=>⟨#[]⟩
def litB (s : ByteArray) (j : Nat) (t : ByteArray) : Bool × Nat × ByteArray:=match Cidr.addrN (litU t) with
 | none=>(false,j,⟨#[]⟩)
 | some n=>if n.six=isSixT t then (if hasB s j 93=true then (true,j + 1,litShow n) else (false,j,⟨#[]⟩)) else (false,j,⟨#[]⟩)
def litL (s : ByteArray) (k : Nat) : Bool × Nat × ByteArray:=litB s (k + rowN notBr s k) (s.extract k (k + rowN notBr s k))
theorem litB_le (s : ByteArray) (j : Nat) (t : ByteArray) (hj : j≤s.size) : (litB s j t).2.1≤s.size∧j≤(litB s j t).2.1:=by
 unfold litB
 split
 ·exact ⟨hj,Nat.le_refl _⟩
 ·split
  ·split
   ·rename_i h
    have:=hasB_lt h
    exact ⟨by show j + 1≤_; omega,Nat.le_succ _⟩
   ·exact ⟨hj,Nat.le_refl _⟩
  ·exact ⟨hj,Nat.le_refl _⟩
theorem litL_le (s : ByteArray) (k : Nat) (hk : k≤s.size) : (litL s k).2.1≤s.size∧k≤(litL s k).2.1:=by
 have h1:=row_le notBr s k hk
 have h2:=litB_le s (k + rowN notBr s k) (s.extract k (k + rowN notBr s k)) h1
 exact ⟨h2.1,Nat.le_trans (Nat.le_add_right _ _) h2.2⟩
theorem pNotBr (c : UInt8) (w : World) : Calls Tryz.prog 96 #[.int .u8 (c.toNat : Int)] w (AskEnd (notBr c) w):=by
 have e : notBr c=((c.toNat : Int) != 93):=by
  unfold notBr
  by_cases h : c.toNat=93
  ·rw [h]; rfl
  ·rw [decide_eq_true h]; symm; rw [bne_iff_ne]; omega
 rw [e]
 go_enter Tryz.func96,Tryz.ntmps96
 go_wp2
 go_ret
 exact ⟨rfl,rfl⟩
theorem enters_notBr : ∀ (args : Array Value) (w : World),(callFunc 96 args).run Tryz.prog w=.ok (.enter 96 args) w:=fun args w=>by go_simp
structure EnvL (w : World) : Prop where
 cidr : Cidr.EnvS w
 fold : FoldT w sixT
theorem EnvL.on {w w' : World} (h : EnvL w) (hb : Below w.heap.size w w') : EnvL w' :=
 ⟨h.cidr.on hb,h.fold.asc,fun j b hj=>by
  obtain ⟨f,h1,h2,h3⟩:=h.fold.fold j b hj
  exact ⟨f,h1,cell_on h2 hb,cell_on h3 hb⟩⟩
theorem lit_show (n : Cidr.NetM) (ha : n.a.length=16) (w : World) (he : Cidr.EnvS w) : Calls Tryz.prog 99 #[Cidr.netV n] w fun e w'=>∃ z : Int,e=.returned (.tuple #[.string (litShow n),.int .i64 z])∧Below w.heap.size w w' :=
 (Cidr.pShow n ha w he).mono fun e w' h=>by
  rcases h with ⟨hb,⟨h1,rfl⟩ | ⟨l,h1,rfl⟩⟩
  ·exact ⟨70,by unfold litShow; rw [h1],hb⟩
  ·exact ⟨0,by unfold litShow; rw [h1],hb⟩
theorem pLit {w0 : World} (he : EnvL w0) (g k : Nat) (s : ByteArray) (w : World) (hg0 : w0.heap.size≤g) (hE : Below w0.heap.size w0 w) (h : RdAt w g s k) (hk : k≤s.size) (hs : s.size≤140737488355328) :
  Calls Tryz.prog 64 #[.pointer (some ⟨g,0,none⟩)] w (LocEnd g s w (litL s k)):=by
 have HEN : Hid (∀ w',KeepX g w w'→EnvL w'):=fun w' hk=>he.on (hE.trans (hk.below hg0 (heap_lt h)))
 have hgl:=heap_lt h
 have C1 : Hid (Calls Tryz.prog 95 #[.pointer (some ⟨g,0,none⟩),.func (.func 96) #[] #[]] w fun e w'=>e=.returned (.string (s.extract k (k + rowN notBr s k)))∧RdAt w' g s (k + rowN notBr s k)∧KeepX g w w') :=
  pRow 96 notBr enters_notBr pNotBr g k s w h hk (by omega)
 have hj:=row_le notBr s k hk
 obtain ⟨D,hD⟩ : ∃ D,D=litL s k:=⟨_,rfl⟩
 rw [← hD]
 have HD : Hid (D=litB s (k + rowN notBr s k) (s.extract k (k + rowN notBr s k))):=hD
 generalize k + rowN notBr s k=j at C1 HD hj
 have hts : (s.extract k j).size≤s.size:=by rw [ByteArray.size_extract]; omega
 generalize s.extract k j=t at C1 HD hts
 have C4 : Hid (∀ W,RdAt W g s j→Calls Tryz.prog 63 #[.pointer (some ⟨g,0,none⟩),.int .u8 93] W fun e w'=>e=.returned (.bool (hasB s j 93))∧RdAt w' g s (if hasB s j 93=true then j + 1 else j)∧KeepX g W w') :=
  fun W h1=>pHas g j s 93 W h1 hj (by omega)
 clear hD h hE hg0 he
 go_enter Tryz.func64,Tryz.ntmps64
 go_wp2
 refine wp_scope_fwd fun F hF=>?_
 have HF:=Lib.hid hF
 clear hF
 go_wp2_with (first | (go_at_call 95; refine C1.out.mono ?_; rintro ee w1 ⟨rfl,h1,q1⟩; refine Hid.out ?_) | fail)
 refine Lib.hid ?_
 have HR1:=Lib.hid h1
 have HQ1:=Lib.hid q1
 have hgl1 : g < w1.heap.size:=Nat.lt_of_lt_of_le hgl q1.size
 have HEq:=Lib.hid (fun (h5 : 5≤t.size)=>pEqF (t.extract 0 5) sixT w1 (by rw [ByteArray.size_extract]; omega) (by rw [ByteArray.size_extract]; show _=5; omega) (HEN.out _ q1).fold)
 clear h1 q1
 go_upto_region 3 with fail
 go_cut [6] from 11 to 18 (fun x wx=>x=.bool (isSixT t)∧Hid (RdAt wx g s j)∧Hid (KeepX g w wx))
 case first =>
  by_cases h5 : 5≤t.size
  ·have i5 : (5 : Int)≤(t.size : Int):=by omega
   have C2 : Hid (Calls Tryz.prog 97 #[.string (t.extract 0 5),.string ⟨#[73,80,118,54,58]⟩] w1 fun e w'=>e=.returned (.bool (isSixT t))∧Below w1.heap.size w1 w'):=by
    have e : isSixT t=Lib.equalFold (t.extract 0 5).data.toList sixT.data.toList:=by unfold isSixT; rw [decide_eq_true h5]; rfl
    rw [e]; exact HEq.out h5
   clear h5 HEq
   go_wp2_with (first | (go_at_call 97; refine C2.out.mono ?_; rintro ee w2 ⟨rfl,hb⟩; refine Hid.out ?_) | fail)
   refine Lib.hid ?_
   have HR2 : Hid (RdAt w2 g s j):=HR1.out.on hb
   have HQ2 : Hid (KeepX g w w2):=HQ1.out.trans (KeepX.of_below hb)
   clear hb
   go_wp2
   go_meet
   case rel=>exact ⟨by simp,HR2.out,HQ2.out⟩
  ·have i5 : ¬ (5 : Int)≤(t.size : Int):=by omega
   have e : isSixT t=false:=by unfold isSixT; rw [decide_eq_false h5]; rfl
   have HEE:=Lib.hid e
   clear h5 HEq e
   go_wp2
   go_meet
   case rel=>exact ⟨by rw [HEE.out],HR1.out,HQ1.out⟩
 case rest =>
  obtain ⟨rfl,hr,hq⟩:=hcut
  have HR2:=Lib.hid hr
  have HQ2:=Lib.hid hq
  have hgl2 : g < wc.heap.size:=Nat.lt_of_lt_of_le hgl hq.size
  clear hr hq HR1 HQ1 HEq C1 hgl1
  have HU : Hid (isSixT t=true→5≤t.size):=fun e=>by
   unfold isSixT at e
   rw [Bool.and_eq_true] at e
   exact of_decide_eq_true e.1
  have HD2 : Hid (D=match Cidr.addrN (if isSixT t=true then t.extract 5 t.size else t) with
   | none=>(false,j,⟨#[]⟩)
   | some n=>if n.six=isSixT t then (if hasB s j 93=true then (true,j + 1,litShow n) else (false,j,⟨#[]⟩)) else (false,j,⟨#[]⟩)):=HD.out
  generalize isSixT t=b6 at HU HD2
  clear HD
  cases b6 with
  | true =>
   have hu5 : 5≤t.size:=HU.out rfl
   have i5 : (5 : Int)≤(t.size : Int):=by omega
   have HD3 : Hid (D=match Cidr.addrN (t.extract 5 t.size) with
    | none=>(false,j,⟨#[]⟩)
    | some n=>if n.six=true then (if hasB s j 93=true then (true,j + 1,litShow n) else (false,j,⟨#[]⟩)) else (false,j,⟨#[]⟩)):=by
    have e:=HD2.out
    rw [if_pos rfl] at e
    exact e
   have HA:=Lib.hid (fun W (hk : KeepX g w W)=>Cidr.pAddr (t.extract 5 t.size) W (HEN.out W hk).cidr.env)
   clear HD2 HU
   cases hgo : Cidr.addrN (t.extract 5 t.size) with
   | none =>
    have HT : Hid (D=(false,j,⟨#[]⟩)):=by have e:=HD3.out; rw [hgo] at e; exact e
    rw [hgo] at HA
    have HA2:=Lib.hid (fun W hk=>Cidr.addr_no (HA.out W hk))
    clear HA HD3 hgo
    go_wp2_with (first | (go_at_call 98; refine (HA2.out _ HQ2.out).mono ?_; rintro ee w3 ⟨rfl,hb⟩; refine Hid.out ?_) | fail)
    refine Lib.hid ?_
    have HR3 : Hid (RdAt w3 g s j):=HR2.out.on hb
    have HQ3 : Hid (KeepX g w w3):=HQ2.out.trans (KeepX.of_below hb)
    have HT3:=Lib.hid (Cidr.there_net (Cidr.NetAt.new w3 Cidr.zeroN) rfl (n:=Cidr.zeroN) rfl)
    have HC3:=Lib.hid (Cidr.size25c (n:=Cidr.zeroN) rfl)
    clear hb
    go_wp2_with (first | (refine wpList_store_mid rfl 70 (.tmp 7) (.tmp 25) rfl w3.heap.size 0 (Cidr.netC Cidr.zeroN) rfl rfl HT3.out HC3.out (Cidr.netC_all _) ?_; generalize hw4 : World.setCells _ _ _ _=w4; refine Hid.out ?_) | fail)
    refine Lib.hid ?_
    obtain ⟨hn4,hb4⟩:=Cidr.net_new (n:=Cidr.zeroN) rfl hw4
    have HR4 : Hid (RdAt w4 g s j):=HR3.out.on hb4
    have HQ4 : Hid (KeepX g w w4):=HQ3.out.trans (KeepX.of_below hb4)
    clear hw4 hn4 hb4 HT3 HC3
    go_wp2
    go_step3
    refine ⟨_,by rw [HF.out]; rfl,?_⟩
    clear HF
    go_wp2
    rw [Exit.noGoto_ret]
    go_ret2
    rw [HT.out]
    exact ⟨rfl,HR4.out,HQ4.out⟩
   | some n =>
    have HT : Hid (D=if n.six=true then (if hasB s j 93=true then (true,j + 1,litShow n) else (false,j,⟨#[]⟩)) else (false,j,⟨#[]⟩)):=by have e:=HD3.out; rw [hgo] at e; exact e
    rw [hgo] at HA
    have HA2:=Lib.hid (fun W hk=>Cidr.addr_yes (HA.out W hk))
    clear HA HD3 hgo
    go_wp2_with (first | (go_at_call 98; refine (HA2.out _ HQ2.out).mono ?_; rintro ee w3 ⟨hna,rfl,hb⟩; refine Hid.out ?_) | fail)
    refine Lib.hid ?_
    have HNA:=Lib.hid hna
    have HR3 : Hid (RdAt w3 g s j):=HR2.out.on hb
    have HQ3 : Hid (KeepX g w w3):=HQ2.out.trans (KeepX.of_below hb)
    have HT3:=Lib.hid (Cidr.there_net (Cidr.NetAt.new w3 Cidr.zeroN) rfl (n:=n) hna)
    have HC3:=Lib.hid (Cidr.size25c (n:=n) hna)
    have hlt3:=heap_lt HR3.out
    clear hb hna
    go_wp2_with (first | (refine wpList_store_mid rfl 70 (.tmp 7) (.tmp 25) rfl w3.heap.size 0 (Cidr.netC n) rfl rfl HT3.out HC3.out (Cidr.netC_all _) ?_; generalize hw4 : World.setCells _ _ _ _=w4; refine Hid.out ?_) | fail)
    refine Lib.hid ?_
    obtain ⟨hn4,hb4⟩:=Cidr.net_new (n:=n) HNA.out hw4
    have HN4:=Lib.hid hn4
    have HR4 : Hid (RdAt w4 g s j):=HR3.out.on hb4
    have HQ4 : Hid (KeepX g w w4):=HQ3.out.trans (KeepX.of_below hb4)
    clear hw4 hn4 hb4 HT3 HC3
    by_cases hsx : n.six=true
    ·have y0 : w4.cell? ⟨w3.heap.size,0,none⟩=some (.bool true):=by have e:=HN4.out.six; rw [hsx] at e; exact e
     have HT : Hid (D=if hasB s j 93=true then (true,j + 1,litShow n) else (false,j,⟨#[]⟩)):=by have e:=HT.out; rw [if_pos hsx] at e; exact e
     have C5 : Hid (Calls Tryz.prog 63 #[.pointer (some ⟨g,0,none⟩),.int .u8 93] w4 fun e w'=>e=.returned (.bool (hasB s j 93))∧RdAt w' g s (if hasB s j 93=true then j + 1 else j)∧KeepX g w4 w'):=C4.out w4 HR4.out
     clear hsx C4
     generalize hasB s j 93=hb93 at HT C5
     go_wp2_with (first | (go_at_call 63; refine C5.out.mono ?_; rintro ee w5 ⟨rfl,h5,q5⟩; refine Hid.out ?_) | fail)
     refine Lib.hid ?_
     have HQ5 : Hid (KeepX g w w5):=HQ4.out.trans q5
     have hn5 : Cidr.NetAt w5 w3.heap.size n:=(q5.block _ (heap_lt HN4.out) (by omega)).trans HN4.out
     have HN5:=Lib.hid hn5
     cases hb93 with
     | true =>
      have HR5 : Hid (RdAt w5 g s (j + 1)):=h5
      have HT2 : Hid (D=(true,j + 1,litShow n)):=HT.out
      have C6:=Lib.hid (lit_show n HNA.out w5 (HEN.out _ HQ5.out).cidr)
      have HSt:=Lib.hid (Cidr.size25_of (n:=n) HNA.out)
      clear h5 q5 hn5 HT C5 HR4 HN4
      go_wp2_with (first | (refine wpList_load_mid rfl 70 (.tmp 7) rfl w3.heap.size 0 rfl (Cidr.netL n) _ HN5.out.range0 Tryz.underlying70 rfl HSt.out ?_) | (go_at_call 99; refine C6.out.mono ?_; rintro ee w6 ⟨z,rfl,hb⟩; refine Hid.out ?_) | fail)
      refine Lib.hid ?_
      have HR6 : Hid (RdAt w6 g s (j + 1)):=HR5.out.on hb
      have HQ6 : Hid (KeepX g w w6):=HQ5.out.trans (KeepX.of_below hb)
      clear hb
      go_wp2
      rw [Exit.fwd_ret]
      go_ret2
      rw [HT2.out]
      exact ⟨rfl,HR6.out,HQ6.out⟩
     | false =>
      have HR5 : Hid (RdAt w5 g s j):=h5
      have HT : Hid (D=(false,j,⟨#[]⟩)):=HT.out
      clear h5 q5 hn5 C5 HR4 HN4
      go_wp2
      go_step3
      refine ⟨_,by rw [HF.out]; rfl,?_⟩
      clear HF
      go_wp2
      rw [Exit.noGoto_ret]
      go_ret2
      rw [HT.out]
      exact ⟨rfl,HR5.out,HQ5.out⟩
    ·have hsy : n.six=false:=by cases h : n.six <;> simp_all
     have y0 : w4.cell? ⟨w3.heap.size,0,none⟩=some (.bool false):=by have e:=HN4.out.six; rw [hsy] at e; exact e
     have HT : Hid (D=(false,j,⟨#[]⟩)):=by have e:=HT.out; rw [if_neg hsx] at e; exact e
     clear hsx hsy C4
     go_wp2
     go_step3
     refine ⟨_,by rw [HF.out]; rfl,?_⟩
     clear HF
     go_wp2
     rw [Exit.noGoto_ret]
     go_ret2
     rw [HT.out]
     exact ⟨rfl,HR4.out,HQ4.out⟩
  | false =>
   have HD3 : Hid (D=match Cidr.addrN t with
    | none=>(false,j,⟨#[]⟩)
    | some n=>if n.six=false then (if hasB s j 93=true then (true,j + 1,litShow n) else (false,j,⟨#[]⟩)) else (false,j,⟨#[]⟩)):=by
    have e:=HD2.out
    rw [if_neg (by simp)] at e
    exact e
   have HA:=Lib.hid (fun W (hk : KeepX g w W)=>Cidr.pAddr t W (HEN.out W hk).cidr.env)
   clear HD2 HU
   cases hgo : Cidr.addrN t with
   | none =>
    have HT : Hid (D=(false,j,⟨#[]⟩)):=by have e:=HD3.out; rw [hgo] at e; exact e
    rw [hgo] at HA
    have HA2:=Lib.hid (fun W hk=>Cidr.addr_no (HA.out W hk))
    clear HA HD3 hgo
    go_wp2_with (first | (go_at_call 98; refine (HA2.out _ HQ2.out).mono ?_; rintro ee w3 ⟨rfl,hb⟩; refine Hid.out ?_) | fail)
    refine Lib.hid ?_
    have HR3 : Hid (RdAt w3 g s j):=HR2.out.on hb
    have HQ3 : Hid (KeepX g w w3):=HQ2.out.trans (KeepX.of_below hb)
    have HT3:=Lib.hid (Cidr.there_net (Cidr.NetAt.new w3 Cidr.zeroN) rfl (n:=Cidr.zeroN) rfl)
    have HC3:=Lib.hid (Cidr.size25c (n:=Cidr.zeroN) rfl)
    clear hb
    go_wp2_with (first | (refine wpList_store_mid rfl 70 (.tmp 7) (.tmp 25) rfl w3.heap.size 0 (Cidr.netC Cidr.zeroN) rfl rfl HT3.out HC3.out (Cidr.netC_all _) ?_; generalize hw4 : World.setCells _ _ _ _=w4; refine Hid.out ?_) | fail)
    refine Lib.hid ?_
    obtain ⟨hn4,hb4⟩:=Cidr.net_new (n:=Cidr.zeroN) rfl hw4
    have HR4 : Hid (RdAt w4 g s j):=HR3.out.on hb4
    have HQ4 : Hid (KeepX g w w4):=HQ3.out.trans (KeepX.of_below hb4)
    clear hw4 hn4 hb4 HT3 HC3
    go_wp2
    go_step3
    refine ⟨_,by rw [HF.out]; rfl,?_⟩
    clear HF
    go_wp2
    rw [Exit.noGoto_ret]
    go_ret2
    rw [HT.out]
    exact ⟨rfl,HR4.out,HQ4.out⟩
   | some n =>
    have HT : Hid (D=if n.six=false then (if hasB s j 93=true then (true,j + 1,litShow n) else (false,j,⟨#[]⟩)) else (false,j,⟨#[]⟩)):=by have e:=HD3.out; rw [hgo] at e; exact e
    rw [hgo] at HA
    have HA2:=Lib.hid (fun W hk=>Cidr.addr_yes (HA.out W hk))
    clear HA HD3 hgo
    go_wp2_with (first | (go_at_call 98; refine (HA2.out _ HQ2.out).mono ?_; rintro ee w3 ⟨hna,rfl,hb⟩; refine Hid.out ?_) | fail)
    refine Lib.hid ?_
    have HNA:=Lib.hid hna
    have HR3 : Hid (RdAt w3 g s j):=HR2.out.on hb
    have HQ3 : Hid (KeepX g w w3):=HQ2.out.trans (KeepX.of_below hb)
    have HT3:=Lib.hid (Cidr.there_net (Cidr.NetAt.new w3 Cidr.zeroN) rfl (n:=n) hna)
    have HC3:=Lib.hid (Cidr.size25c (n:=n) hna)
    have hlt3:=heap_lt HR3.out
    clear hb hna
    go_wp2_with (first | (refine wpList_store_mid rfl 70 (.tmp 7) (.tmp 25) rfl w3.heap.size 0 (Cidr.netC n) rfl rfl HT3.out HC3.out (Cidr.netC_all _) ?_; generalize hw4 : World.setCells _ _ _ _=w4; refine Hid.out ?_) | fail)
    refine Lib.hid ?_
    obtain ⟨hn4,hb4⟩:=Cidr.net_new (n:=n) HNA.out hw4
    have HN4:=Lib.hid hn4
    have HR4 : Hid (RdAt w4 g s j):=HR3.out.on hb4
    have HQ4 : Hid (KeepX g w w4):=HQ3.out.trans (KeepX.of_below hb4)
    clear hw4 hn4 hb4 HT3 HC3
    by_cases hsx : n.six=false
    ·have y0 : w4.cell? ⟨w3.heap.size,0,none⟩=some (.bool false):=by have e:=HN4.out.six; rw [hsx] at e; exact e
     have HT : Hid (D=if hasB s j 93=true then (true,j + 1,litShow n) else (false,j,⟨#[]⟩)):=by have e:=HT.out; rw [if_pos hsx] at e; exact e
     have C5 : Hid (Calls Tryz.prog 63 #[.pointer (some ⟨g,0,none⟩),.int .u8 93] w4 fun e w'=>e=.returned (.bool (hasB s j 93))∧RdAt w' g s (if hasB s j 93=true then j + 1 else j)∧KeepX g w4 w'):=C4.out w4 HR4.out
     clear hsx C4
     generalize hasB s j 93=hb93 at HT C5
     go_wp2_with (first | (go_at_call 63; refine C5.out.mono ?_; rintro ee w5 ⟨rfl,h5,q5⟩; refine Hid.out ?_) | fail)
     refine Lib.hid ?_
     have HQ5 : Hid (KeepX g w w5):=HQ4.out.trans q5
     have hn5 : Cidr.NetAt w5 w3.heap.size n:=(q5.block _ (heap_lt HN4.out) (by omega)).trans HN4.out
     have HN5:=Lib.hid hn5
     cases hb93 with
     | true =>
      have HR5 : Hid (RdAt w5 g s (j + 1)):=h5
      have HT2 : Hid (D=(true,j + 1,litShow n)):=HT.out
      have C6:=Lib.hid (lit_show n HNA.out w5 (HEN.out _ HQ5.out).cidr)
      have HSt:=Lib.hid (Cidr.size25_of (n:=n) HNA.out)
      clear h5 q5 hn5 HT C5 HR4 HN4
      go_wp2_with (first | (refine wpList_load_mid rfl 70 (.tmp 7) rfl w3.heap.size 0 rfl (Cidr.netL n) _ HN5.out.range0 Tryz.underlying70 rfl HSt.out ?_) | (go_at_call 99; refine C6.out.mono ?_; rintro ee w6 ⟨z,rfl,hb⟩; refine Hid.out ?_) | fail)
      refine Lib.hid ?_
      have HR6 : Hid (RdAt w6 g s (j + 1)):=HR5.out.on hb
      have HQ6 : Hid (KeepX g w w6):=HQ5.out.trans (KeepX.of_below hb)
      clear hb
      go_wp2
      rw [Exit.fwd_ret]
      go_ret2
      rw [HT2.out]
      exact ⟨rfl,HR6.out,HQ6.out⟩
     | false =>
      have HR5 : Hid (RdAt w5 g s j):=h5
      have HT : Hid (D=(false,j,⟨#[]⟩)):=HT.out
      clear h5 q5 hn5 C5 HR4 HN4
      go_wp2
      go_step3
      refine ⟨_,by rw [HF.out]; rfl,?_⟩
      clear HF
      go_wp2
      rw [Exit.noGoto_ret]
      go_ret2
      rw [HT.out]
      exact ⟨rfl,HR5.out,HQ5.out⟩
    ·have hsy : n.six=true:=by cases h : n.six <;> simp_all
     have y0 : w4.cell? ⟨w3.heap.size,0,none⟩=some (.bool true):=by have e:=HN4.out.six; rw [hsy] at e; exact e
     have HT : Hid (D=(false,j,⟨#[]⟩)):=by have e:=HT.out; rw [if_neg hsx] at e; exact e
     clear hsx hsy C4
     go_wp2
     go_step3
     refine ⟨_,by rw [HF.out]; rfl,?_⟩
     clear HF
     go_wp2
     rw [Exit.noGoto_ret]
     go_ret2
     rw [HT.out]
     exact ⟨rfl,HR4.out,HQ4.out⟩
theorem lit_ok {w0 : World} (he : EnvL w0) : LitOk w0 litL:=⟨litL_le,fun g k s w hg hE h hk hs=>pLit he g k s w hg hE h hk hs⟩
end Go.Proofs.YtghnopkgcgfcpaaGreatDoor.Path
set_option maxHeartbeats 16000000
set_option maxRecDepth 100000
namespace Go.Proofs.YtghnopkgcgfcpaaGreatDoor.Path
open Go.RowKit Base
theorem rDisable (w : World) : (callFunc 239 #[]).run Tryz.prog w=.ok (.value (.tuple #[])) w:=run_call_mark0 Tryz.func239 (by kernel_rfl) (by kernel_rfl) (by kernel_rfl) .disable (by kernel_rfl) w
theorem rEnable (w : World) : (callFunc 241 #[]).run Tryz.prog w=.ok (.value (.tuple #[])) w:=run_call_mark0 Tryz.func241 (by kernel_rfl) (by kernel_rfl) (by kernel_rfl) .enable (by kernel_rfl) w
theorem rAcquire (a : Addr) (w : World) : (callFunc 242 #[.pointer (some a)]).run Tryz.prog w=.ok (.value (.tuple #[])) w:=run_call_marked Tryz.func242 (by kernel_rfl) (by kernel_rfl) (by kernel_rfl) .acquire (by kernel_rfl) a w
theorem rMerge (a : Addr) (w : World) : (callFunc 244 #[.pointer (some a)]).run Tryz.prog w=.ok (.value (.tuple #[])) w:=run_call_marked Tryz.func244 (by kernel_rfl) (by kernel_rfl) (by kernel_rfl) .releaseMerge (by kernel_rfl) a w
theorem store_deferred (a : Addr) (x : Value) (u : FrameMode) (w : World) (hc : w.cell? a=some x) (hz : w.frozen? a=false) :
  CallsD Tryz.prog 215 #[.pointer (some a),.bool true] u w fun e u' w'=>u'=u∧(e=.returned (.tuple #[])∧w'=w.drew.setCell a (.int .u32 1)):=by
 have hc' : w.drew.cell? a=some x:=by go_simp
 have hz' : w.drew.frozen? a=false:=by go_simp
 have hst:=run_call_store (P:=Tryz.prog) Tryz.func225 (by kernel_rfl) (by kernel_rfl) (by kernel_rfl) (by kernel_rfl) (k:=.u32) (y:=1) hc' hz'
 go_enter_d Tryz.func215,Tryz.ntmps215
 go_wp2
 go_region_calls
 all_goals (go_end0; exact ⟨rfl,rfl⟩)
theorem unlock_deferred (a : Addr) (u : FrameMode) (w : World) (hc : w.cell? a=some (.int .i32 1)) (hz : w.frozen? a=false) :
  CallsD Tryz.prog 214 #[.pointer (some a)] u w fun e u' w'=>u'=u∧(e=.returned (.tuple #[])∧w'=w.setCell a (.int .i32 0)):=by
 have hd:=rDisable
 have he:=rEnable
 have hr:=rMerge
 have hadd:=run_call_add (P:=Tryz.prog) Tryz.func245 (by kernel_rfl) (by kernel_rfl) (by kernel_rfl) .i32 (by kernel_rfl) (y:=-1) (s:=0) hc hz (by simp [go_sem]; rfl)
 have hcv:=run_convert_to_unsafe (P:=Tryz.prog) (src:=307) (dst:=258) Tryz.underlying307 Tryz.underlying258 (by kernel_rfl) hc
 go_enter_d Tryz.func214,Tryz.ntmps214
 go_wp2
 go_end0
 go_wp2
 go_end0
 exact ⟨rfl,rfl⟩
theorem lock_free (a : Addr) (w : World) (hc : w.cell? a=some (.int .i32 0)) (hz : w.frozen? a=false) :
  Calls Tryz.prog 213 #[.pointer (some a)] w fun e w'=>e=.returned (.tuple #[])∧w'=w.setCell a (.int .i32 1):=by
 have hd:=rDisable
 have he:=rEnable
 have ha:=rAcquire
 have hcas:=run_call_cas_hit (P:=Tryz.prog) Tryz.func240 (by kernel_rfl) (by kernel_rfl) (by kernel_rfl) .i32 (by kernel_rfl) (y:=1) hc hz
 have hc' : (w.setCell a (.int .i32 1)).cell? a=some (.int .i32 1):=World.cell?_setCell_same w a _ hc
 have hcv:=run_convert_to_unsafe (P:=Tryz.prog) (src:=307) (dst:=258) Tryz.underlying307 Tryz.underlying258 (by kernel_rfl) hc'
 go_enter Tryz.func213,Tryz.ntmps213
 go_wp2
 first | go_end0 | (simp only [Exit.inBlock,Exit.then]; refine bodyPost_ret (results_none rfl _ _ _) rfl ?_) | refine bodyPost_ret (results_none rfl _ _ _) rfl ?_
 go_wp2
 go_end0
 exact ⟨rfl,rfl⟩
end Go.Proofs.YtghnopkgcgfcpaaGreatDoor.Path
set_option maxHeartbeats 16000000
set_option maxRecDepth 100000
namespace Go.Proofs.YtghnopkgcgfcpaaGreatDoor.Path
open Go.RowKit Base
def onceO (d m : Int) (r o : Value) : Obj:=.cells #[.int .u32 d,.int .i32 m,.int .u32 0,r,o] 213
theorem five_cells {w : World} {k : Nat} {a b c d e : Value} {t : TypeId} (h : w.heap[k]?=some (.cells #[a,b,c,d,e] t (0,0))) :
  w.cell? ⟨k,0,none⟩=some a∧w.cell? ⟨k,1,none⟩=some b∧w.cell? ⟨k,3,none⟩=some d∧w.cell? ⟨k,4,none⟩=some e∧(∀ j,w.frozen? ⟨k,j,none⟩=false):=by
 refine ⟨?_,?_,?_,?_,fun j=>?_⟩
 ·unfold World.cell?; rw [h]; rfl
 ·unfold World.cell?; rw [h]; rfl
 ·unfold World.cell?; rw [h]; rfl
 ·unfold World.cell?; rw [h]; rfl
 ·unfold World.frozen?; rw [h]; simp
theorem once_set {w : World} {b : Nat} {d m : Int} {r o : Value} (h : w.heap[b]?=some (onceO d m r o)) :
  (∀ x : Int,(w.setCell ⟨b,0,none⟩ (.int .u32 x)).heap[b]?=some (onceO x m r o))∧(∀ x : Int,(w.setCell ⟨b,1,none⟩ (.int .i32 x)).heap[b]?=some (onceO d x r o))∧(∀ x : Value,(w.setCell ⟨b,3,none⟩ x).heap[b]?=some (onceO d m x o))∧(∀ x : Value,(w.setCell ⟨b,4,none⟩ x).heap[b]?=some (onceO d m r x)):=by
 refine ⟨fun x=>?_,fun x=>?_,fun x=>?_,fun x=>?_⟩
 all_goals
  unfold onceO at h ⊢
  rw [heap_setCell_any w b _ _ _ _ _ h]
  rfl
def Built (b : Nat) (d m : Int) (w' : World) : Prop:=∃ g A c1 c2 a1 a2,w'.heap[b]?=some (onceO d m (.iface 281 (.pointer (some ⟨g,0,none⟩))) (.slice none 0 0))∧RepAt w' g A c1 c2 a1 a2∧b ≠ g∧b ≠ A∧b ≠ a1∧b ≠ a2
theorem cell_keptX {w w' : World} {b k o : Nat} {v : Value} (h : w.cell? ⟨k,o,none⟩=some v) (hne : b ≠ k) (hk : KeepX b w w') : w'.cell? ⟨k,o,none⟩=some v:=by
 have hl:=cell_lt h
 unfold World.cell? at h ⊢
 rw [hk.block k hl (fun e=>hne e.symm)]
 exact h
theorem reads_keptX {w w' : World} {b a c : Nat} {l : List UInt8} (h : Reads w (.slice (some ⟨a,0,none⟩) 2 c) l) (hl : l.length=2) (hne : b ≠ a) (hk : KeepX b w w') : Reads w' (.slice (some ⟨a,0,none⟩) 2 c) l:=by
 rcases h with ⟨rfl,_⟩ | ⟨b',o,c',e,h1,hc⟩
 ·simp at hl
 ·injection e with e1 e2 e3
  injection e1 with e1
  injection e1 with e4 e5
  subst e4; subst e5; subst e3
  exact Or.inr ⟨a,0,c,by rw [hl],h1,fun i hi=>cell_keptX (hc i hi) hne hk⟩
theorem RepAt.keptX {w w' : World} {b g A c1 c2 a1 a2 : Nat} (h : RepAt w g A c1 c2 a1 a2) (h1 : b ≠ g) (h2 : b ≠ A) (h3 : b ≠ a1) (h4 : b ≠ a2) (hk : KeepX b w w') : RepAt w' g A c1 c2 a1 a2 :=
 ⟨fun c hc=>cell_keptX (h.row c hc) h1 hk,cell_keptX h.list h1 hk,cell_keptX h.l0 h2 hk,cell_keptX h.l1 h2 hk,reads_keptX h.q rfl h3 hk,reads_keptX h.b rfl h4 hk⟩
def BuiltEnd (b : Nat) (d m : Int) (w : World) (e : Ending) (w' : World) : Prop:=e=.returned (.tuple #[])∧Built b d m w'∧KeepX b w w'
def buildF (b : Nat) : Value:=.func (.func 169) #[.pointer (some ⟨b,0,none⟩)] #[]
def BuildOk (b : Nat) (o : Value) (w : World) : Prop:=∀ W : World,W.heap[b]?=some (onceO 0 1 .nilIface o)→KeepX b w W→Calls Tryz.prog 169 #[.pointer (some ⟨b,0,none⟩)] W (BuiltEnd b 0 1 W)
theorem pSlow (b : Nat) (o : Value) (w : World) (hw : w.heap[b]?=some (onceO 0 0 .nilIface o)) (HB : BuildOk b o w) :
  Calls Tryz.prog 199 #[.pointer (some ⟨b,0,none⟩),buildF b] w (BuiltEnd b 1 0 w):=by
 obtain ⟨z0,z1,z3,z4,zf⟩:=five_cells hw
 have hw1:=(once_set hw).2.1 1
 have HW1:=Lib.hid hw1
 have HK1:=Lib.hid (KeepX.set b w 1 (.int .i32 1))
 have C1:=Lib.hid (HB _ hw1 (KeepX.set b w 1 (.int .i32 1)))
 obtain ⟨y0,y1,y3,y4,yf⟩:=five_cells hw1
 have hl:=run_call_load (P:=Tryz.prog) Tryz.func212 (by kernel_rfl) (by kernel_rfl) (by kernel_rfl) .u32 (by kernel_rfl) (w:=w.setCell ⟨b,1,none⟩ (.int .i32 1)) (a:=⟨b,0,none⟩) (x:=0) y0
 have hnot : ∀ (x : Bool) (w : World),(Op.unary .not (.bool x)).run Tryz.prog w=.ok (.bool (!x)) w:=fun _ _=>rfl
 clear HB hw hw1
 unfold buildF
 go_enter_defers Tryz.func199,Tryz.ntmps199
 go_wp2_with (first | (go_at_call 213; refine (lock_free ⟨b,1,none⟩ _ z1 (zf 1)).mono ?_; rintro e w' ⟨rfl,rfl⟩) | (go_at_call 198; go_in) | (go_at_call 169; refine C1.out.mono ?_; rintro e w2 ⟨rfl,hbt,hk⟩; refine Hid.out ?_) | fail)
 refine Lib.hid ?_
 have HBT:=Lib.hid hbt
 have HK2:=Lib.hid hk
 obtain ⟨g,A,c1,c2,a1,a2,h5,hR,n1,n2,n3,n4⟩:=hbt
 obtain ⟨x0,x1,x3,x4,xf⟩:=five_cells h5
 clear hk
 go_wp2
 refine leaves_cons (f:=215) (args:=#[.pointer (some ⟨b,0,none⟩),.bool true]) (by simp) (by simp [go_sem]) ?_
 refine (store_deferred ⟨b,0,none⟩ (.int .u32 0) .returning _ x0 (xf 0)).mono ?_
 rintro e u' w'' ⟨rfl,rfl,rfl⟩
 have q1 : (w2.drew.setCell ⟨b,0,none⟩ (.int .u32 1)).heap[b]?=some (onceO 1 1 (.iface 281 (.pointer (some ⟨g,0,none⟩))) (.slice none 0 0)):=(once_set (w:=w2.drew) h5).1 1
 obtain ⟨v0,v1,v3,v4,vf⟩:=five_cells q1
 refine leaves_cons (f:=214) (args:=#[.pointer (some ⟨b,1,none⟩)]) (by simp [settle]) (by simp [go_sem]) ?_
 refine (unlock_deferred ⟨b,1,none⟩ _ _ v1 (vf 1)).mono ?_
 rintro e u' w'' ⟨rfl,rfl,rfl⟩
 have hk2 : KeepX b w2 ((w2.drew.setCell ⟨b,0,none⟩ (.int .u32 1)).setCell ⟨b,1,none⟩ (.int .i32 0)):=(KeepX.drewN 1).trans ((KeepX.set b _ 0 _).trans (KeepX.set b _ 1 _))
 have hend : BuiltEnd b 1 0 w (.returned (.tuple #[])) ((w2.drew.setCell ⟨b,0,none⟩ (.int .u32 1)).setCell ⟨b,1,none⟩ (.int .i32 0)) :=
  ⟨rfl,⟨g,A,c1,c2,a1,a2,(once_set q1).2.1 0,hR.keptX n1 n2 n3 n4 hk2,n1,n2,n3,n4⟩,HK1.out.trans (HK2.out.trans hk2)⟩
 simpa [Leaves,settle,results,Tryz.results199] using hend
theorem pDo (b : Nat) (o : Value) (w : World) (hw : w.heap[b]?=some (onceO 0 0 .nilIface o)) (HB : BuildOk b o w) :
  Calls Tryz.prog 168 #[.pointer (some ⟨b,0,none⟩),buildF b] w (BuiltEnd b 1 0 w):=by
 obtain ⟨z0,z1,z3,z4,zf⟩:=five_cells hw
 have C1:=Lib.hid (pSlow b o w hw HB)
 have hl:=run_call_load (P:=Tryz.prog) Tryz.func212 (by kernel_rfl) (by kernel_rfl) (by kernel_rfl) .u32 (by kernel_rfl) z0
 have hnot : ∀ (x : Bool) (w : World),(Op.unary .not (.bool x)).run Tryz.prog w=.ok (.bool (!x)) w:=fun _ _=>rfl
 clear HB
 unfold buildF at C1 ⊢
 go_enter Tryz.func168,Tryz.ntmps168
 go_wp2_with (first | (go_at_call 199; refine C1.out.mono ?_; rintro e w' ⟨rfl,h1,h2⟩) | (go_at_call 198; go_in) | fail)
 go_end0
 exact ⟨rfl,h1,h2⟩
end Go.Proofs.YtghnopkgcgfcpaaGreatDoor.Path
