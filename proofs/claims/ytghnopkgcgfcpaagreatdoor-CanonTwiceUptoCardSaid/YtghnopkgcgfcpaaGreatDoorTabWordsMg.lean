/-
  MERGED by mergefill.py: TabWords, TabLower, TabValue, TabPlace.
-/
import Derived.Test.YtghnopkgcgfcpaaGreatDoorStrBaseMg
import Derived.Deep.CutBlock
import Derived.Deep.DeepCutAuto
import Derived.Sort.Walk0
import Derived.WalkLawsBesides
set_option maxHeartbeats 16000000
set_option maxRecDepth 100000
namespace Go.Proofs.YtghnopkgcgfcpaaGreatDoor.Table
open Go.RowKit Base
def isBl (c : UInt8) : Bool:=decide (c.toNat=32∨c.toNat=9)
def trimL (l : List UInt8) : List UInt8:=l.dropWhile isBl
def trimR (l : List UInt8) : List UInt8:=(l.reverse.dropWhile isBl).reverse
def trim (l : List UInt8) : List UInt8:=trimR (trimL l)
def low1 (c : UInt8) : UInt8:=if 65≤c.toNat∧c.toNat≤90 then c + 32 else c
def lower (l : List UInt8) : List UInt8:=l.map low1
def joinP (s p : List UInt8) : List UInt8:=(if s=[] then s else s++[32])++p
def valueOf (first : List UInt8) (more : List (List UInt8)) : List UInt8:=more.foldl joinP (trim first)
theorem lower_len (l : List UInt8) : (lower l).length=l.length:=by simp [lower]
theorem trimL_len (l : List UInt8) : (trimL l).length≤l.length:=(List.dropWhile_sublist _).length_le
theorem trimR_len (l : List UInt8) : (trimR l).length≤l.length:=by unfold trimR; rw [List.length_reverse]; exact Nat.le_trans (List.dropWhile_sublist _).length_le (by simp)
theorem trim_len (l : List UInt8) : (trim l).length≤l.length:=Nat.le_trans (trimR_len _) (trimL_len _)
theorem trimL_cons_yes {c : UInt8} {l : List UInt8} (h : isBl c=true) : trimL (c :: l)=trimL l:=by simp [trimL,h]
theorem trimL_cons_no {c : UInt8} {l : List UInt8} (h : isBl c=false) : trimL (c :: l)=c :: l:=by simp [trimL,h]
theorem trimR_snoc_yes {c : UInt8} {l : List UInt8} (h : isBl c=true) : trimR (l++[c])=trimR l:=by simp [trimR,h]
theorem trimR_snoc_no {c : UInt8} {l : List UInt8} (h : isBl c=false) : trimR (l++[c])=l++[c]:=by simp [trimR,h]
theorem rBlank (c : UInt8) (w : World) : Calls Tryz.prog 78 #[.int .u8 (c.toNat : Int)] w fun e w'=>e=.returned (.bool (isBl c))∧w=w':=by
 by_cases h1 : c.toNat=32
 ·have e1 : ((c.toNat : Int) == 32)=true:=by rw [h1]; rfl
  have HE : Hid (isBl c=true):=by show _=_; simp [isBl,h1]
  clear h1
  go_enter Tryz.func78,Tryz.ntmps78
  go_wp2
  go_ret
  exact ⟨by rw [HE.out]; rfl,rfl⟩
 ·have e1 : ((c.toNat : Int) == 32)=false:=by rw [beq_eq_false_iff_ne]; omega
  by_cases h2 : c.toNat=9
  ·have e2 : ((c.toNat : Int) == 9)=true:=by rw [h2]; rfl
   have HE : Hid (isBl c=true):=by show _=_; simp [isBl,h2]
   clear h1 h2
   go_enter Tryz.func78,Tryz.ntmps78
   go_wp2
   go_ret
   exact ⟨by rw [HE.out]; rfl,rfl⟩
  ·have e2 : ((c.toNat : Int) == 9)=false:=by rw [beq_eq_false_iff_ne]; omega
   have HE : Hid (isBl c=false):=by show _=_; simp [isBl,h1,h2]
   clear h1 h2
   go_enter Tryz.func78,Tryz.ntmps78
   go_wp2
   go_ret
   exact ⟨by rw [HE.out]; rfl,rfl⟩
theorem str_getL (t : ByteArray) (k : Nat) (h : k < t.size) (hl : k < t.data.toList.length) : t.data.toList[k]=t[k]:=by
 have:=str_get t k h
 rw [List.getD_eq_getElem?_getD,List.getElem?_eq_getElem hl] at this
 simpa using this
theorem ext_tail (t : ByteArray) (h : 0 < t.size) : t.data.toList=t[0] :: (t.extract 1 t.size).data.toList:=by
 have e : (t.extract 1 t.size).data.toList=t.data.toList.drop 1:=by
  rw [extract_bytes,List.take_of_length_le (by rw [str_len]; omega)]
 have hl : 0 < t.data.toList.length:=by rw [str_len]; exact h
 have h1:=List.drop_eq_getElem_cons hl
 rw [List.drop_zero,str_getL t 0 h hl] at h1
 rw [e]; exact h1
theorem ext_init (t : ByteArray) (n : Nat) (h : n < t.size) (h2 : t.size=n + 1) : t.data.toList=(t.extract 0 n).data.toList++[t[n]]:=by
 have e : (t.extract 0 n).data.toList=t.data.toList.take n:=by
  rw [extract_bytes]; simp
 have hl : n < t.data.toList.length:=by rw [str_len]; exact h
 have h1:=List.take_succ_eq_append_getElem hl
 rw [List.take_of_length_le (by rw [str_len]; omega),str_getL t n h hl] at h1
 rw [e]; exact h1
theorem ext_size1 (t : ByteArray) : (t.extract 1 t.size).size=t.size - 1:=by simp
theorem ext_size0 (t : ByteArray) (n : Nat) (h : n≤t.size) : (t.extract 0 n).size=n:=by simp; omega
theorem S_eq {t : ByteArray} {l : List UInt8} (h : t.data.toList=l) : Value.string t=S l:=by rw [← h]
theorem rTrim (s : ByteArray) (w : World) (hs : s.size≤9223372036854775807) : Calls Tryz.prog 77 #[.string s] w fun e w'=>e=.returned (S (trim s.data.toList))∧w=w':=by
 obtain ⟨lz,hlz⟩ : ∃ lz,lz=trim s.data.toList:=⟨_,rfl⟩
 rw [← hlz]
 have HLZ:=Lib.hid hlz
 clear hlz
 go_enter Tryz.func77,Tryz.ntmps77
 go_wp2
 go_loop [0] (fun v=>∃ t : ByteArray,v=.string t∧t.size≤s.size∧Hid (trimL t.data.toList=trimL s.data.toList)) (fun v=>match v with | .string t=>t.size | _=>0)
 case atStart=>exact ⟨s,rfl,Nat.le_refl _,rfl⟩
 case round =>
  obtain ⟨t,rfl,hts,HT⟩:=hrel
  have HFIN : (t.size=0∨∃ h : 0 < t.size,isBl t[0]=false)→Hid (trimL s.data.toList=t.data.toList):=fun h=>by
   show trimL s.data.toList=t.data.toList
   rcases h with h | ⟨h,hb⟩
   ·rw [← HT.out,List.eq_nil_of_length_eq_zero (l:=t.data.toList) (by rw [str_len]; exact h)]; rfl
   ·rw [← HT.out,ext_tail t h,trimL_cons_no hb]
  by_cases h0 : 0 < t.size
  ·have i0 : (0 : Int) < (t.size : Int):=by omega
   have HB:=Lib.hid (rBlank t[0] w)
   cases hb : isBl t[0]
   ·rw [hb] at HB
    have HT2 : Hid (trimL s.data.toList=t.data.toList):=HFIN (Or.inr ⟨h0,hb⟩)
    clear HT HFIN hb
    go_wp2_with (first | (go_at_call 78; refine HB.out.mono ?_; rintro e w' ⟨rfl,rfl⟩; refine Hid.out ?_) | fail)
    refine Lib.hid ?_
    go_wp2
    go_loop [0] (fun v=>∃ u : ByteArray,v=.string u∧u.size≤s.size∧Hid (trimR u.data.toList=lz)) (fun v=>match v with | .string t=>t.size | _=>0)
    case atStart=>exact ⟨t,rfl,hts,by show _=_; rw [HLZ.out]; unfold trim; rw [HT2.out]⟩
    case round =>
     obtain ⟨u,rfl,hus,HU⟩:=hrel
     by_cases h0 : 0 < u.size
     ·have i0 : (0 : Int) < (u.size : Int):=by omega
      obtain ⟨n,hn⟩ : ∃ n,u.size=n + 1:=⟨u.size - 1,by omega⟩
      have hnl : n < u.size:=by omega
      have HN:=Lib.hid hn
      have i1 : (u.size : Int) - 1=(n : Int):=by omega
      have i2 : (0 : Int)≤(n : Int):=by omega
      have i3 : (n : Int) < (u.size : Int):=by omega
      have HB:=Lib.hid (rBlank u[n] w)
      clear hn
      cases hb : isBl u[n]
      ·rw [hb] at HB
       have HU2 : Hid (u.data.toList=lz):=by show _=_; rw [← HU.out,ext_init u n hnl HN.out,trimR_snoc_no hb]
       clear HU hb
       go_wp2_with (first | (go_at_call 78; refine HB.out.mono ?_; rintro e w' ⟨rfl,rfl⟩; refine Hid.out ?_) | fail)
       refine Lib.hid ?_
       go_wp2
       go_ret
       exact ⟨congrArg Ending.returned (S_eq HU2.out),rfl⟩
      ·rw [hb] at HB
       have HU2 : Hid (trimR (u.extract 0 n).data.toList=lz):=by show _=_; rw [← HU.out,ext_init u n hnl HN.out,trimR_snoc_yes hb]
       have HZ:=Lib.hid (ext_size0 u n (by omega))
       clear HU hb
       go_wp2_with (first | (go_at_call 78; refine HB.out.mono ?_; rintro e w' ⟨rfl,rfl⟩; refine Hid.out ?_) | fail)
       refine Lib.hid ?_
       go_wp2
       go_round
       case rel=>exact ⟨_,rfl,by rw [HZ.out]; omega,HU2⟩
       case measure=>simp; omega
     ·have i0 : ¬ (0 : Int) < (u.size : Int):=by omega
      have HU2 : Hid (u.data.toList=lz):=by
       show _=_
       have e : u.data.toList=[]:=List.eq_nil_of_length_eq_zero (by rw [str_len]; omega)
       rw [← HU.out,e]; rfl
      clear HU
      go_wp2
      go_ret
      exact ⟨congrArg Ending.returned (S_eq HU2.out),rfl⟩
   ·rw [hb] at HB
    have HT2 : Hid (trimL (t.extract 1 t.size).data.toList=trimL s.data.toList):=by show _=_; rw [← HT.out,ext_tail t h0,trimL_cons_yes hb]
    have HZ:=Lib.hid (ext_size1 t)
    clear HT HFIN hb
    go_wp2_with (first | (go_at_call 78; refine HB.out.mono ?_; rintro e w' ⟨rfl,rfl⟩; refine Hid.out ?_) | fail)
    refine Lib.hid ?_
    go_wp2
    go_round
    case rel=>exact ⟨_,rfl,by rw [HZ.out]; omega,HT2⟩
    case measure=>simp; omega
  ·have i0 : ¬ (0 : Int) < (t.size : Int):=by omega
   have HT2 : Hid (trimL s.data.toList=t.data.toList):=HFIN (Or.inl (by omega))
   clear HT HFIN
   go_wp2
   go_loop [0] (fun v=>∃ u : ByteArray,v=.string u∧u.size≤s.size∧Hid (trimR u.data.toList=lz)) (fun v=>match v with | .string t=>t.size | _=>0)
   case atStart=>exact ⟨t,rfl,hts,by show _=_; rw [HLZ.out]; unfold trim; rw [HT2.out]⟩
   case round =>
    obtain ⟨u,rfl,hus,HU⟩:=hrel
    by_cases h0 : 0 < u.size
    ·have i0 : (0 : Int) < (u.size : Int):=by omega
     obtain ⟨n,hn⟩ : ∃ n,u.size=n + 1:=⟨u.size - 1,by omega⟩
     have hnl : n < u.size:=by omega
     have HN:=Lib.hid hn
     have i1 : (u.size : Int) - 1=(n : Int):=by omega
     have i2 : (0 : Int)≤(n : Int):=by omega
     have i3 : (n : Int) < (u.size : Int):=by omega
     have HB:=Lib.hid (rBlank u[n] w)
     clear hn
     cases hb : isBl u[n]
     ·rw [hb] at HB
      have HU2 : Hid (u.data.toList=lz):=by show _=_; rw [← HU.out,ext_init u n hnl HN.out,trimR_snoc_no hb]
      clear HU hb
      go_wp2_with (first | (go_at_call 78; refine HB.out.mono ?_; rintro e w' ⟨rfl,rfl⟩; refine Hid.out ?_) | fail)
      refine Lib.hid ?_
      go_wp2
      go_ret
      exact ⟨congrArg Ending.returned (S_eq HU2.out),rfl⟩
     ·rw [hb] at HB
      have HU2 : Hid (trimR (u.extract 0 n).data.toList=lz):=by show _=_; rw [← HU.out,ext_init u n hnl HN.out,trimR_snoc_yes hb]
      have HZ:=Lib.hid (ext_size0 u n (by omega))
      clear HU hb
      go_wp2_with (first | (go_at_call 78; refine HB.out.mono ?_; rintro e w' ⟨rfl,rfl⟩; refine Hid.out ?_) | fail)
      refine Lib.hid ?_
      go_wp2
      go_round
      case rel=>exact ⟨_,rfl,by rw [HZ.out]; omega,HU2⟩
      case measure=>simp; omega
    ·have i0 : ¬ (0 : Int) < (u.size : Int):=by omega
     have HU2 : Hid (u.data.toList=lz):=by
      show _=_
      have e : u.data.toList=[]:=List.eq_nil_of_length_eq_zero (by rw [str_len]; omega)
      rw [← HU.out,e]; rfl
     clear HU
     go_wp2
     go_ret
     exact ⟨congrArg Ending.returned (S_eq HU2.out),rfl⟩
end Go.Proofs.YtghnopkgcgfcpaaGreatDoor.Table
set_option maxHeartbeats 16000000
set_option maxRecDepth 100000
namespace Go.Proofs.YtghnopkgcgfcpaaGreatDoor.Table
open Go.RowKit Base
def BytesAt (w : World) (g c : Nat) (l : List UInt8) : Prop :=
 ∃ cs : Array Value,w.heap[g]?=some (.cells cs 5 (cs.size,cs.size + 1))∧l.length≤cs.size∧l.length≤c∧∀ i,i < l.length→cs[i]?=some (.int .u8 ((l.getD i 0).toNat : Int))
theorem BytesAt.new (w : World) (s : ByteArray) (cap : Nat) (h : s.size≤cap) : BytesAt (w.drew.alloc (.cells (bytesRow s cap) 5 ((bytesRow s cap).size,(bytesRow s cap).size + 1))) w.heap.size cap s.data.toList:=by
 refine ⟨bytesRow s cap,(MapKept.heap_alloc w.drew _).1,?_,by rw [str_len]; exact h,fun i hi=>?_⟩
 ·rw [str_len]; unfold bytesRow; simp
 ·have hi2 : i < s.data.size:=by rw [str_len] at hi; exact hi
  rw [bytesRow,Array.getElem?_append_left (by simpa using hi2),Array.getElem?_map,Array.getElem?_eq_getElem hi2]
  simp [List.getD,Array.getElem?_eq_getElem hi2]
theorem BytesAt.cell {w : World} {g c : Nat} {l : List UInt8} (h : BytesAt w g c l) {k : Nat} (hk : k < l.length) : w.cell? ⟨g,k,none⟩=some (.int .u8 ((l.getD k 0).toNat : Int))∧w.frozen? ⟨g,k,none⟩=false:=by
 obtain ⟨cs,h1,h2,_,h3⟩:=h
 refine ⟨by unfold World.cell?; rw [h1]; exact h3 k hk,?_⟩
 simp [World.frozen?,h1]; omega
theorem BytesAt.set {w : World} {g c : Nat} {l : List UInt8} (h : BytesAt w g c l) (k : Nat) (x : UInt8) : BytesAt (w.setCell ⟨g,k,none⟩ (.int .u8 (x.toNat : Int))) g c (l.set k x):=by
 obtain ⟨cs,h1,h2,h2c,h3⟩:=h
 refine ⟨cs.setIfInBounds k (.int .u8 (x.toNat : Int)),by rw [heap_setCell_any w g k _ _ _ _ h1]; simp,by simpa using h2,by simpa using h2c,fun i hi=>?_⟩
 rw [List.length_set] at hi
 rw [Array.getElem?_setIfInBounds]
 by_cases e : k=i
 ·subst e
  rw [if_pos rfl,if_pos (by omega)]
  simp [List.getD,hi]
 ·rw [if_neg e,h3 i hi]
  simp [List.getD,e]
theorem BytesAt.reads {w : World} {g c : Nat} {l : List UInt8} (h : BytesAt w g c l) {n : Nat} (hn : n=l.length) : Reads w (.slice (some ⟨g,0,none⟩) n c) l:=by
 subst hn
 obtain ⟨cs,h1,h2,h2c,h3⟩:=h
 refine Or.inr ⟨g,0,c,rfl,h2c,fun i hi=>?_⟩
 rw [Nat.zero_add]
 unfold World.cell?; rw [h1]; exact h3 i hi
def lowK (l : List UInt8) (k : Nat) : List UInt8:=lower (l.take k)++l.drop k
theorem lowK_len (l : List UInt8) (k : Nat) : (lowK l k).length=l.length:=by unfold lowK; rw [List.length_append,lower_len,List.length_take,List.length_drop]; omega
theorem lowK_at (l : List UInt8) (k : Nat) (h : k < l.length) : (lowK l k).getD k 0=l.getD k 0:=by
 unfold lowK
 rw [List.getD_eq_getElem?_getD,List.getElem?_append_right (by rw [lower_len,List.length_take]; omega),List.getElem?_drop,lower_len,List.length_take,List.getD_eq_getElem?_getD]
 congr 2; omega
theorem lowK_succ (l : List UInt8) (k : Nat) (h : k < l.length) : lowK l (k + 1)=(lowK l k).set k (low1 (l.getD k 0)):=by
 unfold lowK
 rw [List.set_append_right _ _ (by rw [lower_len,List.length_take]; omega)]
 rw [lower_len,List.length_take,show k - min k l.length=0 by omega]
 rw [List.drop_eq_getElem_cons h,List.set_cons_zero,List.take_succ_eq_append_getElem h]
 unfold lower
 rw [List.map_append]
 simp [List.getD,List.getElem?_eq_getElem h]
theorem lowK_same (l : List UInt8) (k : Nat) (h : k < l.length) (he : low1 (l.getD k 0)=l.getD k 0) : lowK l (k + 1)=lowK l k:=by
 rw [lowK_succ l k h,he,← lowK_at l k h]
 have hl : k < (lowK l k).length:=by rw [lowK_len]; exact h
 rw [List.getD_eq_getElem?_getD,List.getElem?_eq_getElem hl]
 simp
theorem lowK_zero (l : List UInt8) : lowK l 0=l:=by simp [lowK,lower]
theorem lowK_all (l : List UInt8) : lowK l l.length=lower l:=by simp [lowK]
theorem low1_up {c : UInt8} (h1 : 65≤c.toNat) (h2 : c.toNat≤90) : ((low1 c).toNat : Int)=(c.toNat : Int) + 32:=by
 unfold low1
 rw [if_pos ⟨h1,h2⟩,UInt8.toNat_add]
 have : (32 : UInt8).toNat=32:=rfl
 omega
theorem low1_no {c : UInt8} (h : ¬ (65≤c.toNat∧c.toNat≤90)) : low1 c=c:=by unfold low1; rw [if_neg h]
def LowEnd (s : ByteArray) (w : World) (e : Ending) (w' : World) : Prop:=e=.returned (S (lower s.data.toList))∧Below w.heap.size w w'
theorem rLower (s : ByteArray) (w : World) (hs : s.size≤9223372036854775807) : Calls Tryz.prog 23 #[.string s] w (LowEnd s w):=by
 obtain ⟨cap,hcap,hconv⟩:=ref_bytes w s
 have H0:=Lib.hid (BytesAt.new w s cap hcap)
 have HB0 : Hid (Below w.heap.size w (w.drew.alloc (.cells (bytesRow s cap) 5 ((bytesRow s cap).size,(bytesRow s cap).size + 1)))):=((Below.refl _ _).drew).alloc (Nat.le_refl _) _
 obtain ⟨w0,hw0⟩ : ∃ w0,w0=w.drew.alloc (.cells (bytesRow s cap) 5 ((bytesRow s cap).size,(bytesRow s cap).size + 1)):=⟨_,rfl⟩
 rw [← hw0] at hconv H0 HB0
 clear hw0
 go_enter Tryz.func23,Tryz.ntmps23
 go_wp2
 go_loopw [4] (fun i wr=>∃ k : Nat,k≤s.size∧i=.int .i64 k∧Hid (BytesAt wr w.heap.size cap (lowK s.data.toList k))∧Hid (Below w.heap.size w wr)) (fun i _=>s.size - (intOf i).toNat)
 case atStart=>exact ⟨0,by omega,rfl,by rw [lowK_zero]; exact H0,HB0⟩
 case round =>
  obtain ⟨k,hk,rfl,HAT,HBW⟩:=hrel
  by_cases hlt : k < s.size
  ·have hkl : k < s.data.toList.length:=by rw [str_len]; exact hlt
   have i0 : (0 : Int)≤(k : Int):=by omega
   have i1 : (k : Int) < (s.size : Int):=by omega
   obtain ⟨c1,c2⟩:=HAT.out.cell (k:=k) (by rw [lowK_len]; exact hkl)
   rw [lowK_at _ _ hkl] at c1
   have HS:=Lib.hid (lowK_succ s.data.toList k hkl)
   have HM:=Lib.hid (lowK_same s.data.toList k hkl)
   have hx:=(s.data.toList.getD k 0).toNat_lt
   generalize s.data.toList.getD k 0=x at c1 HS HM hx
   by_cases h1 : 65≤x.toNat
   ·have j1 : (65 : Int)≤(x.toNat : Int):=by omega
    by_cases h2 : x.toNat≤90
    ·have j2 : (x.toNat : Int)≤90:=by omega
     have HN : Hid (BytesAt (wr.setCell ⟨w.heap.size,k,none⟩ (.int .u8 ((x.toNat : Int) + 32))) w.heap.size cap (lowK s.data.toList (k + 1))):=by
      have:=HAT.out.set k (low1 x)
      rw [low1_up h1 h2] at this
      rw [HS.out]; exact this
     have HB2 : Hid (Below w.heap.size w (wr.setCell ⟨w.heap.size,k,none⟩ (.int .u8 ((x.toNat : Int) + 32)))):=HBW.out.setCell (Nat.le_refl _) _
     clear h1 h2
     go_wp2
     go_roundw
     case rel=>exact ⟨k + 1,by omega,by go_num,HN,HB2⟩
     case measure=>simp [intOf]; omega
    ·have j2 : ¬ (x.toNat : Int)≤90:=by omega
     have HN : Hid (BytesAt wr w.heap.size cap (lowK s.data.toList (k + 1))):=by
      show BytesAt _ _ _ _
      rw [HM.out (low1_no (fun h=>h2 h.2))]; exact HAT.out
     clear h1 h2
     go_wp2
     go_roundw
     case rel=>exact ⟨k + 1,by omega,by go_num,HN,HBW⟩
     case measure=>simp [intOf]; omega
   ·have j1 : ¬ (65 : Int)≤(x.toNat : Int):=by omega
    have HN : Hid (BytesAt wr w.heap.size cap (lowK s.data.toList (k + 1))):=by
     show BytesAt _ _ _ _
     rw [HM.out (low1_no (fun h=>h1 h.1))]; exact HAT.out
    clear h1
    go_wp2
    go_roundw
    case rel=>exact ⟨k + 1,by omega,by go_num,HN,HBW⟩
    case measure=>simp [intOf]; omega
  ·have i1 : ¬ (k : Int) < (s.size : Int):=by omega
   have hk2 : k=s.data.toList.length:=by rw [str_len]; omega
   have hcv:=conv_reads (HAT.out.reads (n:=s.size) (by rw [lowK_len,str_len]))
   rw [hk2,lowK_all] at hcv
   clear hk2
   go_wp2
   go_ret
   exact ⟨rfl,HBW.out⟩
theorem pLower (s : ByteArray) (w : World) (hs : s.size≤9223372036854775807) : Calls Tryz.prog 70 #[.string s] w (LowEnd s w):=by
 obtain ⟨cap,hcap,hconv⟩:=ref_bytes w s
 have H0:=Lib.hid (BytesAt.new w s cap hcap)
 have HB0 : Hid (Below w.heap.size w (w.drew.alloc (.cells (bytesRow s cap) 5 ((bytesRow s cap).size,(bytesRow s cap).size + 1)))):=((Below.refl _ _).drew).alloc (Nat.le_refl _) _
 obtain ⟨w0,hw0⟩ : ∃ w0,w0=w.drew.alloc (.cells (bytesRow s cap) 5 ((bytesRow s cap).size,(bytesRow s cap).size + 1)):=⟨_,rfl⟩
 rw [← hw0] at hconv H0 HB0
 clear hw0
 go_enter Tryz.func70,Tryz.ntmps70
 go_wp2
 go_loopw [10] (fun i wr=>∃ k : Nat,k≤s.size∧i=.int .i64 k∧Hid (BytesAt wr w.heap.size cap (lowK s.data.toList k))∧Hid (Below w.heap.size w wr)) (fun i _=>s.size - (intOf i).toNat)
 case atStart=>exact ⟨0,by omega,rfl,by rw [lowK_zero]; exact H0,HB0⟩
 case round =>
  obtain ⟨k,hk,rfl,HAT,HBW⟩:=hrel
  by_cases hlt : k < s.size
  ·have hkl : k < s.data.toList.length:=by rw [str_len]; exact hlt
   have i0 : (0 : Int)≤(k : Int):=by omega
   have i1 : (k : Int) < (s.size : Int):=by omega
   obtain ⟨c1,c2⟩:=HAT.out.cell (k:=k) (by rw [lowK_len]; exact hkl)
   rw [lowK_at _ _ hkl] at c1
   have HS:=Lib.hid (lowK_succ s.data.toList k hkl)
   have HM:=Lib.hid (lowK_same s.data.toList k hkl)
   have hx:=(s.data.toList.getD k 0).toNat_lt
   generalize s.data.toList.getD k 0=x at c1 HS HM hx
   by_cases h1 : 65≤x.toNat
   ·have j1 : (65 : Int)≤(x.toNat : Int):=by omega
    by_cases h2 : x.toNat≤90
    ·have j2 : (x.toNat : Int)≤90:=by omega
     have HN : Hid (BytesAt (wr.setCell ⟨w.heap.size,k,none⟩ (.int .u8 ((x.toNat : Int) - 65 + 97))) w.heap.size cap (lowK s.data.toList (k + 1))):=by
      have:=HAT.out.set k (low1 x)
      rw [low1_up h1 h2] at this
      rw [HS.out,show (x.toNat : Int) - 65 + 97=(x.toNat : Int) + 32 by omega]; exact this
     have HB2 : Hid (Below w.heap.size w (wr.setCell ⟨w.heap.size,k,none⟩ (.int .u8 ((x.toNat : Int) - 65 + 97)))):=HBW.out.setCell (Nat.le_refl _) _
     clear h1 h2
     go_wp2
     go_roundw
     case rel=>exact ⟨k + 1,by omega,by go_num,HN,HB2⟩
     case measure=>simp [intOf]; omega
    ·have j2 : ¬ (x.toNat : Int)≤90:=by omega
     have HN : Hid (BytesAt wr w.heap.size cap (lowK s.data.toList (k + 1))):=by
      show BytesAt _ _ _ _
      rw [HM.out (low1_no (fun h=>h2 h.2))]; exact HAT.out
     clear h1 h2
     go_wp2
     go_roundw
     case rel=>exact ⟨k + 1,by omega,by go_num,HN,HBW⟩
     case measure=>simp [intOf]; omega
   ·have j1 : ¬ (65 : Int)≤(x.toNat : Int):=by omega
    have HN : Hid (BytesAt wr w.heap.size cap (lowK s.data.toList (k + 1))):=by
     show BytesAt _ _ _ _
     rw [HM.out (low1_no (fun h=>h1 h.1))]; exact HAT.out
    clear h1
    go_wp2
    go_roundw
    case rel=>exact ⟨k + 1,by omega,by go_num,HN,HBW⟩
    case measure=>simp [intOf]; omega
  ·have i1 : ¬ (k : Int) < (s.size : Int):=by omega
   have hk2 : k=s.data.toList.length:=by rw [str_len]; omega
   have hcv:=conv_reads (HAT.out.reads (n:=s.size) (by rw [lowK_len,str_len]))
   rw [hk2,lowK_all] at hcv
   clear hk2
   go_wp2
   go_ret
   exact ⟨rfl,HBW.out⟩
end Go.Proofs.YtghnopkgcgfcpaaGreatDoor.Table
set_option maxHeartbeats 16000000
set_option maxRecDepth 100000
namespace Go.Proofs.YtghnopkgcgfcpaaGreatDoor.Table
open Go.RowKit Base
theorem S_app (a b : ByteArray) : Value.string (a++b)=S (a.data.toList++b.data.toList):=by
 congr 1
def sumL (ls : List (List UInt8)) : Nat:=(ls.map (fun l=>l.length + 1)).sum
theorem joinP_len (s p : List UInt8) : (joinP s p).length≤s.length + 1 + p.length:=by
 unfold joinP
 split <;> simp <;> omega
theorem foldP_len : ∀ (ls : List (List UInt8)) (s : List UInt8),(ls.foldl joinP s).length≤s.length + sumL ls
 | [],s=>by simp [sumL]
 | p :: r,s=>by
  rw [List.foldl_cons]
  have h1:=foldP_len r (joinP s p)
  have h2:=joinP_len s p
  have : sumL (p :: r)=p.length + 1 + sumL r:=by simp [sumL]
  omega
theorem sumL_take : ∀ (ls : List (List UInt8)) (k : Nat),sumL (ls.take k)≤sumL ls
 | [],k=>by simp
 | p :: r,0=>by simp [sumL]
 | p :: r,k + 1=>by
  have:=sumL_take r k
  simp only [sumL,List.take_succ_cons,List.map_cons,List.sum_cons] at *
  omega
theorem fold_take {ls : List (List UInt8)} {s p : List UInt8} {k : Nat} (h : ls[k]?=some p) : (ls.take (k + 1)).foldl joinP s=joinP ((ls.take k).foldl joinP s) p:=by
 have hk:=(List.getElem?_eq_some_iff.1 h).1
 rw [List.take_succ_eq_append_getElem hk,List.foldl_append,(List.getElem?_eq_some_iff.1 h).2]; rfl
theorem rValue (s : ByteArray) (v : Value) (ls : List (List UInt8)) (w : World) (hv : VReads w v (ls.map S)) (hb : s.size + sumL ls≤1000000000) (hn : ls.length≤1000000000) : Calls Tryz.prog 79 #[.string s,v] w fun e w'=>e=.returned (S (valueOf s.data.toList ls))∧w=w':=by
 have HT:=Lib.hid (rTrim s w (by omega))
 obtain ⟨a,c,rfl,hc⟩:=hv.form
 rw [List.length_map] at hc
 have HV:=Lib.hid hv
 have htl:=trim_len s.data.toList
 rw [str_len] at htl
 have HTL:=Lib.hid htl
 obtain ⟨t,ht⟩ : ∃ t,t=trim s.data.toList:=⟨_,rfl⟩
 unfold valueOf
 rw [← ht] at HT HTL ⊢
 clear hv htl ht
 rw [List.length_map]
 go_enter Tryz.func79,Tryz.ntmps79
 go_wp2_with (first | (go_at_call 77; refine HT.out.mono ?_; rintro e w' ⟨rfl,rfl⟩; refine Hid.out ?_) | fail)
 refine Lib.hid ?_
 go_wp2
 go_loop [5,6] (fun o i=>∃ k : Nat,k≤ls.length∧i=.int .i64 k∧o=S ((ls.take k).foldl joinP t)) (fun _ i=>ls.length - (intOf i).toNat)
 case atStart=>exact ⟨0,by omega,rfl,rfl⟩
 case round =>
  obtain ⟨k,hk,rfl,rfl⟩:=hrel
  by_cases hlt : k < ls.length
  ·obtain ⟨p,hp⟩ : ∃ p,ls[k]?=some p:=⟨ls[k],List.getElem?_eq_getElem hlt⟩
   obtain ⟨gb,go_,rfl,c1⟩:=HV.out.cell (i:=k) (x:=S p) (by rw [List.getElem?_map,hp]; rfl)
   have HF:=Lib.hid (fold_take (s:=t) hp)
   have hfl:=foldP_len (ls.take k) t
   have hst:=sumL_take ls k
   have hpl : p.length + 1≤sumL ls:=by
    have h1:=sumL_take ls (k + 1)
    have h2 : sumL (ls.take (k + 1))=sumL (ls.take k) + (p.length + 1):=by
     rw [List.take_succ_eq_append_getElem hlt,(List.getElem?_eq_some_iff.1 hp).2]
     simp [sumL]
    omega
   have htl:=HTL.out
   have i0 : (0 : Int)≤(k : Int):=by omega
   have i1 : (k : Int) < (ls.length : Int):=by omega
   clear hp
   have hq : ((ls.take k).foldl joinP t).length≤1000000000:=by omega
   generalize (ls.take k).foldl joinP t=q at HF hq
   by_cases h0 : q=[]
   ·subst h0
    have HJ : Hid (Value.string ((⟨#[]⟩ : ByteArray)++⟨p.toArray⟩)=S ((ls.take (k + 1)).foldl joinP t)):=by
     show _=_
     rw [HF.out,S_app]; simp [joinP]
    clear HF
    go_wp2
    go_round
    case rel=>exact ⟨k + 1,by omega,by go_num,HJ.out⟩
    case measure=>simp [intOf]; omega
   ·have e1 : q.isEmpty=false:=by simpa using h0
    have HJ : Hid (Value.string ((⟨q.toArray⟩ : ByteArray)++⟨#[32]⟩++⟨p.toArray⟩)=S ((ls.take (k + 1)).foldl joinP t)):=by
     show _=_
     rw [HF.out,S_app]
     simp [joinP,h0]
    clear HF h0
    go_wp2
    go_round
    case rel=>exact ⟨k + 1,by omega,by go_num,HJ.out⟩
    case measure=>simp [intOf]; omega
  ·have i1 : ¬ (k : Int) < (ls.length : Int):=by omega
   have HJ : Hid ((ls.take k).foldl joinP t=ls.foldl joinP t):=by show _=_; rw [List.take_of_length_le (by omega)]
   go_wp2
   go_ret
   exact ⟨by rw [HJ.out]; rfl,rfl⟩
structure Ent where
 pos : Nat
 text : List UInt8
 more : List (List UInt8)
abbrev KV:=List UInt8 × List UInt8
def noBl (c : UInt8) : Bool:=!isBl c
def keyOf (l : List UInt8) : List UInt8:=l.takeWhile noBl
def kvOf (e : Ent) : KV:=(lower (keyOf e.text),valueOf (e.text.dropWhile noBl) e.more)
theorem tw_at {p : UInt8→Bool} : ∀ (l : List UInt8) (k : Nat),k≤l.length→(∀ j,j < k→p (l.getD j 0)=true)→(k < l.length→p (l.getD k 0)=false)→l.takeWhile p=l.take k∧l.dropWhile p=l.drop k
 | [],k,hk,_,_=>by
  obtain rfl : k=0:=by simpa using hk
  exact ⟨rfl,rfl⟩
 | c :: r,0,_,_,h2=>by
  have:=h2 (by simp)
  rw [List.getD_cons_zero] at this
  simp [this]
 | c :: r,k + 1,hk,h1,h2=>by
  have hc:=h1 0 (by omega)
  rw [List.getD_cons_zero] at hc
  obtain ⟨e1,e2⟩:=tw_at r k (by simpa using hk) (fun j hj=>by have:=h1 (j + 1) (by omega); rwa [List.getD_cons_succ] at this) (fun h=>by have:=h2 (by simpa using h); rwa [List.getD_cons_succ] at this)
  simp [hc,e1,e2]
theorem ext_to (t : ByteArray) (k : Nat) : Value.string (t.extract 0 k)=S (t.data.toList.take k):=by
 congr 1
 rw [extract_bytes]; simp
theorem ext_from (t : ByteArray) (k : Nat) : Value.string (t.extract k t.size)=S (t.data.toList.drop k):=by
 congr 1
 rw [extract_bytes,List.take_of_length_le (by rw [str_len]; omega)]
theorem bel_drewN {B : Nat} (n : Nat) (w : World) (_h : B≤w.heap.size) : Below B w (w.drewN n):=⟨rfl,rfl,rfl,Nat.le_refl _,fun _ _=>rfl⟩
def EntryEnd (e : Ent) (w : World) (en : Ending) (w' : World) : Prop:=en=.returned (.agg #[S (kvOf e).1,S (kvOf e).2])∧Below w.heap.size w w'
theorem rEntry (at_ : Int) (s : ByteArray) (pos : Nat) (v : Value) (ls : List (List UInt8)) (w : World) (hv : VReads w v (ls.map S)) (hb : s.size + sumL ls≤1000000000) (hn : ls.length≤1000000000) : Calls Tryz.prog 47 #[.agg #[.int .i64 at_,.string s,v]] w (EntryEnd ⟨pos,s.data.toList,ls⟩ w):=by
 obtain ⟨w0,hw0⟩ : ∃ w0,w0=(w.alloc (.cells #[.int .i64 at_,.string s,v] 111)).alloc (.cells #[.string ⟨#[]⟩,.string ⟨#[]⟩] 66):=⟨_,rfl⟩
 have HB0 : Hid (Below w.heap.size w w0):=by rw [hw0]; exact ((Below.refl _ _).alloc (Nat.le_refl _) _).alloc (by simp) _
 have HV:=Lib.hid (hv.kept (w':=w0) fun b _ hb=>HB0.out.block b hb)
 have h1 : w0.heap[w.heap.size]?=some (.cells #[.int .i64 at_,.string s,v] 111 (0,0)):=by rw [hw0]; exact ((MapKept.heap_alloc _ _).2 _ (by simp)).trans (MapKept.heap_alloc w _).1
 have h2 : w0.heap[w.heap.size + 1]?=some (.cells #[.string ⟨#[]⟩,.string ⟨#[]⟩] 66 (0,0)):=by
  rw [hw0]
  have:=(MapKept.heap_alloc (w.alloc (.cells #[.int .i64 at_,.string s,v] 111)) (.cells #[.string ⟨#[]⟩,.string ⟨#[]⟩] 66)).1
  simpa using this
 have c1:=cell_of_row w0 w.heap.size 1 _ _ _ h1
 have c2:=cell_of_row w0 w.heap.size 2 _ _ _ h1
 have HRB : Hid (∀ (n : Nat) (w1 : World),Below (w0.drewN n).heap.size (w0.drewN n) w1→w1.heap[w.heap.size + 1]?=some (.cells #[.string ⟨#[]⟩,.string ⟨#[]⟩] 66 (0,0))):=fun n w1 hb=>by
  rw [hb.block _ (heap_lt (w:=w0.drewN n) h2)]; exact h2
 have HW:=Lib.hid hw0
 clear hv hw0 h1 h2
 go_enter Tryz.func47,Tryz.ntmps47
 go_wp2
 rw [← HW.out]
 go_loop [3] (fun i=>∃ k : Nat,k≤s.size∧i=.int .i64 k∧Hid (∀ j,j < k→noBl (s.data.toList.getD j 0)=true)) (fun i=>s.size - (intOf i).toNat)
 case atStart=>exact ⟨0,by omega,rfl,fun j hj=>by omega⟩
 case round =>
  obtain ⟨k,hk,rfl,HN⟩:=hrel
  have HEND : (k < s.size→noBl (s.data.toList.getD k 0)=false)→keyOf s.data.toList=s.data.toList.take k∧s.data.toList.dropWhile noBl=s.data.toList.drop k:=fun h=>tw_at _ k (by rw [str_len]; exact hk) HN.out (fun h2=>h (by rw [str_len] at h2; exact h2))
  have i0 : (0 : Int)≤(k : Int):=by omega
  have i2 : (k : Int)≤(s.size : Int):=by omega
  have HX1:=Lib.hid (ext_to s k)
  have HX2:=Lib.hid (ext_from s k)
  have HVL : Hid (∀ n,Calls Tryz.prog 79 #[.string (s.extract k s.size),v] (w0.drewN n) fun e w'=>e=.returned (S (valueOf (s.data.toList.drop k) ls))∧w0.drewN n=w'):=fun n=>by
   have hsz : (s.extract k s.size).size≤s.size:=by simp
   have:=rValue (s.extract k s.size) v ls (w0.drewN n) (HV.out.kept fun _ _ _=>rfl) (by omega) hn
   have e : (s.extract k s.size).data.toList=s.data.toList.drop k:=by rw [extract_bytes,List.take_of_length_le (by rw [str_len]; omega)]
   rw [e] at this
   exact this
  have HLW : Hid (∀ n,Calls Tryz.prog 23 #[.string (s.extract 0 k)] (w0.drewN n) fun e w'=>e=.returned (S (lower (s.data.toList.take k)))∧Below (w0.drewN n).heap.size (w0.drewN n) w'):=fun n=>by
   have hsz : (s.extract 0 k).size≤s.size:=by simp; omega
   have:=rLower (s.extract 0 k) (w0.drewN n) (by omega)
   unfold LowEnd at this
   have e : (s.extract 0 k).data.toList=s.data.toList.take k:=by rw [extract_bytes]; simp
   rw [e] at this
   exact this
  by_cases hlt : k < s.size
  ·have i1 : (k : Int) < (s.size : Int):=by omega
   have HG:=Lib.hid (str_get s k hlt)
   have HB:=Lib.hid (rBlank s[k] w0)
   cases hb : isBl s[k]
   ·rw [hb] at HB
    have HN2 : Hid (∀ j,j < k + 1→noBl (s.data.toList.getD j 0)=true):=fun j hj=>by
     rcases Nat.lt_or_ge j k with h | h
     ·exact HN.out j h
     ·obtain rfl : j=k:=by omega
      rw [HG.out]; unfold noBl; rw [hb]; rfl
    clear HEND hb HVL HLW HX1 HX2
    go_wp2_with (first | (go_at_call 78; refine HB.out.mono ?_; rintro e w' ⟨rfl,rfl⟩; refine Hid.out ?_) | fail)
    refine Lib.hid ?_
    go_wp2
    go_round
    case rel=>exact ⟨k + 1,by omega,by go_num,HN2⟩
    case measure=>simp [intOf]; omega
   ·rw [hb] at HB
    have HE:=Lib.hid (HEND (fun _=>by rw [HG.out]; unfold noBl; rw [hb]; rfl))
    clear HEND hb
    go_wp2_with (first | (go_at_call 78; refine HB.out.mono ?_; rintro e w' ⟨rfl,rfl⟩; refine Hid.out ?_) | fail)
    refine Lib.hid ?_
    go_wp2
    go_quiet ((go_at_call 79; exact Calls.quiet_of_same ((HVL.out _).mono fun _ _ h=>⟨h.1,h.2.symm⟩)))
    go_wp2_with (first | (go_at_call 23; refine (HLW.out _).mono ?_; rintro e w1 ⟨rfl,hb1⟩; refine Hid.out ?_) | fail)
    refine Lib.hid ?_
    have HR:=Lib.hid (HRB.out _ _ hb1)
    obtain ⟨z1,z2,z3,z4⟩:=two_cells HR.out
    have HB1:=Lib.hid hb1
    clear hb1
    go_wp2
    obtain ⟨y1,y2,_,_⟩:=two_cells (set_two HR.out (S (lower (s.data.toList.take k))) (S (valueOf (s.data.toList.drop k) ls)))
    exact bodyPost_ret (v:=.agg #[S (lower (s.data.toList.take k)),S (valueOf (s.data.toList.drop k) ls)]) (by simp [results,Tryz.results47,go_sem,y1,y2]) rfl ⟨by unfold kvOf; rw [HE.out.1,HE.out.2],(((HB0.out.trans (bel_drewN _ _ HB0.out.size)).trans (HB1.out.mono HB0.out.size)).setCell (by show _≤w.heap.size + 1; omega) _).setCell (by show _≤w.heap.size + 1; omega) _⟩
  ·have i1 : ¬ (k : Int) < (s.size : Int):=by omega
   have HE:=Lib.hid (HEND (fun h=>absurd h hlt))
   clear HEND
   go_wp2
   go_quiet ((go_at_call 79; exact Calls.quiet_of_same ((HVL.out _).mono fun _ _ h=>⟨h.1,h.2.symm⟩)))
   go_wp2_with (first | (go_at_call 23; refine (HLW.out _).mono ?_; rintro e w1 ⟨rfl,hb1⟩; refine Hid.out ?_) | fail)
   refine Lib.hid ?_
   have HR:=Lib.hid (HRB.out _ _ hb1)
   obtain ⟨z1,z2,z3,z4⟩:=two_cells HR.out
   have HB1:=Lib.hid hb1
   clear hb1
   go_wp2
   obtain ⟨y1,y2,_,_⟩:=two_cells (set_two HR.out (S (lower (s.data.toList.take k))) (S (valueOf (s.data.toList.drop k) ls)))
   exact bodyPost_ret (v:=.agg #[S (lower (s.data.toList.take k)),S (valueOf (s.data.toList.drop k) ls)]) (by simp [results,Tryz.results47,go_sem,y1,y2]) rfl ⟨by unfold kvOf; rw [HE.out.1,HE.out.2],(((HB0.out.trans (bel_drewN _ _ HB0.out.size)).trans (HB1.out.mono HB0.out.size)).setCell (by show _≤w.heap.size + 1; omega) _).setCell (by show _≤w.heap.size + 1; omega) _⟩
end Go.Proofs.YtghnopkgcgfcpaaGreatDoor.Table
set_option maxHeartbeats 16000000
set_option maxRecDepth 100000
namespace Go.Proofs.YtghnopkgcgfcpaaGreatDoor.Table
open Go.RowKit Base
def enc2 (p : KV) : List Value:=[S p.1,S p.2]
def Rows2 (w : World) (v : Value) (T : List KV) : Prop :=
 (T=[]∧∃ a c,v=.slice a 0 c∧(a=none→c=0))∨∃ b o c,v=.slice (some ⟨b,o,none⟩) T.length c∧T.length≤c∧∀ i p,T[i]?=some p→w.cell? ⟨b,o + i * 2,none⟩=some (S p.1)∧w.cell? ⟨b,o + i * 2 + 1,none⟩=some (S p.2)
theorem Rows2.kept {w w' : World} {v : Value} {T : List KV} (h : Rows2 w v T) (hk : ∀ b,v.ownBlock=some b→b < w.heap.size→w'.heap[b]?=w.heap[b]?) : Rows2 w' v T:=by
 rcases h with h | ⟨b,o,c,rfl,h1,h2⟩
 ·exact Or.inl h
 ·refine Or.inr ⟨b,o,c,rfl,h1,fun i p hp=>?_⟩
  obtain ⟨c1,c2⟩:=h2 i p hp
  have hb:=hk b rfl (cell_lt c1)
  exact ⟨(World.cell?_of_block (a:=⟨b,o + i * 2,none⟩) hb).trans c1,(World.cell?_of_block (a:=⟨b,o + i * 2 + 1,none⟩) hb).trans c2⟩
theorem Rows2.on {w w' : World} {v : Value} {T : List KV} (h : Rows2 w v T) (hb : Below w.heap.size w w') : Rows2 w' v T:=h.kept fun b _ hl=>hb.block b hl
theorem Rows2.form {w : World} {v : Value} {T : List KV} (h : Rows2 w v T) : ∃ a c,v=.slice a T.length c∧T.length≤c:=by
 rcases h with ⟨rfl,a,c,rfl,_⟩ | ⟨b,o,c,rfl,h1,_⟩
 ·exact ⟨a,c,rfl,Nat.zero_le _⟩
 ·exact ⟨_,c,rfl,h1⟩
theorem Rows2.cell {w : World} {a : Option Addr} {n c : Nat} {T : List KV} (h : Rows2 w (.slice a n c) T) {i : Nat} {p : KV} (hp : T[i]?=some p) : ∃ b o,a=some ⟨b,o,none⟩∧w.cell? ⟨b,o + i * 2,none⟩=some (S p.1)∧w.cell? ⟨b,o + i * 2 + 1,none⟩=some (S p.2):=by
 rcases h with ⟨rfl,_⟩ | ⟨b,o,c,he,h1,h2⟩
 ·simp at hp
 ·cases he
  exact ⟨b,o,rfl,h2 i p hp⟩
theorem flat2 : ∀ (T : List KV) (i k : Nat) (p : KV),T[i]?=some p→k < 2→(T.flatMap enc2)[i * 2 + k]?=(enc2 p)[k]?
 | [],i,k,p,h,_=>by simp at h
 | x :: r,0,k,p,h,hk=>by
  simp at h; subst h
  rw [List.flatMap_cons,List.getElem?_append_left (by simp [enc2]; omega)]; simp
 | x :: r,i + 1,k,p,h,hk=>by
  rw [List.flatMap_cons,List.getElem?_append_right (by simp [enc2]; omega)]
  have:=flat2 r i k p h hk
  rw [show (i + 1) * 2 + k - (enc2 x).length=i * 2 + k by simp [enc2]; omega]
  exact this
theorem flat2_len (T : List KV) : (T.flatMap enc2).length=T.length * 2:=by
 induction T with
 | nil=>rfl
 | cons x r ih=>rw [List.flatMap_cons,List.length_append,ih,List.length_cons]; simp [enc2]; omega
theorem Rows2.of_row {w : World} {B : Nat} {e : TypeId} {v : Value} {n : Nat} {T : List KV} (h : w.ownsRow B e 2 v n (T.flatMap enc2)) (hn : n=T.length) : Rows2 w v T:=by
 subst hn
 have h0:=h
 rcases h.2 with ⟨rfl,hn⟩ | ⟨g,cap,cur,rfl,_,hb,h1,_⟩
 ·exact Or.inl ⟨List.eq_nil_of_length_eq_zero (by omega),none,0,rfl,fun _=>rfl⟩
 ·refine Or.inr ⟨g,0,cap,rfl,h1,fun i p hp=>?_⟩
  have hi:=(List.getElem?_eq_some_iff.1 hp).1
  have ce : ∀ k,k < 2→w.cell? ⟨g,i * 2 + k,none⟩=(enc2 p)[k]?:=fun k hk=>by
   rw [World.ownsRow.cellAt h0 (i * 2 + k) (by omega),flat2 T i k p hp hk]
  rw [Nat.zero_add]
  exact ⟨ce 0 (by omega),ce 1 (by omega)⟩
def TabAt (ty : TypeId) (w : World) (b : Nat) (T : List KV) : Prop:=∃ sv,w.heap[b]?=some (.cells #[sv] ty (0,0))∧Rows2 w sv T
theorem TabAt.on {ty : TypeId} {w w' : World} {b : Nat} {T : List KV} (h : TabAt ty w b T) (hb : Below w.heap.size w w') : TabAt ty w' b T:=by
 obtain ⟨sv,h1,h2⟩:=h
 exact ⟨sv,by rw [hb.block b (heap_lt h1)]; exact h1,h2.on hb⟩
theorem TabAt.cell {ty : TypeId} {w : World} {b : Nat} {T : List KV} (h : TabAt ty w b T) : ∃ a c,w.cell? ⟨b,0,none⟩=some (.slice a T.length c)∧T.length≤c∧Rows2 w (.slice a T.length c) T:=by
 obtain ⟨sv,h1,h2⟩:=h
 obtain ⟨a,c,rfl,hc⟩:=h2.form
 exact ⟨a,c,cell_of_row w b 0 _ _ _ h1,hc,h2⟩
def TabNew (ty : TypeId) (w w' : World) (b : Nat) (T : List KV) : Prop:=∃ sv,w'.heap[b]?=some (.cells #[sv] ty (0,0))∧Rows2 w' sv T∧w.heap.size≤b∧∀ (q : Nat) (cs : Array Value) (t : TypeId) (fz : Nat × Nat),w.heap[q]?=some (.cells cs t fz)→t ≠ 132→sv.ownBlock ≠ some q
def Rising (T : List KV) : Prop:=T.Pairwise fun p q=>p.1 < q.1
def under (key : List UInt8) (p : KV) : Bool:=decide (p.1 < key)
def posOf (T : List KV) (key : List UInt8) : Nat:=(T.takeWhile (under key)).length
def hasOf (T : List KV) (key : List UInt8) : Bool:=match T[posOf T key]? with | some p=>p.1 == key | none=>false
def valOf (T : List KV) (key : List UInt8) : List UInt8:=if hasOf T key=true then (T.getD (posOf T key) ([],[])).2 else []
theorem tw_len {α : Type} {p : α→Bool} : ∀ (l : List α) (k : Nat),k≤l.length→(∀ j x,j < k→l[j]?=some x→p x=true)→(∀ x,l[k]?=some x→p x=false)→(l.takeWhile p).length=k
 | [],k,hk,_,_=>by
  obtain rfl : k=0:=by simpa using hk
  rfl
 | c :: r,0,_,_,h2=>by simp [h2 c rfl]
 | c :: r,k + 1,hk,h1,h2=>by
  have:=tw_len r k (by simpa using hk) (fun j x hj hx=>h1 (j + 1) x (by omega) hx) (fun x hx=>h2 x hx)
  simp [h1 0 c (by omega) rfl,this]
theorem bytes_trans {a b c : List UInt8} (h1 : a < b) (h2 : b < c) : a < c:=List.lt_trans h1 h2
structure Sought (T : List KV) (key : List UInt8) (lo hi : Nat) : Prop where
 le : lo≤hi
 top : hi≤T.length
 ahead : ∀ j p,j < lo→T[j]?=some p→p.1 < key
 behind : ∀ j p,hi≤j→T[j]?=some p→¬ p.1 < key
theorem Sought.start (T : List KV) (key : List UInt8) : Sought T key 0 T.length:=⟨Nat.zero_le _,Nat.le_refl _,fun j p hj=>by omega,fun j p hj hp=>by rw [List.getElem?_eq_none (by omega)] at hp; cases hp⟩
theorem rise_lt {T : List KV} (hr : Rising T) {i j : Nat} {p q : KV} (hij : i < j) (hp : T[i]?=some p) (hq : T[j]?=some q) : p.1 < q.1:=by
 have hj:=(List.getElem?_eq_some_iff.1 hq).1
 have:=List.pairwise_iff_getElem.1 hr i j (by omega) hj hij
 rwa [(List.getElem?_eq_some_iff.1 hp).2,(List.getElem?_eq_some_iff.1 hq).2] at this
theorem Sought.up {T : List KV} {key : List UInt8} {lo hi m : Nat} {p : KV} (h : Sought T key lo hi) (hr : Rising T) (hm : m < hi) (hp : T[m]?=some p) (hlt : p.1 < key) : Sought T key (m + 1) hi :=
 ⟨hm,h.top,fun j q hj hq=>by
  rcases Nat.lt_or_ge j m with h1 | h1
  ·exact bytes_trans (rise_lt hr h1 hq hp) hlt
  ·obtain rfl : j=m:=by omega
   rw [hp] at hq; cases hq; exact hlt,h.behind⟩
theorem Sought.down {T : List KV} {key : List UInt8} {lo hi m : Nat} {p : KV} (h : Sought T key lo hi) (hr : Rising T) (h1 : lo≤m) (hm : m < hi) (hp : T[m]?=some p) (hlt : ¬ p.1 < key) : Sought T key lo m :=
 ⟨h1,Nat.le_trans (Nat.le_of_lt hm) h.top,h.ahead,fun j q hj hq hq2=>by
  rcases Nat.lt_or_ge m j with h1 | h1
  ·exact hlt (bytes_trans (rise_lt hr h1 hp hq) hq2)
  ·obtain rfl : j=m:=by omega
   rw [hp] at hq; cases hq; exact hlt hq2⟩
theorem Sought.fin {T : List KV} {key : List UInt8} {lo : Nat} (h : Sought T key lo lo) : posOf T key=lo :=
 tw_len T lo h.top (fun j x hj hx=>decide_eq_true (h.ahead j x hj hx)) (fun x hx=>decide_eq_false (h.behind lo x (Nat.le_refl _) hx))
theorem posOf_le (T : List KV) (key : List UInt8) : posOf T key≤T.length:=(List.takeWhile_sublist _).length_le
def PlaceEnd (T : List KV) (key : List UInt8) (w : World) (e : Ending) (w' : World) : Prop:=e=.returned (.tuple #[.int .i64 (posOf T key : Int),.bool (hasOf T key)])∧∃ n,w'=w.drewN n
theorem str_less (x : List UInt8) (key : ByteArray) : Op.bytesLess x key.toList=decide (x < key.data.toList):=by rw [bytesLess_eq,ByteArray.toList_eq]
theorem rPlace (b : Nat) (T : List KV) (key : ByteArray) (w : World) (h : TabAt 62 w b T) (hr : Rising T) (hn : T.length≤1000000) : Calls Tryz.prog 48 #[.pointer (some ⟨b,0,none⟩),.string key] w (PlaceEnd T key.data.toList w):=by
 obtain ⟨a,c,hc,hlc,hrow⟩:=h.cell
 have HROW:=Lib.hid hrow
 have HR:=Lib.hid hr
 clear h hrow hr
 go_enter Tryz.func48,Tryz.ntmps48
 go_wp2
 go_loop [6,7] (fun x y=>∃ lo hi : Nat,x=.int .i64 lo∧y=.int .i64 hi∧Sought T key.data.toList lo hi) (fun x y=>(intOf y).toNat - (intOf x).toNat)
 case atStart=>exact ⟨0,T.length,rfl,rfl,Sought.start _ _⟩
 case round =>
  obtain ⟨lo,hi,rfl,rfl,hs⟩:=hrel
  have hle:=hs.le
  have htop:=hs.top
  have HS:=Lib.hid hs
  clear hs
  by_cases hlt : lo < hi
  ·have i1 : (lo : Int) < (hi : Int):=by omega
   obtain ⟨m,hm⟩ : ∃ m : Nat,((lo : Int) + (hi : Int)) / 2=(m : Int):=⟨(lo + hi) / 2,by omega⟩
   have hm1 : lo≤m:=by omega
   have hm2 : m < hi:=by omega
   have j0 : (0 : Int)≤(m : Int):=by omega
   have j1 : (m : Int) < (T.length : Int):=by omega
   obtain ⟨p,hp⟩ : ∃ p,T[m]?=some p:=⟨T[m],List.getElem?_eq_getElem (by omega)⟩
   obtain ⟨gb,go_,rfl,c1,c2⟩:=HROW.out.cell hp
   have e1:=str_less p.1 key
   by_cases hk : p.1 < key.data.toList
   ·have HS2:=Lib.hid (HS.out.up HR.out hm2 hp hk)
    rw [decide_eq_true hk] at e1
    clear hk hp
    go_wp2
    go_round
    case rel=>exact ⟨m + 1,hi,by go_num,rfl,HS2.out⟩
    case measure=>simp [intOf]; omega
   ·have HS2:=Lib.hid (HS.out.down HR.out hm1 hm2 hp hk)
    rw [decide_eq_false hk] at e1
    clear hk hp
    go_wp2
    go_round
    case rel=>exact ⟨lo,m,rfl,by rw [hm],HS2.out⟩
    case measure=>simp [intOf]; omega
  ·obtain rfl : lo=hi:=by omega
   have HP:=Lib.hid HS.out.fin
   have j0 : (0 : Int)≤(lo : Int):=by omega
   have i1 : ¬ (lo : Int) < (lo : Int):=by omega
   by_cases hl : lo < T.length
   ·have j1 : (lo : Int) < (T.length : Int):=by omega
    obtain ⟨p,hp⟩ : ∃ p,T[lo]?=some p:=⟨T[lo],List.getElem?_eq_getElem hl⟩
    obtain ⟨gb,go_,rfl,c1,c2⟩:=HROW.out.cell hp
    have HH : Hid (hasOf T key.data.toList=(p.1 == key.data.toList)):=by show _=_; unfold hasOf; rw [HP.out,hp]
    clear hp
    cases hk : p.1 == key.data.toList
    ·have e2 : (p.1 == key.toList)=false:=by rw [ByteArray.toList_eq]; exact hk
     rw [hk] at HH
     clear hk
     go_wp2
     go_quiet (fail)
     go_wp2
     go_ret2
     exact ⟨by rw [HP.out,HH.out]; rfl,_,rfl⟩
    ·have e2 : (p.1 == key.toList)=true:=by rw [ByteArray.toList_eq]; exact hk
     rw [hk] at HH
     clear hk
     go_wp2
     go_quiet (fail)
     go_wp2
     go_ret2
     exact ⟨by rw [HP.out,HH.out]; rfl,_,rfl⟩
   ·have j1 : ¬ (lo : Int) < (T.length : Int):=by omega
    have HH : Hid (hasOf T key.data.toList=false):=by show _=_; unfold hasOf; rw [HP.out,List.getElem?_eq_none (by omega)]
    have j2 : decide ((lo : Int) < (T.length : Int))=false:=decide_eq_false j1
    go_wp2
    go_quiet (fail)
    go_wp2
    go_ret2
    exact ⟨by rw [HP.out,HH.out]; rfl,_,rfl⟩
end Go.Proofs.YtghnopkgcgfcpaaGreatDoor.Table
