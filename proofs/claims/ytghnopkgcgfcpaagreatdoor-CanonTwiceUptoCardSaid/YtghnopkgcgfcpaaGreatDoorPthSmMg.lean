/-
  MERGED by mergefill.py: PthSm, PthAtm, PthGo, PthDots, PthDom.
-/
import Derived.Test.YtghnopkgcgfcpaaGreatDoorStrBaseMg
import Derived.Lib.IndexLaws
import Derived.Test.YtghnopkgcgfcpaaGreatDoorShelfMg
import Derived.Deep.LoopGhost
import Derived.Test.YtghnopkgcgfcpaaGreatDoorBaseMg
import Derived.ScopeJumps
import Derived.Deep.DeepCutAuto
import Derived.Deep.RegionHeld3
set_option maxHeartbeats 16000000
set_option maxRecDepth 100000
namespace Go.Proofs.YtghnopkgcgfcpaaGreatDoor.Path
open Go.RowKit Base
def ldC (c : UInt8) : Bool:=decide ((97≤c.toNat∧c.toNat≤122)∨(65≤c.toNat∧c.toNat≤90)∨(48≤c.toNat∧c.toNat≤57))
def shownC (c : UInt8) : Bool:=decide (32≤c.toNat∧c.toNat≤126)
def nameC (c : UInt8) : Bool:=ldC c || decide (c.toNat=45)
def labelB (s : List UInt8) : Bool:=decide (1≤s.length∧s.length≤63) && (decide (¬ (s.getD 0 0).toNat=45) && decide (¬ (s.getD (s.length - 1) 0).toNat=45))
theorem pLD (c : UInt8) (w : World) : Calls Tryz.prog 138 #[.int .u8 (c.toNat : Int)] w (AskEnd (ldC c) w):=by
 obtain ⟨out,hout⟩ : ∃ out,out=ldC c:=⟨_,rfl⟩
 have HO : Hid (out=decide ((97≤c.toNat∧c.toNat≤122)∨(65≤c.toNat∧c.toNat≤90)∨(48≤c.toNat∧c.toNat≤57))):=hout
 rw [← hout]
 have hb:=c.toNat_lt
 generalize c.toNat=x at HO hb
 clear hout
 have fin : ∀ b,Hid (out=b)→AskEnd out w (.returned (.bool b)) w:=fun b h=>⟨ret_bool h.out.symm,rfl⟩
 by_cases h1 : 97≤x
 ·have e1 : (97 : Int)≤(x : Int):=by omega
  by_cases h2 : x≤122
  ·have e2 : (x : Int)≤122:=by omega
   have HT : Hid (out=true):=by show _=_; rw [HO.out]; exact decide_eq_true (by omega)
   clear h1 h2
   go_enter Tryz.func138,Tryz.ntmps138
   go_wp2
   go_ret
   exact fin _ HT
  ·have e2 : ¬ (x : Int)≤122:=by omega
   have e3 : (65 : Int)≤(x : Int):=by omega
   have e4 : ¬ (x : Int)≤90:=by omega
   have e5 : (48 : Int)≤(x : Int):=by omega
   have e6 : ¬ (x : Int)≤57:=by omega
   have HT : Hid (out=false):=by show _=_; rw [HO.out]; exact decide_eq_false (by omega)
   clear h1 h2
   go_enter Tryz.func138,Tryz.ntmps138
   go_wp2
   go_ret
   exact fin _ HT
 ·have e1 : ¬ (97 : Int)≤(x : Int):=by omega
  by_cases h3 : 65≤x
  ·have e3 : (65 : Int)≤(x : Int):=by omega
   by_cases h4 : x≤90
   ·have e4 : (x : Int)≤90:=by omega
    have HT : Hid (out=true):=by show _=_; rw [HO.out]; exact decide_eq_true (by omega)
    clear h1 h3 h4
    go_enter Tryz.func138,Tryz.ntmps138
    go_wp2
    go_ret
    exact fin _ HT
   ·have e4 : ¬ (x : Int)≤90:=by omega
    have e5 : (48 : Int)≤(x : Int):=by omega
    have e6 : ¬ (x : Int)≤57:=by omega
    have HT : Hid (out=false):=by show _=_; rw [HO.out]; exact decide_eq_false (by omega)
    clear h1 h3 h4
    go_enter Tryz.func138,Tryz.ntmps138
    go_wp2
    go_ret
    exact fin _ HT
  ·have e3 : ¬ (65 : Int)≤(x : Int):=by omega
   by_cases h5 : 48≤x
   ·have e5 : (48 : Int)≤(x : Int):=by omega
    by_cases h6 : x≤57
    ·have e6 : (x : Int)≤57:=by omega
     have HT : Hid (out=true):=by show _=_; rw [HO.out]; exact decide_eq_true (by omega)
     clear h1 h3 h5 h6
     go_enter Tryz.func138,Tryz.ntmps138
     go_wp2
     go_ret
     exact fin _ HT
    ·have e6 : ¬ (x : Int)≤57:=by omega
     have HT : Hid (out=false):=by show _=_; rw [HO.out]; exact decide_eq_false (by omega)
     clear h1 h3 h5 h6
     go_enter Tryz.func138,Tryz.ntmps138
     go_wp2
     go_ret
     exact fin _ HT
   ·have e5 : ¬ (48 : Int)≤(x : Int):=by omega
    have HT : Hid (out=false):=by show _=_; rw [HO.out]; exact decide_eq_false (by omega)
    clear h1 h3 h5
    go_enter Tryz.func138,Tryz.ntmps138
    go_wp2
    go_ret
    exact fin _ HT
theorem pName (c : UInt8) (w : World) : Calls Tryz.prog 101 #[.int .u8 (c.toNat : Int)] w (AskEnd (nameC c) w):=by
 have HL:=Lib.hid (fun w1=>pLD c w1)
 have HO : Hid (nameC c=(ldC c || decide (c.toNat=45))):=rfl
 have hb:=c.toNat_lt
 generalize nameC c=out at HO
 generalize ldC c=a at HL HO
 cases a with
 | true =>
  have HT : Hid (out=true):=HO.out
  go_enter Tryz.func101,Tryz.ntmps101
  go_wp2_with (first | (go_at_call 138; refine (HL.out _).mono ?_; rintro ee w1 ⟨rfl,rfl⟩; refine Hid.out ?_) | fail)
  refine Lib.hid ?_
  go_wp2
  go_ret
  exact ⟨ret_bool HT.out.symm,rfl⟩
 | false =>
  by_cases h : c.toNat=45
  ·have HT : Hid (out=true):=by show _=_; rw [HO.out,decide_eq_true h]; rfl
   have e : ((c.toNat : Int) == 45)=true:=by rw [beq_iff_eq]; omega
   clear h
   go_enter Tryz.func101,Tryz.ntmps101
   go_wp2_with (first | (go_at_call 138; refine (HL.out _).mono ?_; rintro ee w1 ⟨rfl,rfl⟩; refine Hid.out ?_) | fail)
   refine Lib.hid ?_
   go_wp2
   go_ret
   exact ⟨ret_bool HT.out.symm,rfl⟩
  ·have HT : Hid (out=false):=by show _=_; rw [HO.out,decide_eq_false h]; rfl
   have e : ((c.toNat : Int) == 45)=false:=by rw [beq_eq_false_iff_ne]; omega
   clear h
   go_enter Tryz.func101,Tryz.ntmps101
   go_wp2_with (first | (go_at_call 138; refine (HL.out _).mono ?_; rintro ee w1 ⟨rfl,rfl⟩; refine Hid.out ?_) | fail)
   refine Lib.hid ?_
   go_wp2
   go_ret
   exact ⟨ret_bool HT.out.symm,rfl⟩
theorem pShown (c : UInt8) (w : World) : Calls Tryz.prog 197 #[.int .u8 (c.toNat : Int)] w (AskEnd (shownC c) w):=by
 have HO : Hid (shownC c=decide (32≤c.toNat∧c.toNat≤126)):=rfl
 have hb:=c.toNat_lt
 generalize shownC c=out at HO
 generalize c.toNat=x at HO hb
 by_cases h1 : 32≤x
 ·have e1 : (32 : Int)≤(x : Int):=by omega
  by_cases h2 : x≤126
  ·have e2 : (x : Int)≤126:=by omega
   have HT : Hid (out=true):=by show _=_; rw [HO.out]; exact decide_eq_true (by omega)
   clear h1 h2
   go_enter Tryz.func197,Tryz.ntmps197
   go_wp2
   go_ret
   exact ⟨ret_bool HT.out.symm,rfl⟩
  ·have e2 : ¬ (x : Int)≤126:=by omega
   have HT : Hid (out=false):=by show _=_; rw [HO.out]; exact decide_eq_false (by omega)
   clear h1 h2
   go_enter Tryz.func197,Tryz.ntmps197
   go_wp2
   go_ret
   exact ⟨ret_bool HT.out.symm,rfl⟩
 ·have e1 : ¬ (32 : Int)≤(x : Int):=by omega
  have HT : Hid (out=false):=by show _=_; rw [HO.out]; exact decide_eq_false (by omega)
  clear h1
  go_enter Tryz.func197,Tryz.ntmps197
  go_wp2
  go_ret
  exact ⟨ret_bool HT.out.symm,rfl⟩
def RdAt (w : World) (g : Nat) (s : ByteArray) (k : Nat) : Prop:=w.heap[g]?=some (.cells #[.string s,.int .i64 (k : Int)] 80 (0,0))
theorem RdAt.cells {w : World} {g k : Nat} {s : ByteArray} (h : RdAt w g s k) : w.cell? ⟨g,0,none⟩=some (.string s)∧w.cell? ⟨g,1,none⟩=some (.int .i64 (k : Int))∧w.frozen? ⟨g,1,none⟩=false:=by
 obtain ⟨h1,h2,_,h4⟩:=two_cells h
 exact ⟨h1,h2,h4⟩
theorem RdAt.on {w w' : World} {g k : Nat} {s : ByteArray} (h : RdAt w g s k) (hb : Below w.heap.size w w') : RdAt w' g s k:=by
 unfold RdAt; rw [hb.block g (heap_lt h)]; exact h
theorem RdAt.drewN {w : World} {g k : Nat} {s : ByteArray} (h : RdAt w g s k) (n : Nat) : RdAt (w.drewN n) g s k:=h
theorem RdAt.set {w : World} {g k : Nat} {s : ByteArray} (h : RdAt w g s k) (j : Nat) : RdAt (w.setCell ⟨g,1,none⟩ (.int .i64 (j : Int))) g s j:=by
 unfold RdAt; rw [heap_setCell_any w g 1 _ _ _ _ h]; rfl
def hasB (s : ByteArray) (k : Nat) (c : UInt8) : Bool:=decide (k < s.size) && decide ((s.data.toList.getD k 0).toNat=c.toNat)
theorem pHas (g k : Nat) (s : ByteArray) (c : UInt8) (w : World) (h : RdAt w g s k) (hk : k≤s.size) (hs : s.size≤9000000000000000000) :
  Calls Tryz.prog 63 #[.pointer (some ⟨g,0,none⟩),.int .u8 (c.toNat : Int)] w fun e w'=>e=.returned (.bool (hasB s k c))∧RdAt w' g s (if hasB s k c=true then k + 1 else k)∧KeepX g w w':=by
 have HR:=Lib.hid h
 obtain ⟨x0,x1,x2⟩:=h.cells
 have HB : Hid (hasB s k c=(decide (k < s.size) && decide ((s.data.toList.getD k 0).toNat=c.toNat))):=rfl
 have hcb:=c.toNat_lt
 have i0 : (0 : Int)≤(k : Int):=by omega
 have HF : Hid (∀ n u,RdAt ((w.drewN n).setCell ⟨g,1,none⟩ u) g s (k + 1)→KeepX g w ((w.drewN n).setCell ⟨g,1,none⟩ u)):=fun n u _=>(KeepX.drewN n).trans (KeepX.set g _ 1 u)
 clear h
 by_cases he : k=s.size
 ·have q1 : ((k : Int) == (s.size : Int))=true:=by rw [beq_iff_eq]; omega
  have HT : Hid (hasB s k c=false):=by show _=_; rw [HB.out,decide_eq_false (by omega)]; rfl
  rw [HT.out]
  clear he
  go_enter Tryz.func63,Tryz.ntmps63
  go_wp2
  go_quiet (fail)
  go_wp2
  go_ret
  exact ⟨rfl,HR.out.drewN _,KeepX.drewN _⟩
 ·have q1 : ((k : Int) == (s.size : Int))=false:=by rw [beq_eq_false_iff_ne]; omega
  have hlt : k < s.size:=by omega
  have i1 : (k : Int) < (s.size : Int):=by omega
  have HG : Hid ((s.data.toList.getD k 0)=s[k]):=str_get s k hlt
  have hxb:=s[k].toNat_lt
  by_cases hc : s[k].toNat=c.toNat
  ·have q2 : ((s[k].toNat : Int) != (c.toNat : Int))=false:=by rw [bne_eq_false_iff_eq]; omega
   have HT : Hid (hasB s k c=true):=by show _=_; rw [HB.out,decide_eq_true hlt,HG.out,decide_eq_true hc]; rfl
   rw [HT.out,if_pos rfl]
   obtain ⟨x,hx⟩ : ∃ x,x=s[k].toNat:=⟨_,rfl⟩
   clear he hc
   go_enter Tryz.func63,Tryz.ntmps63
   go_wp2
   go_quiet (fail)
   go_wp2
   go_ret
   exact ⟨rfl,(HR.out.drewN _).set (k + 1),(KeepX.drewN _).trans (KeepX.set g _ 1 _)⟩
  ·have q2 : ((s[k].toNat : Int) != (c.toNat : Int))=true:=by rw [bne_iff_ne]; omega
   have HT : Hid (hasB s k c=false):=by show _=_; rw [HB.out,HG.out,decide_eq_false hc]; simp
   rw [HT.out]
   clear he hc
   go_enter Tryz.func63,Tryz.ntmps63
   go_wp2
   go_quiet (fail)
   go_wp2
   go_ret
   exact ⟨rfl,HR.out.drewN _,KeepX.drewN _⟩
end Go.Proofs.YtghnopkgcgfcpaaGreatDoor.Path
set_option maxHeartbeats 16000000
set_option maxRecDepth 100000
namespace Go.Proofs.YtghnopkgcgfcpaaGreatDoor.Path
open Go.RowKit Base
theorem intne (a b : Nat) : ((a : Int) != (b : Int))=decide (¬ a=b):=by
 by_cases h : a=b
 ·subst h; simp
 ·rw [decide_eq_true h,bne_iff_ne]; omega
def marksB : List UInt8:=[33,35,36,37,38,39,42,43,45,47,61,63,94,95,96,123,124,125,126]
def atomC (c : UInt8) : Bool:=ldC c || decide (0≤Lib.indexByte marksB c)
theorem pAtom (c : UInt8) (w : World) : Calls Tryz.prog 167 #[.int .u8 (c.toNat : Int)] w (AskEnd (atomC c) w):=by
 have HL:=Lib.hid (fun w1=>pLD c w1)
 have HO : Hid (atomC c=(ldC c || decide (0≤Lib.indexByte marksB c))):=rfl
 have HX : Hid (∀ w1,Calls Tryz.prog 149 #[.string ⟨marksB.toArray⟩,.int .u8 (c.toNat : Int)] w1 fun e w'=>e=.returned (.int .i64 (Lib.indexByte marksB c))∧w'=w1):=fun w1=>by
  have:=Tryz.strings_IndexByte ⟨marksB.toArray⟩ (c.toNat : Int) w1
  rwa [show (c.toNat : Int).toNat.toUInt8=c from by rw [Int.toNat_natCast]; exact UInt8.ofNat_toNat] at this
 have hb:=c.toNat_lt
 generalize atomC c=out at HO
 generalize ldC c=a at HL HO
 generalize Lib.indexByte marksB c=ix at HX HO
 cases a with
 | true =>
  have HT : Hid (out=true):=HO.out
  go_enter Tryz.func167,Tryz.ntmps167
  go_wp2_with (first | (go_at_call 138; refine (HL.out _).mono ?_; rintro ee w1 ⟨rfl,rfl⟩; refine Hid.out ?_) | fail)
  refine Lib.hid ?_
  go_wp2
  go_ret
  exact ⟨ret_bool HT.out.symm,rfl⟩
 | false =>
  by_cases h : 0≤ix
  ·have HT : Hid (out=true):=by show _=_; rw [HO.out,decide_eq_true h]; rfl
   clear HO
   go_enter Tryz.func167,Tryz.ntmps167
   go_wp2_with (first | (go_at_call 138; refine (HL.out _).mono ?_; rintro ee w1 ⟨rfl,rfl⟩; refine Hid.out ?_) | fail)
   refine Lib.hid ?_
   go_wp2_with (first | (go_at_call 149; refine (HX.out _).mono ?_; rintro ee w1 ⟨rfl,rfl⟩; refine Hid.out ?_) | fail)
   refine Lib.hid ?_
   go_wp2
   go_ret
   exact ⟨ret_bool HT.out.symm,rfl⟩
  ·have HT : Hid (out=false):=by show _=_; rw [HO.out,decide_eq_false h]; rfl
   clear HO
   go_enter Tryz.func167,Tryz.ntmps167
   go_wp2_with (first | (go_at_call 138; refine (HL.out _).mono ?_; rintro ee w1 ⟨rfl,rfl⟩; refine Hid.out ?_) | fail)
   refine Lib.hid ?_
   go_wp2_with (first | (go_at_call 149; refine (HX.out _).mono ?_; rintro ee w1 ⟨rfl,rfl⟩; refine Hid.out ?_) | fail)
   refine Lib.hid ?_
   go_wp2
   go_ret
   exact ⟨ret_bool ((decide_eq_false (by omega)).trans HT.out.symm),rfl⟩
theorem pLabel (s : ByteArray) (w : World) (hs : s.size≤9000000000000000000) : Calls Tryz.prog 100 #[.string s] w (AskEnd (labelB s.data.toList) w):=by
 have HO : Hid (labelB s.data.toList=(decide (1≤s.size∧s.size≤63) && (decide (¬ (s.data.toList.getD 0 0).toNat=45) && decide (¬ (s.data.toList.getD (s.size - 1) 0).toNat=45)))):=by
  show _=_; unfold labelB; rw [str_len]
 generalize labelB s.data.toList=out at HO
 by_cases h0 : s.size=0
 ·have HT : Hid (out=false):=by show _=_; rw [HO.out,decide_eq_false (by omega)]; rfl
  obtain rfl:=str_empty h0
  go_enter Tryz.func100,Tryz.ntmps100
  go_wp2
  go_ret
  exact ⟨ret_bool HT.out.symm,rfl⟩
 ·obtain ⟨hn1,hn2⟩:=str_ne h0
  have i0 : (0 : Int) < (s.size : Int):=by omega
  have HG0 : Hid ((s.data.toList.getD 0 0)=s[0]'(by omega)):=str_get s 0 (by omega)
  have HG1 : Hid ((s.data.toList.getD (s.size - 1) 0)=s[s.size - 1]'(by omega)):=str_get s (s.size - 1) (by omega)
  go_enter Tryz.func100,Tryz.ntmps100
  go_wp2
  ·go_ret
   refine ⟨ret_bool ?_,rfl⟩
   rw [HO.out,HG0.out,HG1.out]
   have e : (s[0]'(by omega)).toNat=45:=by omega
   rw [e]; simp
  ·go_ret
   refine ⟨ret_bool ?_,rfl⟩
   rw [HO.out,HG0.out,HG1.out,decide_eq_true (show 1≤s.size∧s.size≤63 by omega),Bool.true_and]
   rw [← intne,← intne]; rfl
  ·go_ret
   refine ⟨ret_bool ?_,rfl⟩
   rw [HO.out,decide_eq_false (by omega)]; rfl
def rowN (q : UInt8→Bool) (s : ByteArray) (k : Nat) : Nat:=((s.data.toList.drop k).takeWhile q).length
theorem row_end (q : UInt8→Bool) (s : ByteArray) (k : Nat) (h : s.size≤k) : rowN q s k=0:=by
 unfold rowN
 rw [List.drop_eq_nil_of_le (by rw [str_len]; exact h)]; rfl
theorem row_step (q : UInt8→Bool) (s : ByteArray) (k : Nat) (h : k < s.size) : rowN q s k=if q s[k] then rowN q s (k + 1) + 1 else 0:=by
 unfold rowN
 have hl : k < s.data.toList.length:=by rw [str_len]; exact h
 rw [List.drop_eq_getElem_cons hl]
 have e : s.data.toList[k]=s[k]:=Array.getElem_toList _
 rw [e,List.takeWhile_cons]
 split <;> simp
theorem row_le (q : UInt8→Bool) (s : ByteArray) (k : Nat) (h : k≤s.size) : k + rowN q s k≤s.size:=by
 have:=(List.takeWhile_sublist (p:=q) (l:=s.data.toList.drop k)).length_le
 rw [List.length_drop,str_len] at this
 unfold rowN; omega
theorem pRow (F : Nat) (q : UInt8→Bool) (hE : ∀ args w,(callFunc F args).run Tryz.prog w=.ok (.enter F args) w) (hp : ∀ (c : UInt8) w,Calls Tryz.prog F #[.int .u8 (c.toNat : Int)] w (AskEnd (q c) w)) (g k : Nat) (s : ByteArray) (w : World) (h : RdAt w g s k) (hk : k≤s.size) (hs : s.size≤9000000000000000000) :
  Calls Tryz.prog 95 #[.pointer (some ⟨g,0,none⟩),.func (.func F) #[] #[]] w fun e w'=>e=.returned (.string (s.extract k (k + rowN q s k)))∧RdAt w' g s (k + rowN q s k)∧KeepX g w w':=by
 have HR:=Lib.hid h
 obtain ⟨x0,x1,x2⟩:=h.cells
 go_enter Tryz.func95,Tryz.ntmps95
 go_wp2
 go_loopg [] (s.size - k) (fun n wx=>∃ i,RdAt wx g s i∧KeepX g w wx∧rowN q s k + k=rowN q s i + i∧i + n=s.size∧k≤i)
 case atStart=>exact ⟨k,HR.out,KeepX.refl _ _,rfl,by omega,Nat.le_refl _⟩
 case round =>
  obtain ⟨i,hr,hkx,hrow,hin,hki⟩:=hrel
  have HR2:=Lib.hid hr
  have HK:=Lib.hid hkx
  have HRow:=Lib.hid hrow
  have HP:=Lib.hid hp
  obtain ⟨y0,y1,y2⟩:=hr.cells
  clear hrow hr hkx hp
  have k0 : (0 : Int)≤(k : Int):=by omega
  have k1 : (k : Int)≤(i : Int):=by omega
  have k2 : (i : Int)≤(s.size : Int):=by omega
  have k3 : k≤i:=hki
  have k4 : i≤s.size:=by omega
  have HE : Hid (∀ n,rowN q s i=0→Ending.returned (.string (s.extract k i))=Ending.returned (.string (s.extract k (k + rowN q s k)))∧RdAt (wr.drewN n) g s (k + rowN q s k)∧KeepX g w (wr.drewN n)):=fun n h0=>by
   have : k + rowN q s k=i:=by have:=HRow.out; omega
   rw [this]
   exact ⟨rfl,HR2.out.drewN n,HK.out.trans (KeepX.drewN n)⟩
  cases gk with
  | zero =>
   have q1 : decide (i < s.size)=false:=decide_eq_false (by omega)
   have q2 : decide ((i : Int) < (s.size : Int))=false:=decide_eq_false (by omega)
   have H0 : Hid (rowN q s i=0):=row_end q s i (by omega)
   go_wp2
   go_quiet (fail)
   go_wp2
   go_quiet (fail)
   go_wp2
   go_ret
   try rw [World.drewN_drewN]
   exact HE.out _ H0.out
  | succ m =>
   have hlt : i < s.size:=by omega
   have q1 : decide (i < s.size)=true:=decide_eq_true (by omega)
   have q2 : decide ((i : Int) < (s.size : Int))=true:=decide_eq_true (by omega)
   have i0 : (0 : Int)≤(i : Int):=by omega
   have HQ:=Lib.hid (fun w1=>HP.out s[i] w1)
   have HC : Hid (rowN q s i=if q s[i] then rowN q s (i + 1) + 1 else 0):=row_step q s i hlt
   generalize q s[i]=qv at HQ HC
   cases qv with
   | true =>
    go_wp2
    go_quiet ((go_at_fn F; exact Calls.quiet_of_same ((HQ.out _).mono fun _ _ h=>⟨h.1,h.2.symm⟩)))
    go_wp2
    go_roundg m
    case measure=>omega
    case rel =>
     have e:=HC.out
     simp only [if_true] at e
     exact ⟨i + 1,(HR2.out.drewN _).set (i + 1),HK.out.trans ((KeepX.drewN _).trans (KeepX.set g _ 1 _)),by rw [HRow.out,e]; omega,by omega,by omega⟩
   | false =>
    have H0 : Hid (rowN q s i=0):=by have e:=HC.out; simp only [Bool.false_eq_true,if_false] at e; exact e
    go_wp2
    go_quiet ((go_at_fn F; exact Calls.quiet_of_same ((HQ.out _).mono fun _ _ h=>⟨h.1,h.2.symm⟩)))
    go_wp2
    go_quiet (fail)
    go_wp2
    go_ret
    try rw [World.drewN_drewN]
    exact HE.out _ H0.out
end Go.Proofs.YtghnopkgcgfcpaaGreatDoor.Path
namespace Go.Proofs.YtghnopkgcgfcpaaGreatDoor.Base
open Go.RowKit
def Exit.jumpF (P : Program) (F : Nat→Option Code) (l : Nat) (J : Act→World→Prop) (Q : Exit→Act→World→Prop) : Exit→Act→World→Prop
 | .goto x,a,w=>(x=l∧J a w)∨∃ rest,F x=some rest∧rest.wp P (Exit.noGoto Q) a w
 | e,a,w=>Q e a w
section
variable {P : Program} {a : Act} {w : World} {Q : Exit→Act→World→Prop}
theorem wp_scope_both {c rl : Code} (l : Nat) (J : Act→World→Prop) (μ : Act→World→Nat) (hl : findLabel c l=some rl)
  (first : ∀ F,F=findLabel c→c.wp P (Exit.jumpF P F l J Q) a w)
  (pass : ∀ F,F=findLabel c→∀ a w,J a w→rl.wp P (Exit.jumpF P F l (fun a' w'=>J a' w'∧μ a' w' < μ a w) Q) a w) : (Code.scope c).wp P Q a w:=by
 have first:=first _ rfl
 have pass:=pass _ rfl
 intro b k cs
 have hg : gotoIn l (.inScope c :: k)=some (.code rl :: .inScope c :: k):=by simp [gotoIn,hl]
 have other : ∀ {x rest a₁ w₁},findLabel c x=some rest→rest.wp P (Exit.noGoto Q) a₁ w₁→∃ e a' w',Q e a' w'∧Arrives P (lone (b.at a₁ (.code rest :: .inScope c :: k)) cs w₁) b k cs e a' w':=by
  intro x rest a₁ w₁ hf hr
  obtain ⟨e₂,a₂,w₂,hq₂,harr₂⟩:=hr b (.inScope c :: k) cs
  cases e₂ with
  | normal=>exact ⟨.normal,a₂,w₂,hq₂,Steps.trans harr₂ (.one step_inScope)⟩
  | exit id=>exact ⟨.exit id,a₂,w₂,hq₂,fun k' hk=>harr₂ k' (by simp [exitTo,hk])⟩
  | goto l=>exact hq₂.elim
  | ret=>exact ⟨_,a₂,w₂,hq₂,harr₂⟩
  | panic ch=>exact ⟨_,a₂,w₂,hq₂,harr₂⟩
  | outgrown=>exact ⟨_,a₂,w₂,hq₂,harr₂⟩
 have key : ∀ n a w,μ a w=n→J a w→∃ e a' w',Q e a' w'∧Arrives P (lone (b.at a (.code rl :: .inScope c :: k)) cs w) b k cs e a' w':=by
  intro n
  induction n using Nat.strongRecOn with
  | _ n ih =>
   intro a w hn hJ
   obtain ⟨e,a₁,w₁,hq,harr⟩:=pass a w hJ b (.inScope c :: k) cs
   cases e with
   | normal=>exact ⟨.normal,a₁,w₁,hq,Steps.trans harr (.one step_inScope)⟩
   | exit id=>exact ⟨.exit id,a₁,w₁,hq,fun k' hk=>harr k' (by simp [exitTo,hk])⟩
   | goto l' =>
    rcases hq with ⟨rfl,hJ',hlt⟩ | ⟨rest,hf,hr⟩
    ·obtain ⟨e₂,a₂,w₂,hq₂,harr₂⟩:=ih _ (by omega) a₁ w₁ rfl hJ'
     exact ⟨e₂,a₂,w₂,hq₂,.of_steps (harr _ hg) harr₂⟩
    ·obtain ⟨e₂,a₂,w₂,hq₂,harr₂⟩:=other hf hr
     exact ⟨e₂,a₂,w₂,hq₂,.of_steps (harr _ (by simp [gotoIn,hf])) harr₂⟩
   | ret=>exact ⟨_,a₁,w₁,hq,harr⟩
   | panic ch=>exact ⟨_,a₁,w₁,hq,harr⟩
   | outgrown=>exact ⟨_,a₁,w₁,hq,harr⟩
 obtain ⟨e,a₁,w₁,hq,harr⟩:=first b (.inScope c :: k) cs
 cases e with
 | normal=>exact ⟨.normal,a₁,w₁,hq,.head step_scope (Steps.trans harr (.one step_inScope))⟩
 | exit id=>exact ⟨.exit id,a₁,w₁,hq,fun k' hk=>.head step_scope (harr k' (by simp [exitTo,hk]))⟩
 | goto l' =>
  rcases hq with ⟨rfl,hJ'⟩ | ⟨rest,hf,hr⟩
  ·obtain ⟨e₂,a₂,w₂,hq₂,harr₂⟩:=key _ a₁ w₁ rfl hJ'
   exact ⟨e₂,a₂,w₂,hq₂,.of_steps (.head step_scope (harr _ hg)) harr₂⟩
  ·obtain ⟨e₂,a₂,w₂,hq₂,harr₂⟩:=other hf hr
   exact ⟨e₂,a₂,w₂,hq₂,.of_steps (.head step_scope (harr _ (by simp [gotoIn,hf]))) harr₂⟩
 | ret=>exact ⟨_,a₁,w₁,hq,.of_steps (.one step_scope) harr⟩
 | panic ch=>exact ⟨_,a₁,w₁,hq,.of_steps (.one step_scope) harr⟩
 | outgrown=>exact ⟨_,a₁,w₁,hq,.of_steps (.one step_scope) harr⟩
theorem wp_scope_loop {c rl : Code} (l : Nat) (J : Act→World→Prop) (μ : Act→World→Nat) (hl : findLabel c l=some (Code.seq .skip rl))
  (first : ∀ Qx : Exit→Act→World→Prop,(∀ a w,J a w→rl.wp P Qx a w)→c.wp P Qx a w)
  (pass : ∀ F J',F=findLabel c→∀ a w,J a w→(∀ a' w',J a' w'→μ a' w' < μ a w→J' a' w')→rl.wp P (Exit.jumpF P F l J' Q) a w) : (Code.scope c).wp P Q a w :=
 wp_scope_both l J (fun a w=>μ a w) hl
  (fun F hF=>by
   have hp:=fun J'=>pass F J' hF
   refine first _ fun a w hJ=>?_
   exact hp J a w hJ (fun _ _ h _=>h))
  (fun F hF a w hJ=>wp_seq (wp_skip (pass F _ hF a w hJ (fun _ _ h1 h2=>⟨h1,h2⟩))))
theorem Exit.jumpF_ret {F : Nat→Option Code} {l : Nat} {J : Act→World→Prop} : Exit.jumpF P F l J Q .ret a w=Q .ret a w:=rfl
end
end Go.Proofs.YtghnopkgcgfcpaaGreatDoor.Base
set_option maxHeartbeats 16000000
set_option maxRecDepth 100000
namespace Go.Proofs.YtghnopkgcgfcpaaGreatDoor.Path
open Go.RowKit Base
theorem hasB_lt {s : ByteArray} {k : Nat} {c : UInt8} (h : hasB s k c=true) : k < s.size:=by
 unfold hasB at h
 simp at h
 exact h.1
def dots (q : UInt8→Bool) (ok : List UInt8→Bool) (s : ByteArray) (k : Nat) : Bool × Nat :=
 if ok (s.extract k (k + rowN q s k)).data.toList then
  if h : hasB s (k + rowN q s k) 46=true then dots q ok s (k + rowN q s k + 1) else (true,k + rowN q s k)
 else (false,k + rowN q s k)
termination_by s.size - k
decreasing_by have:=hasB_lt h; omega
def someB (l : List UInt8) : Bool:=!l.isEmpty
def strOf (s : ByteArray) (k : Nat) (r : Bool × Nat) : ByteArray:=if r.1 then s.extract k r.2 else ⟨#[]⟩
theorem dots_eq (q : UInt8→Bool) (ok : List UInt8→Bool) (s : ByteArray) (k : Nat) : dots q ok s k =
  if ok (s.extract k (k + rowN q s k)).data.toList then (if hasB s (k + rowN q s k) 46=true then dots q ok s (k + rowN q s k + 1) else (true,k + rowN q s k)) else (false,k + rowN q s k):=by
 rw [dots]
 split
 ·split <;> rfl
 ·rfl
theorem enters_atom : ∀ args w,(callFunc 167 args).run Tryz.prog w=.ok (.enter 167 args) w:=fun args w=>by
 go_simp
theorem enters_name : ∀ args w,(callFunc 101 args).run Tryz.prog w=.ok (.enter 101 args) w:=fun args w=>by
 go_simp
def atOf (g : Nat) (w : World) : Nat:=match w.cell? ⟨g,1,none⟩ with | some (.int _ n)=>n.toNat | _=>0
theorem atOf_eq {w : World} {g k : Nat} {s : ByteArray} (h : RdAt w g s k) : atOf g w=k:=by
 unfold atOf; rw [h.cells.2.1]; exact Int.toNat_natCast k
theorem RdAt.lt {w : World} {g k : Nat} {s : ByteArray} (h : RdAt w g s k) : g < w.heap.size:=heap_lt h
def RdS (W : World) (g : Nat) (s : ByteArray) (k : Nat) (w' : World) : Prop:=Below W.heap.size W w'∧w'.cell? ⟨g,0,none⟩=some (.string s)∧w'.cell? ⟨g,1,none⟩=some (.int .i64 (k : Int))
theorem rds_start {W : World} {g k : Nat} {s : ByteArray} (h : RdAt W g s k) : RdS W g s k W.drew:=⟨(Below.refl _ _).drew,h.cells.1,h.cells.2.1⟩
theorem rds_keep {W w1 w2 : World} {g k : Nat} {s : ByteArray} (h : RdS W g s k w1) (hb : Below w1.heap.size w1 w2) : RdS W g s k w2 :=
 ⟨h.1.trans (hb.mono h.1.size),(hb.cell (p:=⟨g,0,none⟩) (World.block_lt_of_cell? w1 _ h.2.1)).trans h.2.1,(hb.cell (p:=⟨g,1,none⟩) (World.block_lt_of_cell? w1 _ h.2.2)).trans h.2.2⟩
theorem pClone (s : ByteArray) (w : World) (hlim : s.size≤281474976710656) : Calls Tryz.prog 20 #[.string s] w fun e w'=>e=.returned (.string s)∧Below w.heap.size w w':=by
 have HC:=Lib.hid (fun w1=>Tryz.stringslite_Clone s w1 hlim)
 go_enter Tryz.func20,Tryz.ntmps20
 go_wp2_with (first | (go_at_call 50; refine (HC.out _).mono ?_; rintro ee w1 ⟨rfl,hb⟩; refine Hid.out ?_) | fail)
 refine Lib.hid ?_
 go_wp2
 go_ret
 exact ⟨rfl,hb⟩
theorem ext_le {s : ByteArray} (hs : s.size≤140737488355328) (k m : Nat) : (s.extract k m).size≤281474976710656:=by
 rw [ByteArray.size_extract]; omega
def AtomsJ (g k : Nat) (s : ByteArray) (w0 : World) (D : Bool × Nat) (a : Act) (w : World) : Prop:=∃ (i : Nat) (u9 u10 u11 u12 u13 : Value),
 a={ tmps:=#[.pointer (some ⟨g,0,none⟩),undef,.string ⟨#[]⟩,.bool false,.int .i64 (k : Int),.pointer (some ⟨g,0,none⟩),.pointer (some ⟨g,0,none⟩),.pointer (some ⟨g,1,none⟩),.int .i64 (k : Int),
  u9,u10,u11,u12,u13,undef,undef,undef,undef,undef,undef,undef,undef,undef,undef,undef],defers:=[] }∧RdAt w g s i∧KeepX g w0 w∧k≤i∧i≤s.size∧dots atomC someB s i=D
theorem pAtoms (g k : Nat) (s : ByteArray) (w : World) (h : RdAt w g s k) (hk : k≤s.size) (hs : s.size≤140737488355328) :
  Calls Tryz.prog 123 #[.pointer (some ⟨g,0,none⟩)] w fun e w'=>e=.returned (.tuple #[.string (strOf s k (dots atomC someB s k)),.bool (dots atomC someB s k).1])∧RdAt w' g s (dots atomC someB s k).2∧KeepX g w w':=by
 have HR:=Lib.hid h
 obtain ⟨x0,x1,x2⟩:=h.cells
 generalize hD : dots atomC someB s k=D
 have HD:=Lib.hid hD
 clear h hD
 go_enter Tryz.func123,Tryz.ntmps123
 go_wp2
 refine wp_scope_loop 1 (AtomsJ g k s w D) (fun _ w'=>s.size - atOf g w') rfl ?_ ?_
 ·intro Qx hx
  have HX:=Lib.hid hx
  clear hx
  go_wp2
  go_step3
  rename_i K hK
  exact hK _ _ (HX.out _ _ ⟨k,undef,undef,undef,undef,undef,rfl,HR.out,KeepX.refl _ _,Nat.le_refl _,hk,HD.out⟩)
 ·intro F J' hF a wr hJ hJ'
  obtain ⟨i,u9,u10,u11,u12,u13,rfl,hr,hkx,hki,his,hd⟩:=hJ
  have HF:=Lib.hid hF
  have HJ:=Lib.hid hJ'
  have HR2:=Lib.hid hr
  have HK:=Lib.hid hkx
  obtain ⟨m,hm⟩ : ∃ m,m=i + rowN atomC s i:=⟨_,rfl⟩
  have hms : m≤s.size:=by rw [hm]; exact row_le atomC s i his
  have him : i≤m:=by omega
  have C1:=Lib.hid (pRow 167 atomC enters_atom pAtom g i s wr hr his (by omega))
  have HDS:=Lib.hid ((dots_eq atomC someB s i).symm.trans hd)
  rw [← hm] at C1 HDS
  have C2 : Hid (∀ w1,RdAt w1 g s m→Calls Tryz.prog 63 #[.pointer (some ⟨g,0,none⟩),.int .u8 46] w1 fun e w'=>e=.returned (.bool (hasB s m 46))∧RdAt w' g s (if hasB s m 46=true then m + 1 else m)∧KeepX g w1 w') :=
   fun w1 h1=>pHas g m s 46 w1 h1 hms (by omega)
  have HAT:=Lib.hid (atOf_eq hr)
  have HLT : Hid (hasB s m 46=true→m < s.size):=hasB_lt
  obtain ⟨R,hR⟩ : ∃ R,R=s.extract i m:=⟨_,rfl⟩
  rw [← hR] at C1 HDS
  clear hF hJ' hr hkx hd hm hR
  by_cases h0 : R.size=0
  ·obtain rfl:=str_empty h0
   have HT : Hid ((false,m)=D):=HDS.out
   clear HDS h0
   go_wp2_with (first | (go_at_call 95; refine C1.out.mono ?_; rintro ee w1 ⟨rfl,h1,q1⟩; refine Hid.out ?_) | fail)
   refine Lib.hid ?_
   have HR3:=Lib.hid h1
   have HQ1:=Lib.hid q1
   clear h1 q1
   go_wp2
   go_step3
   refine Or.inr ⟨_,by rw [HF.out]; rfl,?_⟩
   clear HF
   go_wp2
   rw [Exit.noGoto_ret]
   go_ret2
   exact ⟨by rw [← HT.out]; rfl,by rw [← HT.out]; exact HR3.out,HK.out.trans HQ1.out⟩
  ·obtain ⟨hn1,hn2⟩:=str_ne h0
   have hsb : someB R.data.toList=true:=by
    unfold someB
    cases hx : R.data.toList with
    | nil=>exfalso; apply h0; rw [← str_len,hx]; rfl
    | cons x y=>rfl
   rw [hsb] at HDS
   clear hsb h0
   obtain ⟨hb,hhb⟩ : ∃ b,b=hasB s m 46:=⟨_,rfl⟩
   rw [← hhb] at C2 HDS HLT
   clear hhb
   go_wp2_with (first | (go_at_call 95; refine C1.out.mono ?_; rintro ee w1 ⟨rfl,h1,q1⟩; refine Hid.out ?_) | fail)
   refine Lib.hid ?_
   have HR3:=Lib.hid h1
   have HQ1:=Lib.hid q1
   clear h1 q1
   cases hb with
   | true =>
    have HT : Hid (dots atomC someB s (m + 1)=D):=HDS.out
    have hmlt : m < s.size:=HLT.out rfl
    go_wp2_with (first | (go_at_call 63; refine (C2.out _ HR3.out).mono ?_; rintro ee w2 ⟨rfl,h2,q2⟩; refine Hid.out ?_) | fail)
    refine Lib.hid ?_
    have HR4 : Hid (RdAt w2 g s (m + 1)):=h2
    have HQ2:=Lib.hid q2
    clear h2 q2
    go_wp2
    go_step3
    refine Or.inl ⟨rfl,HJ.out _ _ ⟨m + 1,_,_,_,_,_,rfl,HR4.out,HK.out.trans (HQ1.out.trans HQ2.out),by omega,by omega,HT.out⟩ ?_⟩
    rw [HAT.out,atOf_eq HR4.out]
    omega
   | false =>
    have HT : Hid ((true,m)=D):=HDS.out
    go_wp2_with (first | (go_at_call 63; refine (C2.out _ HR3.out).mono ?_; rintro ee w2 ⟨rfl,h2,q2⟩; refine Hid.out ?_) | fail)
    refine Lib.hid ?_
    have HR4 : Hid (RdAt w2 g s m):=h2
    have HQ2:=Lib.hid q2
    have HCl:=Lib.hid (fun w3=>pClone (s.extract k m) w3 (ext_le hs k m))
    have k0 : (0 : Int)≤(k : Int):=by omega
    have k1 : (k : Int)≤(m : Int):=by omega
    have k2 : (m : Int)≤(s.size : Int):=by omega
    have k3 : k≤m:=by omega
    clear h2 q2
    go_wp2
    go_region_held3 (fun w'=>Below w2.heap.size w2 w'∧w'.cell? ⟨g,0,none⟩=some (.string s)∧w'.cell? ⟨g,1,none⟩=some (.int .i64 (m : Int)))
     (first | exact rds_start HR4.out | exact rds_start0 HR4.out | exact rds_drew (by assumption) | exact rds_keep (by assumption) hb | fail)
     (first
      | (go_at_call 20; refine (HCl.out _).mono ?_; rintro e wn ⟨rfl,hb⟩)
      | fail)
    have HB:=Lib.hid (And.left (by assumption : Below w2.heap.size w2 wn∧wn.cell? ⟨g,0,none⟩=some (.string s)∧wn.cell? ⟨g,1,none⟩=some (.int .i64 (m : Int))))
    go_wp2
    rw [Exit.jumpF_ret]
    go_ret2
    exact ⟨by rw [← HT.out]; rfl,by rw [← HT.out]; exact HR4.out.on HB.out,HK.out.trans (HQ1.out.trans (HQ2.out.trans (KeepX.of_below HB.out)))⟩
end Go.Proofs.YtghnopkgcgfcpaaGreatDoor.Path
set_option maxHeartbeats 16000000
set_option maxRecDepth 100000
namespace Go.Proofs.YtghnopkgcgfcpaaGreatDoor.Path
open Go.RowKit Base
theorem row_all (q : UInt8→Bool) (s : ByteArray) : ∀ j k,j < rowN q s k→k≤s.size→q (s.data.toList.getD (k + j) 0)=true
 | j,k,hj,hk=>by
  by_cases h : k < s.size
  ·have e:=row_step q s k h
   cases hq : q s[k] with
   | false=>rw [e,hq] at hj; simp at hj
   | true =>
    rw [e,hq] at hj
    simp only [if_true] at hj
    cases j with
    | zero=>rw [Nat.add_zero,str_get s k h]; exact hq
    | succ i =>
     have:=row_all q s i (k + 1) (by omega) (by omega)
     rw [show k + (i + 1)=k + 1 + i by omega]; exact this
  ·rw [row_end q s k (by omega)] at hj; omega
theorem hasB_at {s : ByteArray} {k : Nat} {c : UInt8} (h : hasB s k c=true) : (s.data.toList.getD k 0).toNat=c.toNat:=by
 unfold hasB at h
 rw [Bool.and_eq_true] at h
 exact of_decide_eq_true h.2
theorem dots_ascii (q : UInt8→Bool) (ok : List UInt8→Bool) (hq : ∀ c,q c=true→c.toNat < 128) (s : ByteArray) : ∀ n k,s.size - k≤n→k≤s.size→∀ j,k≤j→j < (dots q ok s k).2→(s.data.toList.getD j 0).toNat < 128:=by
 intro n
 induction n with
 | zero =>
  intro k hn hk j hj hd
  rw [dots_eq,row_end q s k (by omega)] at hd
  have hb : ¬ hasB s (k + 0) 46=true:=fun h=>by have:=hasB_lt h; omega
  rw [if_neg hb] at hd
  split at hd
  ·exfalso; simp at hd; omega
  ·exfalso; simp at hd; omega
 | succ n ih =>
  intro k hn hk j hj hd
  have hrow : ∀ j,k≤j→j < k + rowN q s k→(s.data.toList.getD j 0).toNat < 128:=fun j h1 h2=>by
   have:=row_all q s (j - k) k (by omega) hk
   rw [show k + (j - k)=j by omega] at this
   exact hq _ this
  rw [dots_eq] at hd
  split at hd
  ·split at hd
   ·rename_i hb
    by_cases h1 : j < k + rowN q s k
    ·exact hrow j hj h1
    ·by_cases h2 : j=k + rowN q s k
     ·rw [h2,hasB_at hb]; decide
     ·have:=hasB_lt hb
      exact ih (k + rowN q s k + 1) (by omega) (by omega) j (by omega) hd
   ·exact hrow j hj hd
  ·exact hrow j hj hd
theorem ldC_ascii {c : UInt8} (h : ldC c=true) : c.toNat < 128:=by
 have:=of_decide_eq_true h; omega
theorem nameC_ascii (c : UInt8) (h : nameC c=true) : c.toNat < 128:=by
 unfold nameC at h
 rw [Bool.or_eq_true] at h
 rcases h with h | h
 ·exact ldC_ascii h
 ·have:=of_decide_eq_true h; omega
theorem ext_ascii {s : ByteArray} {k m : Nat} (_hm : m≤s.size) (h : ∀ j,k≤j→j < m→(s.data.toList.getD j 0).toNat < 128) :
  ∀ (j : Nat) (b : UInt8),(s.extract k m).data.toList[j]?=some b→b.toNat < 128:=by
 intro j b hb
 rw [extract_bytes] at hb
 have hb : ((s.data.toList.take m).drop k)[j]?=some b:=hb
 rw [List.getElem?_drop,List.getElem?_take] at hb
 split at hb
 ·have:=h (k + j) (by omega) (by omega)
  rw [List.getD_eq_getElem?_getD,hb] at this
  exact this
 ·cases hb
def lowS (s : ByteArray) : ByteArray:=⟨(Lib.toLowerA s.data.toList).toArray⟩
theorem lowS_size (s : ByteArray) : (lowS s).size=s.size:=by
 show (Lib.toLowerA s.data.toList).toArray.size=_
 rw [List.size_toArray]
 unfold Lib.toLowerA
 rw [List.length_map,str_len]
def domOf (s : ByteArray) (k : Nat) (r : Bool × Nat) : ByteArray:=if r.1 then lowS (s.extract k r.2) else ⟨#[]⟩
theorem ext_le2 {s : ByteArray} (hs : s.size≤140737488355328) (k m : Nat) : (s.extract k m).size≤140737488355328:=by
 rw [ByteArray.size_extract]; omega
def DomJ (g k : Nat) (s : ByteArray) (w0 : World) (D : Bool × Nat) (a : Act) (w : World) : Prop:=∃ (i : Nat) (u9 u10 u11 u12 u13 u14 : Value),
 a={ tmps:=#[.pointer (some ⟨g,0,none⟩),undef,.string ⟨#[]⟩,.bool false,.int .i64 (k : Int),.pointer (some ⟨g,0,none⟩),.pointer (some ⟨g,0,none⟩),.pointer (some ⟨g,1,none⟩),.int .i64 (k : Int),
  u9,u10,u11,u12,u13,u14,undef,undef,undef,undef,undef,undef,undef,undef,undef,undef,undef,undef],defers:=[] }∧RdAt w g s i∧KeepX g w0 w∧k≤i∧i≤s.size∧dots nameC labelB s i=D
theorem pDomain (g k : Nat) (s : ByteArray) (w : World) (h : RdAt w g s k) (hk : k≤s.size) (hs : s.size≤140737488355328) :
  Calls Tryz.prog 65 #[.pointer (some ⟨g,0,none⟩)] w fun e w'=>e=.returned (.tuple #[.string (domOf s k (dots nameC labelB s k)),.bool (dots nameC labelB s k).1])∧RdAt w' g s (dots nameC labelB s k).2∧KeepX g w w':=by
 have HR:=Lib.hid h
 obtain ⟨x0,x1,x2⟩:=h.cells
 have HA:=Lib.hid (dots_ascii nameC labelB nameC_ascii s _ k (Nat.le_refl _) hk)
 generalize hD : dots nameC labelB s k=D at HA
 have HD:=Lib.hid hD
 clear h hD
 go_enter Tryz.func65,Tryz.ntmps65
 go_wp2
 refine wp_scope_loop 1 (DomJ g k s w D) (fun _ w'=>s.size - atOf g w') rfl ?_ ?_
 ·intro Qx hx
  have HX:=Lib.hid hx
  clear hx
  go_wp2
  go_step3
  rename_i K hK
  exact hK _ _ (HX.out _ _ ⟨k,undef,undef,undef,undef,undef,undef,rfl,HR.out,KeepX.refl _ _,Nat.le_refl _,hk,HD.out⟩)
 ·intro F J' hF a wr hJ hJ'
  obtain ⟨i,u9,u10,u11,u12,u13,u14,rfl,hr,hkx,hki,his,hd⟩:=hJ
  have HF:=Lib.hid hF
  have HJ:=Lib.hid hJ'
  have HR2:=Lib.hid hr
  have HK:=Lib.hid hkx
  obtain ⟨m,hm⟩ : ∃ m,m=i + rowN nameC s i:=⟨_,rfl⟩
  have hms : m≤s.size:=by rw [hm]; exact row_le nameC s i his
  have him : i≤m:=by omega
  have C1:=Lib.hid (pRow 101 nameC enters_name pName g i s wr hr his (by omega))
  have HDS:=Lib.hid ((dots_eq nameC labelB s i).symm.trans hd)
  rw [← hm] at C1 HDS
  have C2 : Hid (∀ w1,RdAt w1 g s m→Calls Tryz.prog 63 #[.pointer (some ⟨g,0,none⟩),.int .u8 46] w1 fun e w'=>e=.returned (.bool (hasB s m 46))∧RdAt w' g s (if hasB s m 46=true then m + 1 else m)∧KeepX g w1 w') :=
   fun w1 h1=>pHas g m s 46 w1 h1 hms (by omega)
  have HAT:=Lib.hid (atOf_eq hr)
  have HLT : Hid (hasB s m 46=true→m < s.size):=hasB_lt
  have C3:=Lib.hid (fun w1=>pLabel (s.extract i m) w1 (by have:=ext_le hs i m; omega))
  obtain ⟨R,hR⟩ : ∃ R,R=s.extract i m:=⟨_,rfl⟩
  rw [← hR] at C1 HDS C3
  clear hF hJ' hr hkx hd hm hR
  generalize labelB R.data.toList=lb at HDS C3
  go_wp2_with (first | (go_at_call 95; refine C1.out.mono ?_; rintro ee w1 ⟨rfl,h1,q1⟩; refine Hid.out ?_) | fail)
  refine Lib.hid ?_
  have HR3:=Lib.hid h1
  have HQ1:=Lib.hid q1
  clear h1 q1
  cases lb with
  | false =>
   have HT : Hid ((false,m)=D):=HDS.out
   clear HDS
   go_wp2_with (first | (go_at_call 100; refine (C3.out _).mono ?_; rintro ee w2 ⟨rfl,rfl⟩; refine Hid.out ?_) | fail)
   refine Lib.hid ?_
   go_wp2
   go_step3
   refine Or.inr ⟨_,by rw [HF.out]; rfl,?_⟩
   clear HF
   go_wp2
   rw [Exit.noGoto_ret]
   go_ret2
   exact ⟨by rw [← HT.out]; rfl,by rw [← HT.out]; exact HR3.out,HK.out.trans HQ1.out⟩
  | true =>
   go_wp2_with (first | (go_at_call 100; refine (C3.out _).mono ?_; rintro ee w2 ⟨rfl,rfl⟩; refine Hid.out ?_) | fail)
   refine Lib.hid ?_
   obtain ⟨hb,hhb⟩ : ∃ b,b=hasB s m 46:=⟨_,rfl⟩
   rw [← hhb] at C2 HDS HLT
   clear hhb
   cases hb with
   | true =>
    have HT : Hid (dots nameC labelB s (m + 1)=D):=HDS.out
    have hmlt : m < s.size:=HLT.out rfl
    go_wp2_with (first | (go_at_call 63; refine (C2.out _ HR3.out).mono ?_; rintro ee w2 ⟨rfl,h2,q2⟩; refine Hid.out ?_) | fail)
    refine Lib.hid ?_
    have HR4 : Hid (RdAt w2 g s (m + 1)):=h2
    have HQ2:=Lib.hid q2
    clear h2 q2
    go_wp2
    go_step3
    refine Or.inl ⟨rfl,HJ.out _ _ ⟨m + 1,_,_,_,_,_,_,rfl,HR4.out,HK.out.trans (HQ1.out.trans HQ2.out),by omega,by omega,HT.out⟩ ?_⟩
    rw [HAT.out,atOf_eq HR4.out]
    omega
   | false =>
    have HT : Hid ((true,m)=D):=HDS.out
    have HASC:=Lib.hid (ext_ascii hms (fun j h1 h2=>HA.out j h1 (by rw [← HT.out]; exact h2)))
    have HLo : Hid (∀ w3,Calls Tryz.prog 102 #[.string (s.extract k m)] w3 fun e w'=>e=.returned (.string (lowS (s.extract k m)))∧Below w3.heap.size w3 w'):=fun w3=>Tryz.strings_ToLower_ascii (s.extract k m) w3 (ext_le2 hs k m) HASC.out
    have HCl:=Lib.hid (fun w3=>pClone (lowS (s.extract k m)) w3 (by rw [lowS_size]; exact ext_le hs k m))
    obtain ⟨Y,hY⟩ : ∃ Y,Y=lowS (s.extract k m):=⟨_,rfl⟩
    rw [← hY] at HLo HCl
    have HY:=Lib.hid hY
    clear hY
    go_wp2_with (first | (go_at_call 63; refine (C2.out _ HR3.out).mono ?_; rintro ee w2 ⟨rfl,h2,q2⟩; refine Hid.out ?_) | fail)
    refine Lib.hid ?_
    have HR4 : Hid (RdAt w2 g s m):=h2
    have HQ2:=Lib.hid q2
    have k0 : (0 : Int)≤(k : Int):=by omega
    have k1 : (k : Int)≤(m : Int):=by omega
    have k2 : (m : Int)≤(s.size : Int):=by omega
    have k3 : k≤m:=by omega
    clear h2 q2
    go_wp2
    go_region_held3 (fun w'=>Below w2.heap.size w2 w'∧w'.cell? ⟨g,0,none⟩=some (.string s)∧w'.cell? ⟨g,1,none⟩=some (.int .i64 (m : Int)))
     (first | exact rds_start HR4.out | exact rds_start0 HR4.out | exact rds_drew (by assumption) | exact rds_keep (by assumption) hb | fail)
     (first
      | (go_at_call 102; refine (HLo.out _).mono ?_; rintro e wn ⟨rfl,hb⟩)
      | (go_at_call 20; refine (HCl.out _).mono ?_; rintro e wn ⟨rfl,hb⟩)
      | fail)
    have HB:=Lib.hid (And.left (by assumption : Below w2.heap.size w2 wn∧wn.cell? ⟨g,0,none⟩=some (.string s)∧wn.cell? ⟨g,1,none⟩=some (.int .i64 (m : Int))))
    go_wp2
    rw [Exit.jumpF_ret]
    go_ret2
    exact ⟨by rw [← HT.out,HY.out]; rfl,by rw [← HT.out]; exact HR4.out.on HB.out,HK.out.trans (HQ1.out.trans (HQ2.out.trans (KeepX.of_below HB.out)))⟩
end Go.Proofs.YtghnopkgcgfcpaaGreatDoor.Path
