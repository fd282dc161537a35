/-
  MERGED by mergefill.py: CidrG2, CidrPFirst, CidrPMath.
-/
import Derived.Test.YtghnopkgcgfcpaaGreatDoorStrBaseMg
import Derived.Deep.MidRow
import Derived.ChangeKeysEq
import Derived.Deep.RegionHeld3
set_option maxHeartbeats 16000000
set_option maxRecDepth 100000
namespace Go.Proofs.YtghnopkgcgfcpaaGreatDoor.Cidr
open Go.RowKit Base
abbrev B8 (x : UInt8) : Value:=.int .u8 (x.toNat : Int)
theorem rSize (six : Bool) (w : World) : Calls Tryz.prog 60 #[.bool six] w (fun e w'=>e=.returned (.int .i64 (if six then 128 else 32))∧w=w'):=by
 cases six
 all_goals
  go_enter Tryz.func60,Tryz.ntmps60
  go_wp2
  go_ret
  exact ⟨rfl,rfl⟩
def bitA (a : List UInt8) (i : Nat) : Nat:=(a.getD (i / 8) 0).toNat / 2 ^ (7 - i % 8) % 2
theorem cell_new (w : World) (cs : Array Value) (t : TypeId) (k : Nat) : (w.alloc (.cells cs t)).cell? ⟨w.heap.size,k,none⟩=cs[k]?:=cell_of_row _ _ k _ _ _ (MapKept.heap_alloc w _).1
theorem cell_addr (w : World) (a : List UInt8) (t : TypeId) (k : Nat) (hk : k < a.length) : (w.alloc (.cells (a.map B8).toArray t)).cell? ⟨w.heap.size,k,none⟩=some (.int .u8 ((a.getD k 0).toNat : Int)):=by
 rw [cell_new]
 simp [List.getD,List.getElem?_eq_getElem hk]
theorem and_one (x : Nat) (hx : x < 256) : bits .and .u8 (x : Int) 1=((x % 2 : Nat) : Int):=by
 have h : ∀ y : Fin 256,bits .and .u8 (y.val : Int) 1=((y.val % 2 : Nat) : Int):=by decide +kernel
 exact h ⟨x,hx⟩
theorem rBit (a : List UInt8) (ha : a.length=16) (i : Nat) (hi : i < 128) (w : World) : Calls Tryz.prog 90 #[.agg (a.map B8).toArray,.int .i64 (i : Int)] w (fun e w'=>e=.returned (.int .u8 (bitA a i : Int))∧Below w.heap.size w w'):=by
 have hc:=cell_addr w a 68 (i / 8) (by omega)
 have hx : (a.getD (i / 8) 0).toNat < 256:=(a.getD (i / 8) 0).toNat_lt
 have HB : Hid (∀ x : Nat,x=(a.getD (i / 8) 0).toNat→bitA a i=x / 2 ^ (7 - i % 8) % 2):=fun x hx=>by rw [hx]; rfl
 generalize (a.getD (i / 8) 0).toNat=x at hc hx HB
 have HB2:=Lib.hid (HB.out x rfl)
 clear HB
 go_enter Tryz.func90,Tryz.ntmps90
 go_wp2
 go_ret
 refine ⟨?_,Below.alloc1 _ _⟩
 have e : (x : Int) / 2 ^ (7 - i % 8)=((x / 2 ^ (7 - i % 8) : Nat) : Int):=by push_cast; rfl
 rw [HB2.out,e,and_one _ (Nat.lt_of_le_of_lt (Nat.div_le_self _ _) hx)]
 rfl
end Go.Proofs.YtghnopkgcgfcpaaGreatDoor.Cidr
namespace Go.Proofs.YtghnopkgcgfcpaaGreatDoor.Cidr
open Go.RowKit Base
structure NetM where
 six : Bool
 bits : Int
 a : List UInt8
deriving DecidableEq
abbrev netC (n : NetM) : Array Value:=(.bool n.six :: .int .i64 n.bits :: n.a.map B8).toArray
abbrev netV (n : NetM) : Value:=.agg (netC n)
def NetAt (w : World) (b : Nat) (n : NetM) : Prop:=w.heap[b]?=some (.cells (netC n) 70 (0,0))
theorem size25 : (Tryz.prog.info? 70).map (·.size)=some 18:=by kernel_rfl
theorem size23 : (Tryz.prog.info? 68).map (·.size)=some 16:=by kernel_rfl
theorem NetAt.new (w : World) (n : NetM) : NetAt (w.alloc (.cells (netC n) 70)) w.heap.size n:=(MapKept.heap_alloc w _).1
theorem NetAt.on {w w' : World} {b : Nat} {n : NetM} (h : NetAt w b n) (hb : Below w.heap.size w w') : NetAt w' b n:=(hb.block b (heap_lt h)).trans h
theorem NetAt.six {w : World} {b : Nat} {n : NetM} (h : NetAt w b n) : w.cell? ⟨b,0,none⟩=some (.bool n.six):=cell_of_row w b 0 _ _ _ h
theorem NetAt.bits {w : World} {b : Nat} {n : NetM} (h : NetAt w b n) : w.cell? ⟨b,1,none⟩=some (.int .i64 n.bits):=cell_of_row w b 1 _ _ _ h
theorem NetAt.range {w : World} {b : Nat} {n : NetM} (h : NetAt w b n) : w.rangeAt b 2 (n.a.map B8):=fun j v hv=>by
 rw [cell_of_row w b (2 + j) _ _ _ h]
 rw [show 2 + j=j + 1 + 1 by omega]
 simpa using hv
theorem size23_of {a : List UInt8} (ha : a.length=16) : (Tryz.prog.info? 68).map (·.size)=some (a.map B8).length:=by rw [size23]; simp [ha]
theorem size25_of {n : NetM} (ha : n.a.length=16) : (Tryz.prog.info? 70).map (·.size)=some (Value.bool n.six :: .int .i64 n.bits :: n.a.map B8).length:=by rw [size25]; simp [ha]
theorem NetAt.range0 {w : World} {b : Nat} {n : NetM} (h : NetAt w b n) : w.rangeAt b 0 (Value.bool n.six :: .int .i64 n.bits :: n.a.map B8):=fun j v hv=>by rw [Nat.zero_add,cell_of_row w b j _ _ _ h]; simpa using hv
def zeroF (a : List UInt8) : Nat→Nat→Bool
 | 0,_=>true
 | n + 1,k=>bitA a k == 0 && zeroF a n (k + 1)
def zeroFrom (a : List UInt8) (k : Nat) : Bool:=zeroF a (128 - k) k
theorem zeroFrom_step (a : List UInt8) {k : Nat} (h : k < 128) : zeroFrom a k=(bitA a k == 0 && zeroFrom a (k + 1)):=by
 unfold zeroFrom
 rw [show 128 - k=(128 - (k + 1)) + 1 by omega,zeroF]
theorem zeroFrom_end (a : List UInt8) {k : Nat} (h : 128≤k) : zeroFrom a k=true:=by
 unfold zeroFrom
 rw [show 128 - k=0 by omega,zeroF]
def sizeN (six : Bool) : Int:=if six then 128 else 32
def rightN (n : NetM) : Bool:=decide (0≤n.bits∧n.bits≤sizeN n.six) && zeroFrom n.a n.bits.toNat
def AnsB (b : Bool) (w : World) (e : Ending) (w' : World) : Prop:=e=.returned (.bool b)∧Below w.heap.size w w'
theorem rRight (n : NetM) (ha : n.a.length=16) (w : World) : Calls Tryz.prog 57 #[netV n] w (AnsB (rightN n) w):=by
 obtain ⟨six,bits,a⟩:=n
 have HA:=Lib.hid ha
 obtain ⟨R,hR⟩ : ∃ R,R=rightN ⟨six,bits,a⟩:=⟨_,rfl⟩
 rw [← hR]
 unfold rightN at hR
 simp only at hR
 have hnew:=NetAt.new w ⟨six,bits,a⟩
 have hs:=hnew.six
 have hb:=hnew.bits
 have HN:=Lib.hid hnew
 have HSZ:=Lib.hid (rSize six (w.alloc (.cells (netC ⟨six,bits,a⟩) 70)))
 have hle : sizeN six≤128:=by unfold sizeN; split <;> omega
 obtain ⟨sz,hsz⟩ : ∃ sz,sz=sizeN six:=⟨_,rfl⟩
 rw [show (if six=true then (128 : Int) else 32)=sizeN six from rfl,← hsz] at HSZ
 rw [← hsz] at hR hle
 clear hsz hnew
 by_cases hl : 0≤bits
 ·by_cases hu : bits≤sz
  ·have e1 : ¬ bits < 0:=by omega
   have e2 : ¬ sz < bits:=by omega
   obtain ⟨m,rfl⟩:=Int.eq_ofNat_of_zero_le hl
   rw [decide_eq_true ⟨hl,hu⟩,Bool.true_and,Int.toNat_natCast] at hR
   have HR:=Lib.hid hR
   clear hR hl
   go_enter Tryz.func57,Tryz.ntmps57
   go_wp2_with (go_at_call 60; refine HSZ.out.mono ?_; rintro e w1 ⟨rfl,rfl⟩; refine Hid.out ?_)
   refine Lib.hid ?_
   go_wp2
   go_loopw [4] (fun i wr=>∃ k : Nat,k≤128∧i=.int .i64 k∧NetAt wr w.heap.size ⟨six,m,a⟩∧Below w.heap.size w wr∧Hid (R=zeroFrom a k)) (fun i _=>128 - (intOf i).toNat)
   case atStart=>exact ⟨m,by omega,rfl,HN.out,Below.alloc1 _ _,HR.out⟩
   case round =>
    obtain ⟨k,hk,rfl,hat,hb,hz⟩:=hrel
    by_cases hlt : k < 128
    ·have HS23:=Lib.hid (size23_of HA.out)
     have HRG:=Lib.hid hat.range
     have HB:=Lib.hid hb
     have HAT:=Lib.hid hat
     have HBIT:=Lib.hid (rBit a HA.out k hlt wr)
     have HZ:=Lib.hid (hz.out.trans (zeroFrom_step a hlt))
     have i1 : (k : Int) < 128:=by omega
     clear hb hat hz
     generalize bitA a k=x at HBIT HZ
     by_cases hx : x=0
     ·subst hx
      go_wp2_with (first | (refine wpList_load_mid rfl 68 (.tmp 23) rfl w.heap.size 2 rfl (a.map B8) _ HRG.out Tryz.underlying68 rfl HS23.out ?_) | (go_at_call 90; refine HBIT.out.mono ?_; rintro e w2 ⟨rfl,b2⟩; refine Hid.out ?_) | fail)
      refine Lib.hid ?_
      have B2:=Lib.hid b2
      clear b2
      go_wp2
      go_roundw
      case rel=>exact ⟨k + 1,by omega,by go_num,HAT.out.on B2.out,HB.out.trans (B2.out.mono HB.out.size),by show R=_; simpa using HZ.out⟩
      case measure=>simp [intOf]; omega
     ·have hxe : ((x : Int) == 0)=false:=by rw [beq_eq_false_iff_ne]; omega
      have HZ2 : Hid (R=false):=by
       have:=HZ.out
       rw [show (x == 0)=false by rw [beq_eq_false_iff_ne]; exact hx,Bool.false_and] at this
       exact this
      clear HZ
      go_wp2_with (first | (refine wpList_load_mid rfl 68 (.tmp 23) rfl w.heap.size 2 rfl (a.map B8) _ HRG.out Tryz.underlying68 rfl HS23.out ?_) | (go_at_call 90; refine HBIT.out.mono ?_; rintro e w2 ⟨rfl,b2⟩; refine Hid.out ?_) | fail)
      refine Lib.hid ?_
      have B2:=Lib.hid b2
      clear b2
      go_wp2
      go_ret
      exact ⟨ret_bool HZ2.out.symm,HB.out.trans (B2.out.mono HB.out.size)⟩
    ·have i1 : ¬ (k : Int) < 128:=by omega
     have HZ2 : Hid (R=true):=hz.out.trans (zeroFrom_end a (by omega))
     have HB:=Lib.hid hb
     clear hb hat hz
     go_wp2
     go_ret
     exact ⟨ret_bool HZ2.out.symm,HB.out⟩
  ·have e1 : ¬ bits < 0:=by omega
   have e2 : sz < bits:=by omega
   rw [decide_eq_false (fun h=>hu h.2),Bool.false_and] at hR
   have HR:=Lib.hid hR
   clear hR hl hu
   go_enter Tryz.func57,Tryz.ntmps57
   go_wp2_with (go_at_call 60; refine HSZ.out.mono ?_; rintro e w1 ⟨rfl,rfl⟩; refine Hid.out ?_)
   refine Lib.hid ?_
   go_wp2
   go_ret
   exact ⟨ret_bool HR.out.symm,Below.alloc1 _ _⟩
 ·have e1 : bits < 0:=by omega
  rw [decide_eq_false (fun h=>hl h.1),Bool.false_and] at hR
  have HR:=Lib.hid hR
  clear hR hl
  go_enter Tryz.func57,Tryz.ntmps57
  go_wp2_with (go_at_call 60; refine HSZ.out.mono ?_; rintro e w1 ⟨rfl,rfl⟩; refine Hid.out ?_)
  refine Lib.hid ?_
  go_wp2
  go_ret
  exact ⟨ret_bool HR.out.symm,Below.alloc1 _ _⟩
end Go.Proofs.YtghnopkgcgfcpaaGreatDoor.Cidr
namespace Go.Proofs.YtghnopkgcgfcpaaGreatDoor.Cidr
open Go.RowKit Base
def zeroN : NetM:=⟨false,0,List.replicate 16 0⟩
abbrev netL (n : NetM) : List Value:=.bool n.six :: .int .i64 n.bits :: n.a.map B8
theorem netL_one (n : NetM) : ∀ v ∈ netL n,v.oneCell'=true:=fun v hv=>by
 simp only [List.mem_cons,List.mem_map] at hv
 rcases hv with rfl | rfl | ⟨x,_,rfl⟩ <;> rfl
theorem netC_all (n : NetM) : (netC n).all (·.oneCell')=true:=all_oneCell_toArray (netL_one n)
theorem netC_size {n : NetM} (ha : n.a.length=16) : (netC n).size=18:=by simp [ha]
theorem size25c {n : NetM} (ha : n.a.length=16) : (Tryz.prog.info? 70).map (·.size)=some (netC n).size:=by rw [size25,netC_size ha]
def setL (cur : Array Value) : Nat→List Value→Array Value
 | _,[]=>cur
 | o,v :: r=>setL (cur.setIfInBounds o v) (o + 1) r
theorem setL_size : ∀ (vs : List Value) (o : Nat) (cur : Array Value),(setL cur o vs).size=cur.size
 | [],_,_=>rfl
 | v :: r,o,cur=>by unfold setL; rw [setL_size r]; simp
theorem setL_out : ∀ (vs : List Value) (o : Nat) (cur : Array Value) (j : Nat),j < o→(setL cur o vs)[j]?=cur[j]?
 | [],_,_,_,_=>rfl
 | v :: r,o,cur,j,h=>by
  unfold setL
  rw [setL_out r (o + 1) _ j (by omega),Array.getElem?_setIfInBounds,if_neg (by omega)]
theorem setL_in : ∀ (vs : List Value) (o : Nat) (cur : Array Value) (j : Nat),j < vs.length→o + vs.length≤cur.size→(setL cur o vs)[o + j]?=vs[j]?
 | [],_,_,_,h,_=>by simp at h
 | v :: r,o,cur,j,h,hs=>by
  unfold setL
  simp at hs
  cases j with
  | zero =>
   rw [setL_out r (o + 1) _ (o + 0) (by omega),Array.getElem?_setIfInBounds]
   simp
   omega
  | succ j =>
   have:=setL_in r (o + 1) (cur.setIfInBounds o v) j (by simpa using h) (by simp; omega)
   rw [show o + (j + 1)=o + 1 + j by omega,this]
   simp
theorem setL_whole (vs : List Value) (cur : Array Value) (h : cur.size=vs.length) : setL cur 0 vs=vs.toArray:=by
 apply Array.ext_getElem?
 intro j
 rcases Nat.lt_or_ge j vs.length with hj | hj
 ·have:=setL_in vs 0 cur j hj (by omega)
  rw [Nat.zero_add] at this
  rw [this]; simp
 ·rw [Array.getElem?_eq_none (by rw [setL_size]; omega)]
  simp [hj]
theorem heap_setCells (b : Nat) (t : TypeId) (fz : Nat × Nat) : ∀ (vs : List Value) (o : Nat) (w : World) (cur : Array Value),w.heap[b]?=some (.cells cur t fz)→(w.setCells b o vs).heap[b]?=some (.cells (setL cur o vs) t fz)
 | [],_,_,_,h=>h
 | v :: r,o,w,cur,h=>by
  unfold setL
  exact heap_setCells b t fz r (o + 1) _ _ (heap_setCell_any w b o cur t fz v h)
theorem keep_setCells (b : Nat) : ∀ (vs : List Value) (o : Nat) (w : World),KeepX b w (w.setCells b o vs)∧(w.setCells b o vs).heap.size=w.heap.size
 | [],_,w=>⟨KeepX.refl _ _,rfl⟩
 | v :: r,o,w=>by
  obtain ⟨h1,h2⟩:=keep_setCells b r (o + 1) (w.setCell ⟨b,o,none⟩ v)
  exact ⟨(KeepX.set b w o v).trans h1,h2.trans (by simp [World.setCell])⟩
theorem there_of {w : World} {b : Nat} {cur : Array Value} {t : TypeId} (h : w.heap[b]?=some (.cells cur t (0,0))) {n : Nat} (hn : n≤cur.size) : w.there b 0 n:=fun j hj=>by
 refine ⟨?_,by simp [World.frozen?,h]⟩
 rw [Nat.zero_add,cell_of_row w b j _ _ _ h,Array.getElem?_eq_getElem (by omega)]; rfl
theorem net_put {w w2 : World} {b : Nat} {cur : Array Value} (h : w.heap[b]?=some (.cells cur 70 (0,0))) (hs : cur.size=18) {n : NetM} (ha : n.a.length=16) (hw : w.setCells b 0 (netC n).toList=w2) : NetAt w2 b n∧KeepX b w w2∧w2.heap.size=w.heap.size:=by
 subst hw
 have h1:=heap_setCells b 70 (0,0) (netC n).toList 0 w cur h
 rw [setL_whole _ _ (by rw [hs]; simp [ha])] at h1
 exact ⟨by simpa [NetAt] using h1,(keep_setCells b _ 0 w).1,(keep_setCells b _ 0 w).2⟩
theorem NetAt.setA {w : World} {b : Nat} {n : NetM} (h : NetAt w b n) (k : Nat) (x : UInt8) : NetAt (w.setCell ⟨b,2 + k,none⟩ (B8 x)) b { n with a:=n.a.set k x }:=by
 have h1:=heap_setCell_any w b (2 + k) _ _ _ (B8 x) h
 unfold NetAt
 rw [h1]
 congr 2
 apply Array.toList_inj.1
 rw [show 2 + k=k + 1 + 1 by omega]
 simp [List.map_set]
theorem NetAt.cellA {w : World} {b : Nat} {n : NetM} (h : NetAt w b n) {k : Nat} (hk : k < n.a.length) : w.cell? ⟨b,2 + k,none⟩=some (.int .u8 ((n.a.getD k 0).toNat : Int))∧w.frozen? ⟨b,2 + k,none⟩=false:=by
 refine ⟨?_,by simp [World.frozen?,show w.heap[b]?=_ from h]⟩
 have:=h.range k (B8 (n.a.getD k 0)) (by simp [List.getElem?_eq_getElem hk])
 exact this
theorem NetAt.kept {w w' : World} {b g : Nat} {n : NetM} (h : NetAt w b n) (hk : KeepX g w w') (hne : b ≠ g) : NetAt w' b n:=(hk.block b (heap_lt h) hne).trans h
theorem results_net {w : World} {fn : Func} {tmps : Array Value} {i j b : Nat} {n : NetM} {v : Value} (hr : fn.results=#[ResultVar.cell i 70,ResultVar.tmp j]) (h1 : tmps.getD i undef=.pointer (some ⟨b,0,none⟩)) (h2 : tmps.getD j undef=v) (hat : NetAt w b n) (ha : n.a.length=16) :
  (results fn tmps).run Tryz.prog w=.ok (.tuple #[netV n,v]) w:=by
 have hl:=run_loadVar_mid w b 0 70 (netL n) _ hat.range0 Tryz.underlying70 rfl (size25_of ha)
 unfold results
 rw [hr]
 rw [Array.getD_eq_getD_getElem?] at h1 h2
 simp [h1,h2,hl,asAddr]
end Go.Proofs.YtghnopkgcgfcpaaGreatDoor.Cidr
namespace Go.Proofs.YtghnopkgcgfcpaaGreatDoor.Cidr
open Go.RowKit Base
theorem cellsOf5 : Tryz.prog.cellsOf 5=1:=by kernel_rfl
theorem plain5 : Tryz.prog.plainKey 5=true:=by kernel_rfl
theorem run_eqBytes (d : Nat) (xs ys : List UInt8) (w : World) : ∀ (is : List Nat),(∀ i ∈ is,i < xs.length∧i < ys.length) →
  (Op.eqItems (d + 1) 5 1 (xs.map B8).toArray (ys.map B8).toArray is).run Tryz.prog w=.ok (is.all fun i=>xs.getD i 0 == ys.getD i 0) w
 | [],_=>by simp [Op.eqItems]
 | i :: is,h=>by
  obtain ⟨h1,h2⟩:=h i List.mem_cons_self
  have p1 : (part 5 (xs.map B8).toArray (i * 1)).run Tryz.prog w=.ok (.int .u8 ((xs.getD i 0).toNat : Int)) w:=run_part_plain w plain5 (by simp [List.getElem?_eq_getElem h1])
  have p2 : (part 5 (ys.map B8).toArray (i * 1)).run Tryz.prog w=.ok (.int .u8 ((ys.getD i 0).toNat : Int)) w:=run_part_plain w plain5 (by simp [List.getElem?_eq_getElem h2])
  have p3:=run_equalIn_int (P:=Tryz.prog) w d 5 .u8 .u8 ((xs.getD i 0).toNat : Int) ((ys.getD i 0).toNat : Int) Tryz.underlying5
  have ih:=run_eqBytes d xs ys w is fun j hj=>h j (List.mem_cons_of_mem _ hj)
  simp only [Op.eqItems,Sem.run_bind,p1,p2,p3,Result.andThen_ok,List.all_cons]
  by_cases he : xs.getD i 0=ys.getD i 0
  ·have e1 : (((xs.getD i 0).toNat : Int) == ((ys.getD i 0).toNat : Int))=true:=by rw [he]; simp
   have e2 : (xs.getD i 0 == ys.getD i 0)=true:=by rw [he]; simp
   rw [e1,e2]; simpa using ih
  ·have e1 : (((xs.getD i 0).toNat : Int) == ((ys.getD i 0).toNat : Int))=false:=by
    rw [beq_eq_false_iff_ne]; intro h; exact he (UInt8.toNat_inj.1 (by omega))
   have e2 : (xs.getD i 0 == ys.getD i 0)=false:=by rw [beq_eq_false_iff_ne]; exact he
   rw [e1,e2]; simp
theorem all_range_eq {xs ys : List UInt8} {n : Nat} (hx : xs.length=n) (hy : ys.length=n) : ((List.range n).all fun i=>xs.getD i 0 == ys.getD i 0)=decide (xs=ys):=by
 rw [Bool.eq_iff_iff,List.all_eq_true,decide_eq_true_iff]
 constructor
 ·intro h
  apply List.ext_getElem (by omega)
  intro i h1 h2
  have:=h i (List.mem_range.2 (by omega))
  simpa [List.getD,List.getElem?_eq_getElem h1,List.getElem?_eq_getElem h2] using this
 ·rintro rfl i _
  simp
theorem run_eqAddr (d : Nat) (xs ys : List UInt8) (hx : xs.length=16) (hy : ys.length=16) (w : World) : (Op.equalIn (d + 2) 68 (.agg (xs.map B8).toArray) (.agg (ys.map B8).toArray)).run Tryz.prog w=.ok (decide (xs=ys)) w:=by
 obtain ⟨i0,hi,_⟩:=info_parts info5
 rw [run_equalIn_array w (d + 1) _ _ Tryz.underlying68 hi,cellsOf5,run_eqBytes d xs ys w _ (fun i hi=>by rw [List.mem_range] at hi; omega),all_range_eq hx hy]
end Go.Proofs.YtghnopkgcgfcpaaGreatDoor.Cidr
namespace Go.Proofs.YtghnopkgcgfcpaaGreatDoor.Cidr
open Go.RowKit Base
theorem rightN_bits {n : NetM} (h : rightN n=true) : 0≤n.bits∧n.bits≤128:=by
 unfold rightN at h
 rw [Bool.and_eq_true,decide_eq_true_iff] at h
 have : sizeN n.six≤128:=by unfold sizeN; split <;> omega
 omega
end Go.Proofs.YtghnopkgcgfcpaaGreatDoor.Cidr
namespace Go.Proofs.YtghnopkgcgfcpaaGreatDoor.Cidr
open Go.RowKit Base
end Go.Proofs.YtghnopkgcgfcpaaGreatDoor.Cidr
namespace Go.Proofs.YtghnopkgcgfcpaaGreatDoor.Cidr
open Go.RowKit Base
end Go.Proofs.YtghnopkgcgfcpaaGreatDoor.Cidr
set_option maxHeartbeats 16000000
set_option maxRecDepth 100000
namespace Go.Proofs.YtghnopkgcgfcpaaGreatDoor.Cidr
open Go.RowKit Base
theorem pMost (six : Bool) (w : World) : Calls Tryz.prog 133 #[.bool six] w (fun e w'=>e=.returned (.int .i64 (sizeN six))∧w=w'):=by
 cases six
 all_goals
  go_enter Tryz.func133,Tryz.ntmps133
  go_wp2
  go_ret
  exact ⟨rfl,rfl⟩
def keepB (x : UInt8) (l : Int) : UInt8:=if l≤0 then 0 else if l < 8 then UInt8.ofNat (x.toNat / 2 ^ (8 - l).toNat * 2 ^ (8 - l).toNat) else x
def AddrAt (w : World) (b : Nat) (a : List UInt8) : Prop:=w.heap[b]?=some (.cells (a.map B8).toArray 68 (0,0))
def cutA (a : List UInt8) (n : Int) : Nat→List UInt8
 | 0=>a
 | k + 1=>(cutA a n k).set k (keepB (a.getD k 0) (n - 8 * (k : Int)))
def firstA (a : List UInt8) (n : Int) : List UInt8:=cutA a n 16
theorem cutA_len (a : List UInt8) (n : Int) : ∀ k,(cutA a n k).length=a.length
 | 0=>rfl
 | k + 1=>by rw [cutA,List.length_set,cutA_len a n k]
theorem cutA_at (a : List UInt8) (n : Int) : ∀ (k j : Nat),k≤j→(cutA a n k).getD j 0=a.getD j 0
 | 0,_,_=>rfl
 | k + 1,j,h=>by
  rw [cutA,List.getD_eq_getElem?_getD,List.getElem?_set_ne (by omega),← List.getD_eq_getElem?_getD,cutA_at a n k j (by omega)]
theorem AddrAt.new (w : World) (a : List UInt8) : AddrAt (w.alloc (.cells (a.map B8).toArray 68)) w.heap.size a:=(MapKept.heap_alloc w _).1
theorem AddrAt.on {w w' : World} {b : Nat} {a : List UInt8} (h : AddrAt w b a) (hb : Below w.heap.size w w') : AddrAt w' b a:=(hb.block b (heap_lt h)).trans h
theorem AddrAt.range {w : World} {b : Nat} {a : List UInt8} (h : AddrAt w b a) : w.rangeAt b 0 (a.map B8):=fun j v hv=>by
 rw [Nat.zero_add,cell_of_row w b j _ _ _ h]; simpa using hv
theorem AddrAt.cell {w : World} {b : Nat} {a : List UInt8} (h : AddrAt w b a) {k : Nat} (hk : k < a.length) : w.cell? ⟨b,k,none⟩=some (.int .u8 ((a.getD k 0).toNat : Int))∧w.frozen? ⟨b,k,none⟩=false:=by
 refine ⟨?_,by simp [World.frozen?,show w.heap[b]?=_ from h]⟩
 have:=h.range k (B8 (a.getD k 0)) (by simp [List.getElem?_eq_getElem hk])
 rwa [Nat.zero_add] at this
theorem AddrAt.set {w : World} {b : Nat} {a : List UInt8} (h : AddrAt w b a) (k : Nat) (x : UInt8) : AddrAt (w.setCell ⟨b,k,none⟩ (B8 x)) b (a.set k x):=by
 have h1:=heap_setCell_any w b k _ _ _ (B8 x) h
 unfold AddrAt
 rw [h1]
 congr 2
 apply Array.toList_inj.1
 simp [List.map_set]
theorem AddrAt.kept {w w' : World} {b g : Nat} {a : List UInt8} (h : AddrAt w b a) (hk : KeepX g w w') (hne : b ≠ g) : AddrAt w' b a:=(hk.block b (heap_lt h) hne).trans h
theorem size23a {a : List UInt8} (ha : a.length=16) : (Tryz.prog.info? 68).map (·.size)=some (a.map B8).toArray.size:=by rw [size23]; simp [ha]
theorem and_keep (x : UInt8) (l : Nat) (h0 : 0 < l) (h8 : l < 8) : bits .and .u8 (x.toNat : Int) (255 * 2 ^ (8 - l) % 256)=((keepB x l).toNat : Int):=by
 have e : ∀ (y : Fin 256) (k : Fin 8),0 < k.val→bits .and .u8 (y.val : Int) (255 * 2 ^ (8 - k.val) % 256)=((y.val / 2 ^ (8 - k.val) * 2 ^ (8 - k.val) % 256 : Nat) : Int):=by decide +kernel
 have hx:=x.toNat_lt
 have:=e ⟨x.toNat,hx⟩ ⟨l,h8⟩ h0
 simp only at this
 rw [this]
 unfold keepB
 rw [if_neg (by omega),if_pos (by omega),show (8 - (l : Int)).toNat=8 - l by omega]
 simp
theorem addr_put {w w2 : World} {b : Nat} {cur : Array Value} (h : w.heap[b]?=some (.cells cur 68 (0,0))) (hs : cur.size=16) {c : List UInt8} (hc : c.length=16) (hw : w.setCells b 0 (c.map B8).toArray.toList=w2) : AddrAt w2 b c∧KeepX b w w2∧w2.heap.size=w.heap.size:=by
 subst hw
 have h1:=heap_setCells b 68 (0,0) (c.map B8).toArray.toList 0 w cur h
 rw [setL_whole _ _ (by rw [hs]; simp [hc])] at h1
 exact ⟨by simpa [AddrAt] using h1,(keep_setCells b _ 0 w).1,(keep_setCells b _ 0 w).2⟩
theorem results_addr {w : World} {fn : Func} {tmps : Array Value} {i b : Nat} {c : List UInt8} (hr : fn.results=#[ResultVar.cell i 68]) (h1 : tmps.getD i undef=.pointer (some ⟨b,0,none⟩)) (hat : AddrAt w b c) (ha : c.length=16) :
  (results fn tmps).run Tryz.prog w=.ok (.agg (c.map B8).toArray) w:=by
 have hl:=run_loadVar_mid w b 0 68 (c.map B8) _ hat.range Tryz.underlying68 rfl (size23_of ha)
 unfold results
 rw [hr]
 rw [Array.getD_eq_getD_getElem?] at h1
 simp [h1,hl,asAddr]
theorem results_addr2 {w : World} {fn : Func} {tmps : Array Value} {i j b : Nat} {c : List UInt8} {v : Value} (hr : fn.results=#[ResultVar.cell i 68,ResultVar.tmp j]) (h1 : tmps.getD i undef=.pointer (some ⟨b,0,none⟩)) (h2 : tmps.getD j undef=v) (hat : AddrAt w b c) (ha : c.length=16) :
  (results fn tmps).run Tryz.prog w=.ok (.tuple #[.agg (c.map B8).toArray,v]) w:=by
 have hl:=run_loadVar_mid w b 0 68 (c.map B8) _ hat.range Tryz.underlying68 rfl (size23_of ha)
 unfold results
 rw [hr]
 rw [Array.getD_eq_getD_getElem?] at h1 h2
 simp [h1,h2,hl,asAddr]
theorem pFirst (a : List UInt8) (ha : a.length=16) (n : Nat) (hn : n≤128) (w : World) : Calls Tryz.prog 178 #[.agg (a.map B8).toArray,.int .i64 (n : Int)] w (fun e w'=>e=.returned (.agg ((firstA a n).map B8).toArray)∧Below w.heap.size w w'):=by
 have HA:=Lib.hid ha
 have H0:=Lib.hid (AddrAt.new w a)
 go_enter Tryz.func178,Tryz.ntmps178
 go_wp2
 go_loopw [7] (fun x wr=>∃ k : Nat,k≤16∧x=.int .i64 k∧AddrAt wr w.heap.size (cutA a n k)∧wr.heap[w.heap.size + 1]?=some (.cells (List.replicate 16 (Value.int .u8 0)).toArray 68 (0,0))∧Below w.heap.size w wr) (fun x _=>16 - (intOf x).toNat)
 case atStart =>
  refine ⟨0,by omega,rfl,H0.out.on (Below.alloc1 _ _),?_,(Below.alloc1 _ _).trans ((Below.alloc1 _ _).mono (by simp))⟩
  have:=(MapKept.heap_alloc (w.alloc (.cells (a.map B8).toArray 68)) (.cells (List.replicate 16 (Value.int .u8 0)).toArray 68)).1
  simpa using this
 case round =>
  obtain ⟨k,hk,rfl,hat,hzb,hb⟩:=hrel
  by_cases hlt : k < 16
  ·have hl : (cutA a n k).length=16:=by rw [cutA_len,HA.out]
   obtain ⟨c1,c2⟩:=hat.cell (k:=k) (by omega)
   rw [cutA_at a n k k (Nat.le_refl _)] at c1
   have hx:=(a.getD k 0).toNat_lt
   have i1 : (k : Int) < 16:=by omega
   have i0 : (0 : Int)≤(k : Int):=by omega
   have HF : Hid (∀ v w2,B8 (keepB (a.getD k 0) ((n : Int) - 8 * (k : Int)))=v→(wr.setCell ⟨w.heap.size,k,none⟩ v=w2∨(wr.setCell ⟨w.heap.size,k,none⟩ v).drew=w2)→∃ k2 : Nat,k2≤16∧(.int .i64 ((k : Int) + 1) : Value)=.int .i64 k2∧AddrAt w2 w.heap.size (cutA a n k2)∧w2.heap[w.heap.size + 1]?=some (.cells (List.replicate 16 (Value.int .u8 0)).toArray 68 (0,0))∧Below w.heap.size w w2):=fun v w2 hv hw=>by
    subst hv
    have h1:=hat.set k (keepB (a.getD k 0) ((n : Int) - 8 * (k : Int)))
    have h2 : (wr.setCell ⟨w.heap.size,k,none⟩ (B8 (keepB (a.getD k 0) ((n : Int) - 8 * (k : Int))))).heap[w.heap.size + 1]?=some (.cells (List.replicate 16 (Value.int .u8 0)).toArray 68 (0,0)):=by rw [Below.heap_setCell _ _ _ _ (by simp)]; exact hzb
    have h3:=hb.setCell (p:=⟨w.heap.size,k,none⟩) (Nat.le_refl _) (B8 (keepB (a.getD k 0) ((n : Int) - 8 * (k : Int))))
    rcases hw with rfl | rfl
    ·exact ⟨k + 1,by omega,by go_num,h1,h2,h3⟩
    ·exact ⟨k + 1,by omega,by go_num,h1,h2,h3.trans (Below.refl _ _).drew⟩
   have HS : Hid (∀ v,(∃ k2 : Nat,k2≤16∧(.int .i64 ((k : Int) + 1) : Value)=.int .i64 k2∧AddrAt wr w.heap.size (cutA a n k2)∧wr.heap[w.heap.size + 1]?=some (.cells (List.replicate 16 (Value.int .u8 0)).toArray 68 (0,0))∧Below w.heap.size w wr)∨B8 (keepB (a.getD k 0) ((n : Int) - 8 * (k : Int))) ≠ v∨v ≠ B8 (a.getD k 0)):=fun v=>by
    by_cases e1 : B8 (keepB (a.getD k 0) ((n : Int) - 8 * (k : Int)))=v
    ·by_cases e2 : v=B8 (a.getD k 0)
     ·refine Or.inl ⟨k + 1,by omega,by go_num,?_,hzb,hb⟩
      have e3 : keepB (a.getD k 0) ((n : Int) - 8 * (k : Int))=a.getD k 0:=by
       have:=e1.trans e2
       injection this with _ h
       exact UInt8.toNat_inj.1 (by omega)
      rw [cutA,e3,← cutA_at a n k k (Nat.le_refl _),List.getD_eq_getElem?_getD,List.getElem?_eq_getElem (by omega)]
      simpa using hat
     ·exact Or.inr (Or.inr e2)
    ·exact Or.inr (Or.inl e1)
   clear hat hzb hb
   generalize a.getD k 0=y at c1 hx HF HS
   by_cases h1 : (n : Int) - 8 * (k : Int)≤0
   ·have HV : Hid (B8 (keepB y ((n : Int) - 8 * (k : Int)))=.int .u8 0):=by
     show _=_
     unfold keepB; rw [if_pos h1]; rfl
    go_wp2
    go_roundw
    case rel=>exact HF.out _ _ HV.out (Or.inl rfl)
    case measure=>simp [intOf]; omega
   ·obtain ⟨l,hl2⟩ : ∃ l : Nat,(n : Int) - 8 * (k : Int)=(l : Int):=⟨((n : Int) - 8 * (k : Int)).toNat,by omega⟩
    have hl0 : ¬ (l : Int)≤0:=by omega
    rw [hl2] at HF HS
    by_cases h8 : l < 8
    ·have i8 : (l : Int) < 8:=by omega
     have HV : Hid (B8 (keepB y (l : Int))=.int .u8 (bits .and .u8 (y.toNat : Int) (255 * 2 ^ (8 - l) % 256))):=by
      show _=_
      rw [and_keep _ l (by omega) h8]
     clear h1
     go_wp2
     go_region
     go_wp2
     go_roundw
     case rel=>exact HF.out _ _ HV.out (Or.inr rfl)
     case measure=>simp [intOf]; omega
    ·have i8 : ¬ (l : Int) < 8:=by omega
     have HV : Hid (B8 (keepB y (l : Int))=B8 y):=by
      show _=_
      unfold keepB; rw [if_neg (by omega),if_neg (by omega)]
     clear h1
     go_wp2
     go_roundw
     case rel=>exact (HS.out (B8 y)).resolve_right (fun h=>h.elim (fun h=>h HV.out) (fun h=>h rfl))
     case measure=>simp [intOf]; omega
  ·obtain rfl : k=16:=by omega
   have i1 : ¬ ((16 : Nat) : Int) < 16:=by omega
   have hl : (firstA a n).length=16:=by unfold firstA; rw [cutA_len,HA.out]
   rw [show cutA a n 16=firstA a n from rfl] at hat
   obtain ⟨c,hc⟩ : ∃ c,firstA a n=c:=⟨_,rfl⟩
   rw [hc] at hl hat
   have HC9:=Lib.hid hc
   clear hc
   have HL:=Lib.hid hl
   have HAT:=Lib.hid hat
   have HB:=Lib.hid hb
   have HSZ:=Lib.hid (size23_of HL.out)
   have HTH:=Lib.hid (there_of hzb (n:=(c.map B8).toArray.size) (by simp [hl]))
   have HSC:=Lib.hid (size23a HL.out)
   have HALL:=Lib.hid (all_oneCell_toArray (cs:=c.map B8) (fun v hv=>by simp only [List.mem_map] at hv; obtain ⟨x,_,rfl⟩:=hv; rfl))
   have HZB:=Lib.hid hzb
   clear hl hat hzb hb
   go_wp2_with (first | (refine wpList_load_mid rfl 68 (.tmp 2) rfl w.heap.size 0 rfl (c.map B8) _ HAT.out.range Tryz.underlying68 rfl HSZ.out ?_) | (refine wpList_store_mid rfl 68 (.tmp 4) (.tmp 31) rfl (w.heap.size + 1) 0 (c.map B8).toArray rfl rfl HTH.out HSC.out HALL.out ?_; generalize hw3 : World.setCells _ _ _ _=w3; refine Hid.out ?_) | fail)
   refine Lib.hid ?_
   obtain ⟨hn3,hk3,_⟩:=addr_put HZB.out (by simp) HL.out hw3
   go_wp2
   exact bodyPost_ret (results_addr Tryz.results178 rfl hn3 HL.out) rfl ⟨by rw [HC9.out],HB.out.trans (hk3.below (by simp) (heap_lt HZB.out))⟩
end Go.Proofs.YtghnopkgcgfcpaaGreatDoor.Cidr
namespace Go.Proofs.YtghnopkgcgfcpaaGreatDoor.Cidr
open Go.RowKit Base
theorem cutA_lt (a : List UInt8) (n : Int) : ∀ (k i : Nat),i < k→i < a.length→(cutA a n k).getD i 0=keepB (a.getD i 0) (n - 8 * (i : Int))
 | 0,_,h,_=>by omega
 | k + 1,i,h,hl=>by
  rw [cutA,List.getD_eq_getElem?_getD]
  by_cases e : k=i
  ·subst e
   rw [List.getElem?_set_self (by rw [cutA_len]; exact hl)]; rfl
  ·rw [List.getElem?_set_ne e,← List.getD_eq_getElem?_getD,cutA_lt a n k i (by omega) hl]
theorem firstA_len (a : List UInt8) (n : Int) : (firstA a n).length=a.length:=cutA_len a n 16
theorem byte_bits (x y : UInt8) (h : ∀ j,j < 8→x.toNat / 2 ^ (7 - j) % 2=y.toNat / 2 ^ (7 - j) % 2) : x=y:=by
 have e : ∀ z : Fin 256,z.val=z.val / 2 ^ 7 % 2 * 128 + z.val / 2 ^ 6 % 2 * 64 + z.val / 2 ^ 5 % 2 * 32 + z.val / 2 ^ 4 % 2 * 16 + z.val / 2 ^ 3 % 2 * 8 + z.val / 2 ^ 2 % 2 * 4 + z.val / 2 ^ 1 % 2 * 2 + z.val / 2 ^ 0 % 2:=by decide +kernel
 have hx:=e ⟨x.toNat,x.toNat_lt⟩
 have hy:=e ⟨y.toNat,y.toNat_lt⟩
 have h0:=h 0 (by omega); have h1:=h 1 (by omega); have h2:=h 2 (by omega); have h3:=h 3 (by omega)
 have h4:=h 4 (by omega); have h5:=h 5 (by omega); have h6:=h 6 (by omega); have h7:=h 7 (by omega)
 simp only at hx hy h0 h1 h2 h3 h4 h5 h6 h7
 apply UInt8.toNat_inj.1
 rw [hx,hy,h0,h1,h2,h3,h4,h5,h6,h7]
theorem keep_bit (x : UInt8) (l : Int) (j : Nat) (hj : j < 8) : (keepB x l).toNat / 2 ^ (7 - j) % 2=if (j : Int) < l then x.toNat / 2 ^ (7 - j) % 2 else 0:=by
 unfold keepB
 split
 ·rw [if_neg (by omega)]; simp
 ·split
  ·obtain ⟨k,rfl⟩:=Int.eq_ofNat_of_zero_le (show 0≤l by omega)
   have e : ∀ (z : Fin 256) (k : Fin 8) (j : Fin 8),(z.val / 2 ^ (8 - k.val) * 2 ^ (8 - k.val) % 256) / 2 ^ (7 - j.val) % 2=if j.val < k.val then z.val / 2 ^ (7 - j.val) % 2 else 0:=by decide +kernel
   have:=e ⟨x.toNat,x.toNat_lt⟩ ⟨k,by omega⟩ ⟨j,hj⟩
   simp only at this
   rw [show (8 - (k : Int)).toNat=8 - k by omega]
   rw [show (UInt8.ofNat (x.toNat / 2 ^ (8 - k) * 2 ^ (8 - k))).toNat=x.toNat / 2 ^ (8 - k) * 2 ^ (8 - k) % 256 by simp,this]
   by_cases h : j < k
   ·rw [if_pos h,if_pos (by omega)]
   ·rw [if_neg h,if_neg (by omega)]
  ·rw [if_pos (by omega)]
theorem bit_first (a : List UInt8) (ha : a.length=16) (n j : Nat) (hj : j < 128) : bitA (firstA a n) j=if j < n then bitA a j else 0:=by
 unfold bitA firstA
 rw [cutA_lt a n 16 (j / 8) (by omega) (by omega),keep_bit _ _ _ (by omega)]
 by_cases h : j < n
 ·rw [if_pos h,if_pos (by omega)]
 ·rw [if_neg h,if_neg (by omega)]
theorem addr_ext {a b : List UInt8} (ha : a.length=16) (hb : b.length=16) : a=b ↔ ∀ j,j < 128→bitA a j=bitA b j:=by
 constructor
 ·rintro rfl _ _; rfl
 ·intro h
  apply List.ext_getElem (by omega)
  intro i h1 h2
  have e : a.getD i 0=b.getD i 0:=byte_bits _ _ fun j hj=>by
   have:=h (8 * i + j) (by omega)
   unfold bitA at this
   rwa [show (8 * i + j) / 8=i by omega,show (8 * i + j) % 8=j by omega] at this
  simpa [List.getD,List.getElem?_eq_getElem h1,List.getElem?_eq_getElem h2] using e
theorem zeroF_iff (a : List UInt8) : ∀ (n k : Nat),zeroF a n k=true ↔ ∀ j,k≤j→j < k + n→bitA a j=0
 | 0,k=>by simp [zeroF]; omega
 | n + 1,k=>by
  rw [zeroF,Bool.and_eq_true,zeroF_iff a n (k + 1),beq_iff_eq]
  constructor
  ·rintro ⟨h1,h2⟩ j hj hk
   by_cases e : j=k
   ·rw [e]; exact h1
   ·exact h2 j (by omega) (by omega)
  ·intro h
   exact ⟨h k (by omega) (by omega),fun j hj hk=>h j (by omega) (by omega)⟩
theorem zeroFrom_iff (a : List UInt8) (k : Nat) : zeroFrom a k=true ↔ ∀ j,k≤j→j < 128→bitA a j=0:=by
 unfold zeroFrom
 rw [zeroF_iff]
 constructor
 ·intro h j h1 h2; exact h j h1 (by omega)
 ·intro h j h1 h2; exact h j h1 (by omega)
theorem first_right (a : List UInt8) (ha : a.length=16) (n : Nat) : decide (firstA a n=a)=zeroFrom a n:=by
 rw [Bool.eq_iff_iff,decide_eq_true_iff,addr_ext (by rw [firstA_len,ha]) ha,zeroFrom_iff]
 constructor
 ·intro h j h1 h2
  have:=h j h2
  rw [bit_first a ha n j h2,if_neg (by omega)] at this
  exact this.symm
 ·intro h j hj
  rw [bit_first a ha n j hj]
  split
  ·rfl
  ·exact (h j (by omega) hj).symm
end Go.Proofs.YtghnopkgcgfcpaaGreatDoor.Cidr
