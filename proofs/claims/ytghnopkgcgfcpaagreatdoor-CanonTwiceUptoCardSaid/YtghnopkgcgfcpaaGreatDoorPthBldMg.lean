/-
  MERGED by mergefill.py: PthBld, PthTabS, PthBuild, PthBO, PthBS, PthLF, PthRep.
-/
import Derived.Test.YtghnopkgcgfcpaaGreatDoorPthRepPMg
import Derived.Deep.WholeRow
import Derived.Test.YtghnopkgcgfcpaaGreatDoorPthQuoMg
import Derived.Test.YtghnopkgcgfcpaaGreatDoorShelfMg
import Derived.Deep.CutBlock
import Derived.Deep.DeepCutAuto
import Derived.Deep.CutRange
namespace Go.Proofs.YtghnopkgcgfcpaaGreatDoor.Path
open Go.RowKit Base
def tabL (v : Value) : List Value:=(List.replicate 257 (Value.slice none 0 0)).set 256 v
def tabT (v : Value) : Obj:=.cells (tabL v).toArray 280
theorem infoS : (Tryz.prog.info? 9).map (fun i=>(i.zero,i.size,i.bytes))=some (some (.string ⟨#[]⟩),1,16):=by kernel_rfl
theorem info_tab : (Tryz.prog.info? 280).map (·.size)=some 257:=by kernel_rfl
theorem zc_list : Tryz.zeroCells280.toList=List.replicate 257 (Value.slice none 0 0):=by kernel_rfl
theorem zc_size : Tryz.zeroCells280.size=257:=by rw [← Array.length_toList,zc_list,List.length_replicate]
theorem tab_len (v : Value) : (tabL v).length=257:=by unfold tabL; rw [List.length_set,List.length_replicate]
theorem tab_one (a : Option Addr) (n c : Nat) : ∀ v ∈ tabL (.slice a n c),v.oneCell'=true:=by
 intro v hv
 unfold tabL at hv
 rcases List.mem_or_eq_of_mem_set hv with h | h
 ·rw [List.eq_of_mem_replicate h]; rfl
 ·rw [h]; rfl
theorem tab_at (v : Value) (c : Nat) (hc : c < 256) : (tabL v)[c]?=some (.slice none 0 0):=by
 unfold tabL
 rw [List.getElem?_set_ne (by omega),List.getElem?_replicate,if_pos (by omega)]
theorem tab_last (v : Value) : (tabL v)[256]?=some v:=by
 unfold tabL
 rw [List.getElem?_set_self (by rw [List.length_replicate]; omega)]
theorem store_tab (W : World) (a : Option Addr) (n c : Nat) : (storeCells ⟨W.heap.size,0,none⟩ (Tryz.zeroCells280.toList.set 256 (.slice a n c))).run Tryz.prog (W.alloc (.cells Tryz.zeroCells280 280))=.ok () (W.alloc (tabT (.slice a n c))):=by
 have h:=run_storeCells_new (P:=Tryz.prog) W 280 Tryz.zeroCells280 (tabL (.slice a n c)).toArray (by rw [info_tab,List.size_toArray,tab_len]) (by rw [zc_size,List.size_toArray,tab_len]) (by
  rw [List.all_toArray,List.all_eq_true]; exact tab_one a n c)
 rw [zc_list]
 exact h
theorem tab_cells (W : World) (v : Value) : (∀ c,c < 256→(W.alloc (tabT v)).cell? ⟨W.heap.size,c,none⟩=some (.slice none 0 0))∧(W.alloc (tabT v)).cell? ⟨W.heap.size,256,none⟩=some v∧∀ c,(W.alloc (tabT v)).frozen? ⟨W.heap.size,c,none⟩=false:=by
 have hh : (W.alloc (tabT v)).heap[W.heap.size]?=some (.cells (tabL v).toArray 280 (0,0)):=(MapKept.heap_alloc W _).1
 refine ⟨fun c hc=>?_,?_,fun c=>?_⟩
 ·unfold World.cell?; rw [hh]
  show (tabL v).toArray[c]?=_
  rw [List.getElem?_toArray,tab_at v c hc]
 ·unfold World.cell?; rw [hh]
  show (tabL v).toArray[256]?=_
  rw [List.getElem?_toArray,tab_last]
 ·unfold World.frozen?; rw [hh]; simp
end Go.Proofs.YtghnopkgcgfcpaaGreatDoor.Path
namespace Go.Proofs.YtghnopkgcgfcpaaGreatDoor.Path
open Go.RowKit Base
structure TabSt (W wx : World) (g m n : Nat) (strs : List Value) (row : Nat→Value) : Prop where
 cell : ∀ c,c < 256→wx.cell? ⟨g,c,none⟩=some (row c)
 list : wx.cell? ⟨g,256,none⟩=some (.slice (some ⟨W.heap.size,0,none⟩) m 2)
 free : ∀ c,wx.frozen? ⟨g,c,none⟩=false
 own : wx.ownsRow W.heap.size 9 1 (.slice (some ⟨W.heap.size,0,none⟩) n 2) n strs
 below : Below W.heap.size W wx
 low : W.heap.size < g
 high : g < wx.heap.size
theorem TabSt.new {W w1 : World} (ho : w1.ownsRow W.heap.size 9 1 (.slice (some ⟨W.heap.size,0,none⟩) 0 2) 0 []) (hg : W.grownBy w1 none) :
  TabSt W (w1.alloc (tabT (.slice (some ⟨W.heap.size,0,none⟩) 0 2))) w1.heap.size 0 0 [] (fun _=>.slice none 0 0):=by
 obtain ⟨h1,h2,h3⟩:=tab_cells w1 (.slice (some ⟨W.heap.size,0,none⟩) 0 2)
 have hb : Below W.heap.size W w1:=(Below.refl _ _).grown hg (Nat.le_refl _) (fun k hk=>by cases hk)
 have hlt:=(ho.lt W.heap.size rfl).2
 exact ⟨h1,h2,h3,ho.alloc _,hb.alloc hb.size _,hlt,by show _ < (w1.heap.push _).size; rw [Array.size_push]; exact Nat.lt_succ_self _⟩
theorem TabSt.on {W wx w' : World} {g m n : Nat} {strs : List Value} {row : Nat→Value} (h : TabSt W wx g m n strs row) (hb : Below wx.heap.size wx w') : TabSt W w' g m n strs row:=by
 have hblk:=hb.block g h.high
 refine ⟨fun c hc=>?_,?_,fun c=>?_,?_,h.below.trans (hb.mono h.below.size),h.low,Nat.lt_of_lt_of_le h.high hb.size⟩
 ·have:=h.cell c hc; unfold World.cell? at this ⊢; rw [hblk]; exact this
 ·have:=h.list; unfold World.cell? at this ⊢; rw [hblk]; exact this
 ·have:=h.free c; unfold World.frozen? at this ⊢; rw [hblk]; exact this
 ·obtain ⟨e1,e2⟩:=h.own
  refine ⟨e1,?_⟩
  rcases e2 with ⟨e3,_⟩ | ⟨k,cap,cur,e3,e4,e5,e6⟩
  ·cases e3
  ·exact Or.inr ⟨k,cap,cur,e3,e4,by rw [hb.block k (heap_lt e5)]; exact e5,e6⟩
theorem TabSt.app {W wx w' : World} {g m n n' : Nat} {strs strs' : List Value} {row : Nat→Value} (h : TabSt W wx g m n strs row) (ho : w'.ownsRow W.heap.size 9 1 (.slice (some ⟨W.heap.size,0,none⟩) n' 2) n' strs') (hg : wx.grownBy w' (some W.heap.size)) : TabSt W w' g m n' strs' row:=by
 have hblk : w'.heap[g]?=wx.heap[g]?:=hg.block g h.high (fun e=>by injection e with e; have:=h.low; omega)
 refine ⟨fun c hc=>?_,?_,fun c=>?_,ho,h.below.grown hg h.below.size (fun k hk=>by injection hk with hk; omega),h.low,Nat.lt_of_lt_of_le h.high hg.size⟩
 ·have:=h.cell c hc; unfold World.cell? at this ⊢; rw [hblk]; exact this
 ·have:=h.list; unfold World.cell? at this ⊢; rw [hblk]; exact this
 ·have:=h.free c; unfold World.frozen? at this ⊢; rw [hblk]; exact this
theorem TabSt.set {W wx : World} {g m n m' : Nat} {strs : List Value} {row : Nat→Value} (h : TabSt W wx g m n strs row) : TabSt W (wx.setCell ⟨g,256,none⟩ (.slice (some ⟨W.heap.size,0,none⟩) m' 2)) g m' n strs row:=by
 have hk:=KeepX.set g wx 256 (.slice (some ⟨W.heap.size,0,none⟩) m' 2)
 refine ⟨fun c hc=>?_,World.cell?_setCell_same _ _ _ h.list,fun c=>?_,?_,h.below.trans (hk.below (Nat.le_of_lt h.low) h.high),h.low,Nat.lt_of_lt_of_le h.high hk.size⟩
 ·rw [World.cell?_setCell_other _ _ _ _ (fun e=>by injection e with _ e; omega)]; exact h.cell c hc
 ·rw [World.frozen?_setCell]; exact h.free c
 ·obtain ⟨e1,e2⟩:=h.own
  refine ⟨e1,?_⟩
  rcases e2 with ⟨e3,_⟩ | ⟨k,cap,cur,e3,e4,e5,e6⟩
  ·cases e3
  ·exact Or.inr ⟨k,cap,cur,e3,e4,by rw [hk.block k (heap_lt e5) (fun e=>by injection e3 with e3; injection e3 with e3; injection e3 with e3; have:=h.low; omega)]; exact e5,e6⟩
theorem TabSt.put {W wx : World} {g m n : Nat} {strs : List Value} {row : Nat→Value} (h : TabSt W wx g m n strs row) (p : Nat) (hp : p < 256) (v : Value) : TabSt W (wx.setCell ⟨g,p,none⟩ v) g m n strs (fun c=>if c=p then v else row c):=by
 have hk:=KeepX.set g wx p v
 refine ⟨fun c hc=>?_,?_,fun c=>?_,?_,h.below.trans (hk.below (Nat.le_of_lt h.low) h.high),h.low,Nat.lt_of_lt_of_le h.high hk.size⟩
 ·by_cases e : c=p
  ·subst e; simp only [if_true]; exact World.cell?_setCell_same _ _ _ (h.cell c hc)
  ·simp only [if_neg e]; rw [World.cell?_setCell_other _ _ _ _ (fun e2=>by injection e2 with _ e2; omega)]; exact h.cell c hc
 ·rw [World.cell?_setCell_other _ _ _ _ (fun e=>by injection e with _ e; omega)]; exact h.list
 ·rw [World.frozen?_setCell]; exact h.free c
 ·obtain ⟨e1,e2⟩:=h.own
  refine ⟨e1,?_⟩
  rcases e2 with ⟨e3,_⟩ | ⟨k,cap,cur,e3,e4,e5,e6⟩
  ·cases e3
  ·exact Or.inr ⟨k,cap,cur,e3,e4,by rw [hk.block k (heap_lt e5) (fun e=>by injection e3 with e3; injection e3 with e3; injection e3 with e3; have:=h.low; omega)]; exact e5,e6⟩
end Go.Proofs.YtghnopkgcgfcpaaGreatDoor.Path
set_option maxHeartbeats 16000000
set_option maxRecDepth 100000
namespace Go.Proofs.YtghnopkgcgfcpaaGreatDoor.Path
open Go.RowKit Base
theorem one_cell {w : World} {k : Nat} {v u : Value} {t : TypeId} (h : w.heap[k]?=some (.cells #[v] t (0,0))) {j : Nat} (hj : [v][j]?=some u) : w.cell? ((⟨k,0,none⟩ : Addr).add j)=some u:=by
 have hj0 : j=0:=by
  have:=(List.getElem?_eq_some_iff.1 hj).1
  simp at this; exact this
 subst hj0
 unfold World.cell? Addr.add
 simp only [if_true]
 rw [h]
 exact hj
theorem one_cell1 {u : Value} {s : ByteArray} (h : u ∈ [Value.string s]) : u.oneCell'=true:=by
 rw [List.mem_singleton] at h; subst h; rfl
theorem alloc_size (w : World) (o : Obj) : (w.alloc o).heap.size=w.heap.size + 1:=by show (w.heap.push o).size=_; rw [Array.size_push]
def strC (w : World) (s : ByteArray) : Nat:=grownCap w s.size 0 5
def strO (w : World) (s : ByteArray) : Obj:=.cells (bytesRow s (strC w s)) 5 ((bytesRow s (strC w s)).size,(bytesRow s (strC w s)).size + 1)
theorem str_conv (w : World) (s : ByteArray) : (convert 9 86 (.string s)).run Tryz.prog w=.ok (.slice (some ⟨w.heap.size,0,none⟩) s.size (strC w s)) (w.drew.alloc (strO w s)) :=
 run_bytes_of_string w 9 86 5 s Tryz.underlying9 Tryz.underlying86 Tryz.underlying5
theorem str_reads (w : World) (s : ByteArray) : Reads (w.drew.alloc (strO w s)) (.slice (some ⟨w.heap.size,0,none⟩) s.size (strC w s)) s.data.toList:=reads_bytes w s (strC w s) (grownCap_ge _ _ _ _) _ _
theorem keep_grown {w w' : World} {A : Nat} (h : w.grownBy w' (some A)) : KeepX A w w':=⟨h.os,h.tape,h.output,h.size,fun k hk hne=>h.block k hk (fun e=>hne (by cases e; rfl))⟩
theorem set_size (w : World) (a : Addr) (v : Value) : (w.setCell a v).heap.size=w.heap.size:=by simp
def RepSt (W wx : World) (g k : Nat) : Prop:=match k with
 | 0=>TabSt W wx g 0 0 [] (fun _=>.slice none 0 0)
 | 1=>∃ c2 a2,TabSt W wx g 1 1 [.string ⟨#[92]⟩] (fun c=>if c=92 then .slice (some ⟨a2,0,none⟩) 2 c2 else .slice none 0 0)∧Reads wx (.slice (some ⟨a2,0,none⟩) 2 c2) [92,92]∧W.heap.size < a2∧g ≠ a2
 | _=>∃ c1 a1 c2 a2,TabSt W wx g 2 2 [.string ⟨#[92]⟩,.string ⟨#[34]⟩] (fun c=>if c=34 then .slice (some ⟨a1,0,none⟩) 2 c1 else if c=92 then .slice (some ⟨a2,0,none⟩) 2 c2 else .slice none 0 0)∧Reads wx (.slice (some ⟨a1,0,none⟩) 2 c1) [92,34]∧Reads wx (.slice (some ⟨a2,0,none⟩) 2 c2) [92,92]∧W.heap.size < a1∧W.heap.size < a2
theorem pBuild (b o c : Nat) (W : World) (hW : W.heap[b]?=some (onceO 0 1 .nilIface (.slice (some ⟨o,0,none⟩) 4 c)))
  (h0 : W.cell? ⟨o,0,none⟩=some (.string ⟨#[34]⟩)) (h1 : W.cell? ⟨o,1,none⟩=some (.string ⟨#[92,34]⟩)) (h2 : W.cell? ⟨o,2,none⟩=some (.string ⟨#[92]⟩)) (h3 : W.cell? ⟨o,3,none⟩=some (.string ⟨#[92,92]⟩)) :
  Calls Tryz.prog 200 #[.pointer (some ⟨b,0,none⟩)] W fun e w'=>∃ g A c1 c2 a1 a2,e=.returned (.iface 281 (.pointer (some ⟨g,0,none⟩)))∧RepAt w' g A c1 c2 a1 a2∧W.heap.size≤g∧W.heap.size≤A∧W.heap.size≤a1∧W.heap.size≤a2∧Below W.heap.size W w':=by
 obtain ⟨z0,z1,z3,z4,zf⟩:=five_cells hW
 have hob:=cell_lt h0
 have HW:=Lib.hid hW
 have HO : Hid (W.cell? ⟨o,0,none⟩=some (.string ⟨#[34]⟩)∧W.cell? ⟨o,1,none⟩=some (.string ⟨#[92,34]⟩)∧W.cell? ⟨o,2,none⟩=some (.string ⟨#[92]⟩)∧W.cell? ⟨o,3,none⟩=some (.string ⟨#[92,92]⟩)):=⟨h0,h1,h2,h3⟩
 clear hW
 go_enter Tryz.func200,Tryz.ntmps200
 go_wp2
 go_loop [4,5] (fun all i=>∃ k : Nat,k≤2∧i=.int .i64 (2 * (k : Int))∧all=.bool (decide (k=0))) (fun _ i=>4 - (intOf i).toNat)
 case atStart=>exact ⟨0,by omega,rfl,rfl⟩
 case round =>
  obtain ⟨k,hk,rfl,rfl⟩:=hrel
  rcases (by omega : k=0∨k=1∨k=2) with rfl | rfl | rfl
  ·go_wp2
   go_round
   case rel=>exact ⟨1,by omega,rfl,rfl⟩
   case measure=>simp [intOf]
  ·go_wp2
   go_round
   case rel=>exact ⟨2,by omega,rfl,rfl⟩
   case measure=>simp [intOf]
  ·obtain ⟨i0,hi,hz0,hz1,hz2⟩:=info_parts infoS
   have hst:=store_tab
   have qT : ∀ (w : World) (a : Option Addr) (n c n' c' : Nat),(binOp .eql 86 (.slice a n c) (.slice none n' c')).run Tryz.prog w=.ok (.bool a.isNone) w:=fun w a n c n' c'=>Lib.run_eql_slice_nil w _ _ a n c n' c' Tryz.underlying86
   go_wp2_with (first | (at_make; refine wpList_make_own _ rfl _ _ 22 rfl W.heap.size 9 i0 (.string ⟨#[]⟩) 1 Tryz.underlying22 hi hz0 hz1 .i64 .i64 _ 2 rfl rfl rfl (by rw [hz2]; omega) (by unfold maxLen; omega) (Nat.le_refl _) ?_; intro w1 hown1 hg1; refine Hid.out ?_) | fail)
   refine Lib.hid ?_
   have HT1:=Lib.hid (TabSt.new hown1 hg1)
   clear hg1 hown1
   go_wp2
   go_loopw [12] (fun i wx=>∃ k : Nat,k≤2∧i=.int .i64 (2 - 2 * (k : Int))∧Hid (RepSt W wx w1.heap.size k)) (fun i _=>(intOf i + 2).toNat)
   case atStart=>exact ⟨0,by omega,rfl,HT1.out⟩
   case round =>
    obtain ⟨k,hk,rfl,hS⟩:=hrel
    clear HT1 hst
    rcases (by omega : k=0∨k=1∨k=2) with rfl | rfl | rfl
    ·have HT : Hid (TabSt W wr w1.heap.size 0 0 [] (fun _=>.slice none 0 0)):=hS
     clear hS
     obtain ⟨k0,k1,k2,k3⟩:=HO.out
     have HB:=HT.out.below
     have y0:=cell_on k0 HB
     have y1:=cell_on k1 HB
     have y2:=cell_on k2 HB
     have y3:=cell_on k3 HB
     have t0:=HT.out.cell 92 (by omega)
     have t1:=HT.out.list
     clear HB h0 h1 h2 h3 k0 k1 k2 k3
     have q92 : (({ data:=#[92] } : ByteArray)[0]'(by decide)).toNat=92:=rfl
     have hcv : (convert 86 9 (.slice (some ⟨wr.heap.size,0,none⟩) 1 1)).run Tryz.prog (wr.alloc (Obj.cells #[Value.int IntKind.u8 92] 5))=.ok (.string ⟨#[92]⟩) (wr.alloc (Obj.cells #[Value.int IntKind.u8 92] 5)):=conv_reads (reads_one wr 5 92 92 rfl)
     have HT2:=Lib.hid ((HT.out.on (Below.alloc1 wr (Obj.cells #[Value.int IntKind.u8 92] 5))).on (Below.alloc1 _ (Obj.cells #[Value.string ⟨#[92]⟩] 9)))
     have hp:=(MapKept.heap_alloc (wr.alloc (Obj.cells #[Value.int IntKind.u8 92] 5)) (Obj.cells #[Value.string ⟨#[92]⟩] 9)).1
     rw [alloc_size] at hp
     have HP:=Lib.hid hp
     clear hp
     go_wp2_with (first | (at_builtin; refine wpList_append_fits _ rfl _ _ 22 rfl W.heap.size 9 i0 1 Tryz.underlying22 hi hz1 W.heap.size 0 2 [] rfl HT2.out.own ⟨wr.heap.size + 1,0,none⟩ 1 1 [.string ⟨#[92]⟩] rfl rfl (fun j u hj=>one_cell HP.out hj) (fun u hu=>one_cell1 hu) (by omega) ?_; intro w5 hown5 hg5; refine Hid.out ?_) | fail)
     refine Lib.hid ?_
     have HT5:=Lib.hid (HT2.out.app (n':=1) (strs':=[.string ⟨#[92]⟩]) hown5 hg5)
     have HT6:=Lib.hid (HT5.out.set (m':=1))
     have HT7:=Lib.hid (HT6.out.on (Below.alloc1 (w5.setCell ⟨w1.heap.size,256,none⟩ (.slice (some ⟨W.heap.size,0,none⟩) 1 2)) (strO (w5.setCell ⟨w1.heap.size,256,none⟩ (.slice (some ⟨W.heap.size,0,none⟩) 1 2)) ⟨#[92,92]⟩)))
     have HRd : Hid (Reads ((w5.setCell ⟨w1.heap.size,256,none⟩ (.slice (some ⟨W.heap.size,0,none⟩) 1 2)).alloc (strO (w5.setCell ⟨w1.heap.size,256,none⟩ (.slice (some ⟨W.heap.size,0,none⟩) 1 2)) ⟨#[92,92]⟩)) (.slice (some ⟨w5.heap.size,0,none⟩) 2 (strC (w5.setCell ⟨w1.heap.size,256,none⟩ (.slice (some ⟨W.heap.size,0,none⟩) 1 2)) ⟨#[92,92]⟩)) [92,92]):=by
      have e:=str_reads (w5.setCell ⟨w1.heap.size,256,none⟩ (.slice (some ⟨W.heap.size,0,none⟩) 1 2)) ⟨#[92,92]⟩
      rw [set_size] at e
      exact e
     have hcb : ∀ w,(convert 9 86 (.string ⟨#[92,92]⟩)).run Tryz.prog w=.ok (.slice (some ⟨w.heap.size,0,none⟩) 2 (strC w ⟨#[92,92]⟩)) (w.drew.alloc (strO w ⟨#[92,92]⟩)):=fun w=>str_conv w _
     have u1:=HT5.out.list
     have u2:=HT5.out.free 256
     have u3:=HT7.out.cell 92 (by omega)
     have u4:=HT7.out.free 92
     have HL5:=Lib.hid (And.intro HT5.out.high (And.intro HT5.out.low HT5.out.below.size))
     clear hown5 hg5
     go_wp2
     go_roundw
     case rel =>
      obtain ⟨q1,q2,q3⟩:=HL5.out
      refine ⟨1,by omega,rfl,?_⟩
      show ∃ c2 a2,_∧_∧_∧_
      have h8:=(HT7.out.on (Below.refl _ _).drew).put 92 (by omega) (.slice (some ⟨w5.heap.size,0,none⟩) 2 (strC (w5.setCell ⟨w1.heap.size,256,none⟩ (.slice (some ⟨W.heap.size,0,none⟩) 1 2)) ⟨#[92,92]⟩))
      have h9:=(reads_keptX HRd.out rfl (Nat.ne_of_lt q1) (KeepX.set w1.heap.size _ 92 (.slice (some ⟨w5.heap.size,0,none⟩) 2 (strC (w5.setCell ⟨w1.heap.size,256,none⟩ (.slice (some ⟨W.heap.size,0,none⟩) 1 2)) ⟨#[92,92]⟩)))).drew
      exact ⟨_,_,h8,h9,Nat.lt_of_lt_of_le q2 (Nat.le_of_lt q1),Nat.ne_of_lt q1⟩
     case measure=>simp [intOf]
    ·have hS : ∃ c2 a2,TabSt W wr w1.heap.size 1 1 [.string ⟨#[92]⟩] (fun c=>if c=92 then .slice (some ⟨a2,0,none⟩) 2 c2 else .slice none 0 0)∧Reads wr (.slice (some ⟨a2,0,none⟩) 2 c2) [92,92]∧W.heap.size < a2∧w1.heap.size ≠ a2:=hS
     obtain ⟨c2,a2,HT,HRo,hlo,hne⟩:=hS
     have HT:=Lib.hid HT
     have HRo:=Lib.hid HRo
     have HNe : Hid (W.heap.size < a2∧w1.heap.size ≠ a2):=⟨hlo,hne⟩
     clear hlo hne
     clear hS
     obtain ⟨k0,k1,k2,k3⟩:=HO.out
     have HB:=HT.out.below
     have y0:=cell_on k0 HB
     have y1:=cell_on k1 HB
     have y2:=cell_on k2 HB
     have y3:=cell_on k3 HB
     have t0:=HT.out.cell 34 (by omega)
     have t1:=HT.out.list
     clear HB h0 h1 h2 h3 k0 k1 k2 k3
     have q92 : (({ data:=#[34] } : ByteArray)[0]'(by decide)).toNat=34:=rfl
     have hcv : (convert 86 9 (.slice (some ⟨wr.heap.size,0,none⟩) 1 1)).run Tryz.prog (wr.alloc (Obj.cells #[Value.int IntKind.u8 34] 5))=.ok (.string ⟨#[34]⟩) (wr.alloc (Obj.cells #[Value.int IntKind.u8 34] 5)):=conv_reads (reads_one wr 5 34 34 rfl)
     have HT2:=Lib.hid ((HT.out.on (Below.alloc1 wr (Obj.cells #[Value.int IntKind.u8 34] 5))).on (Below.alloc1 _ (Obj.cells #[Value.string ⟨#[34]⟩] 9)))
     have hp:=(MapKept.heap_alloc (wr.alloc (Obj.cells #[Value.int IntKind.u8 34] 5)) (Obj.cells #[Value.string ⟨#[34]⟩] 9)).1
     rw [alloc_size] at hp
     have HP:=Lib.hid hp
     clear hp
     go_wp2_with (first | (at_builtin; refine wpList_append_fits _ rfl _ _ 22 rfl W.heap.size 9 i0 1 Tryz.underlying22 hi hz1 W.heap.size 1 2 [.string ⟨#[92]⟩] rfl HT2.out.own ⟨wr.heap.size + 1,0,none⟩ 1 1 [.string ⟨#[34]⟩] rfl rfl (fun j u hj=>one_cell HP.out hj) (fun u hu=>one_cell1 hu) (by omega) ?_; intro w5 hown5 hg5; refine Hid.out ?_) | fail)
     refine Lib.hid ?_
     have HT5:=Lib.hid (HT2.out.app (n':=2) (strs':=[.string ⟨#[92]⟩,.string ⟨#[34]⟩]) hown5 hg5)
     have HT6:=Lib.hid (HT5.out.set (m':=2))
     have HT7:=Lib.hid (HT6.out.on (Below.alloc1 (w5.setCell ⟨w1.heap.size,256,none⟩ (.slice (some ⟨W.heap.size,0,none⟩) 2 2)) (strO (w5.setCell ⟨w1.heap.size,256,none⟩ (.slice (some ⟨W.heap.size,0,none⟩) 2 2)) ⟨#[92,34]⟩)))
     have HRd : Hid (Reads ((w5.setCell ⟨w1.heap.size,256,none⟩ (.slice (some ⟨W.heap.size,0,none⟩) 2 2)).alloc (strO (w5.setCell ⟨w1.heap.size,256,none⟩ (.slice (some ⟨W.heap.size,0,none⟩) 2 2)) ⟨#[92,34]⟩)) (.slice (some ⟨w5.heap.size,0,none⟩) 2 (strC (w5.setCell ⟨w1.heap.size,256,none⟩ (.slice (some ⟨W.heap.size,0,none⟩) 2 2)) ⟨#[92,34]⟩)) [92,34]):=by
      have e:=str_reads (w5.setCell ⟨w1.heap.size,256,none⟩ (.slice (some ⟨W.heap.size,0,none⟩) 2 2)) ⟨#[92,34]⟩
      rw [set_size] at e
      exact e
     have hcb : ∀ w,(convert 9 86 (.string ⟨#[92,34]⟩)).run Tryz.prog w=.ok (.slice (some ⟨w.heap.size,0,none⟩) 2 (strC w ⟨#[92,34]⟩)) (w.drew.alloc (strO w ⟨#[92,34]⟩)):=fun w=>str_conv w _
     have u1:=HT5.out.list
     have u2:=HT5.out.free 256
     have u3:=HT7.out.cell 34 (by omega)
     have u4:=HT7.out.free 34
     have HL5:=Lib.hid (And.intro HT5.out.high (And.intro HT5.out.low HT5.out.below.size))
     have HR5 : Hid (Reads w5 (.slice (some ⟨a2,0,none⟩) 2 c2) [92,92]):=reads_keptX ((HRo.out.on (Below.alloc1 wr _)).on (Below.alloc1 _ _)) rfl (Nat.ne_of_lt HNe.out.1) (keep_grown hg5)
     have HR7 : Hid (Reads ((w5.setCell ⟨w1.heap.size,256,none⟩ (.slice (some ⟨W.heap.size,0,none⟩) 2 2)).alloc (strO (w5.setCell ⟨w1.heap.size,256,none⟩ (.slice (some ⟨W.heap.size,0,none⟩) 2 2)) ⟨#[92,34]⟩)) (.slice (some ⟨a2,0,none⟩) 2 c2) [92,92]):=(reads_keptX HR5.out rfl HNe.out.2 (KeepX.set w1.heap.size _ 256 _)).on (Below.alloc1 _ _)
     clear hown5 hg5
     go_wp2
     go_roundw
     case rel =>
      obtain ⟨q1,q2,q3⟩:=HL5.out
      refine ⟨2,by omega,rfl,?_⟩
      show ∃ c1 a1 c2 a2,_∧_∧_∧_∧_
      have h8:=(HT7.out.on (Below.refl _ _).drew).put 34 (by omega) (.slice (some ⟨w5.heap.size,0,none⟩) 2 (strC (w5.setCell ⟨w1.heap.size,256,none⟩ (.slice (some ⟨W.heap.size,0,none⟩) 2 2)) ⟨#[92,34]⟩))
      have h9:=(reads_keptX HRd.out rfl (Nat.ne_of_lt q1) (KeepX.set w1.heap.size _ 34 (.slice (some ⟨w5.heap.size,0,none⟩) 2 (strC (w5.setCell ⟨w1.heap.size,256,none⟩ (.slice (some ⟨W.heap.size,0,none⟩) 2 2)) ⟨#[92,34]⟩)))).drew
      exact ⟨_,_,c2,a2,h8,h9,(reads_keptX HR7.out rfl HNe.out.2 (KeepX.set w1.heap.size _ 34 _)).drew,Nat.lt_of_lt_of_le q2 (Nat.le_of_lt q1),HNe.out.1⟩
     case measure=>simp [intOf]
    ·have hS : ∃ c1 a1 c2 a2,TabSt W wr w1.heap.size 2 2 [.string ⟨#[92]⟩,.string ⟨#[34]⟩] (fun c=>if c=34 then .slice (some ⟨a1,0,none⟩) 2 c1 else if c=92 then .slice (some ⟨a2,0,none⟩) 2 c2 else .slice none 0 0)∧Reads wr (.slice (some ⟨a1,0,none⟩) 2 c1) [92,34]∧Reads wr (.slice (some ⟨a2,0,none⟩) 2 c2) [92,92]∧W.heap.size < a1∧W.heap.size < a2:=hS
     obtain ⟨c1,a1,c2,a2,HT,HR1,HR2,hl1,hl2⟩:=hS
     have HE : Hid (RepAt wr w1.heap.size W.heap.size c1 c2 a1 a2):=⟨fun c hc=>HT.cell c hc,HT.list,HT.own.cellAt 0 (by omega),HT.own.cellAt 1 (by omega),HR1,HR2⟩
     have HF : Hid (Below W.heap.size W wr∧W.heap.size≤w1.heap.size∧W.heap.size≤a1∧W.heap.size≤a2):=⟨HT.below,Nat.le_of_lt HT.low,Nat.le_of_lt hl1,Nat.le_of_lt hl2⟩
     clear HT HR1 HR2 hl1 hl2
     go_wp2
     go_ret
     obtain ⟨f1,f2,f3,f4⟩:=HF.out
     exact ⟨_,_,c1,c2,a1,a2,rfl,HE.out,f2,Nat.le_refl _,f3,f4,f1⟩
end Go.Proofs.YtghnopkgcgfcpaaGreatDoor.Path
set_option maxHeartbeats 16000000
set_option maxRecDepth 100000
namespace Go.Proofs.YtghnopkgcgfcpaaGreatDoor.Path
open Go.RowKit Base
def FourAt (w : World) (o : Nat) : Prop:=w.cell? ⟨o,0,none⟩=some (.string ⟨#[34]⟩)∧w.cell? ⟨o,1,none⟩=some (.string ⟨#[92,34]⟩)∧w.cell? ⟨o,2,none⟩=some (.string ⟨#[92]⟩)∧w.cell? ⟨o,3,none⟩=some (.string ⟨#[92,92]⟩)
theorem pBuildOnce (b o c : Nat) (w : World) (hbo : b ≠ o) (hF : FourAt w o) : BuildOk b (.slice (some ⟨o,0,none⟩) 4 c) w:=by
 intro W hW hk
 obtain ⟨h0,h1,h2,h3⟩:=hF
 have C1:=Lib.hid (pBuild b o c W hW (cell_keptX h0 hbo hk) (cell_keptX h1 hbo hk) (cell_keptX h2 hbo hk) (cell_keptX h3 hbo hk))
 have HW:=Lib.hid hW
 clear h0 h1 h2 h3 hk hW
 go_enter Tryz.func169,Tryz.ntmps169
 go_wp2_with (first | (go_at_call 200; refine C1.out.mono ?_; rintro ee w1 ⟨g,A,c1,c2,a1,a2,rfl,hR,l1,l2,l3,l4,hb⟩; refine Hid.out ?_) | fail)
 refine Lib.hid ?_
 have hblk : w1.heap[b]?=some (onceO 0 1 .nilIface (.slice (some ⟨o,0,none⟩) 4 c)):=(hb.block b (heap_lt HW.out)).trans HW.out
 obtain ⟨z0,z1,z3,z4,zf⟩:=five_cells hblk
 have hlt:=heap_lt HW.out
 have q1:=(once_set hblk).2.2.1 (.iface 281 (.pointer (some ⟨g,0,none⟩)))
 have q2:=(once_set q1).2.2.2 (.slice none 0 0)
 have hk : KeepX b W ((w1.setCell ⟨b,3,none⟩ (.iface 281 (.pointer (some ⟨g,0,none⟩)))).setCell ⟨b,4,none⟩ (.slice none 0 0)):=(KeepX.of_below hb).trans ((KeepX.set b _ 3 _).trans (KeepX.set b _ 4 _))
 have hk1 : KeepX b w1 ((w1.setCell ⟨b,3,none⟩ (.iface 281 (.pointer (some ⟨g,0,none⟩)))).setCell ⟨b,4,none⟩ (.slice none 0 0)):=(KeepX.set b _ 3 _).trans (KeepX.set b _ 4 _)
 have HE : Hid (BuiltEnd b 0 1 W (.returned (.tuple #[])) ((w1.setCell ⟨b,3,none⟩ (.iface 281 (.pointer (some ⟨g,0,none⟩)))).setCell ⟨b,4,none⟩ (.slice none 0 0))) :=
  ⟨rfl,⟨g,A,c1,c2,a1,a2,q2,hR.keptX (by omega) (by omega) (by omega) (by omega) hk1,by omega,by omega,by omega,by omega⟩,hk⟩
 clear hblk q1 q2 hk hk1 hR hb
 go_wp2
 go_end0
 exact HE.out
end Go.Proofs.YtghnopkgcgfcpaaGreatDoor.Path
set_option maxHeartbeats 16000000
set_option maxRecDepth 100000
namespace Go.Proofs.YtghnopkgcgfcpaaGreatDoor.Path
open Go.RowKit Base
theorem buf_base {w w0 wr : World} {h N : Nat} {acc : List UInt8} (hb : Below h w w0) (h1 : Lib.Buf w0 wr h N acc) : Lib.Buf w wr h N acc:=⟨hb.trans h1.below,h1.there,h1.free,h1.holds,h1.fits⟩
theorem buf_drew {w wr : World} {h N : Nat} {acc : List UInt8} (h1 : Lib.Buf w wr h N acc) : Lib.Buf w wr.drew h N acc:=⟨h1.below.drew,h1.there,h1.free,h1.holds,h1.fits⟩
def cntK (l : List UInt8) (k : Nat) : Nat:=match k with
 | 0=>0
 | 1=>l.count 92
 | _=>l.count 92 + l.count 34
theorem cntK_le (l : List UInt8) (k : Nat) : cntK l k≤2 * l.length:=by
 have h1:=List.count_le_length (a:=(92 : UInt8)) (l:=l)
 have h2:=List.count_le_length (a:=(34 : UInt8)) (l:=l)
 unfold cntK
 split <;> omega
theorem bool_eq {a b : Bool} (h : a=b) : Value.bool a=.bool b:=by rw [h]
theorem pBSR (g A c1 c2 a1 a2 : Nat) (s : ByteArray) (w : World) (hR : RepAt w g A c1 c2 a1 a2) (hs : s.size≤1000000000) :
  Calls Tryz.prog 292 #[.pointer (some ⟨g,0,none⟩),.string s] w fun e w'=>e=.returned (.string ⟨(escB s.data.toList).toArray⟩)∧Below w.heap.size w w':=by
 obtain ⟨l,hll⟩ : ∃ l,l=s.data.toList:=⟨_,rfl⟩
 have hlen : l.length=s.size:=by rw [hll,str_len]
 have HLS : Hid (∀ k (h : k < s.size),l.getD k 0=s[k]):=fun k h=>by rw [hll]; exact str_get s k h
 have HL:=Lib.hid hlen
 have HS:=Lib.hid hll
 have HRp:=Lib.hid hR
 have z256:=hR.list
 have zl0:=hR.l0
 have zl1:=hR.l1
 have z34 : w.cell? ⟨g,34,none⟩=some (.slice (some ⟨a1,0,none⟩) 2 c1):=hR.row 34 (by omega)
 have z92 : w.cell? ⟨g,92,none⟩=some (.slice (some ⟨a2,0,none⟩) 2 c2):=hR.row 92 (by omega)
 have qT : ∀ (w : World) (a : Option Addr) (n c n' c' : Nat),(binOp .neq 86 (.slice a n c) (.slice none n' c')).run Tryz.prog w=.ok (.bool (!a.isNone)) w:=fun w a n c n' c'=>run_neq_slice_nil_any w _ _ a n c n' c' Tryz.underlying86
 rw [← hll]
 clear hR hlen hll
 go_enter Tryz.func292,Tryz.ntmps292
 go_upto_if 26 with fail
 go_cut [5,6,8,9,10,11,26] from 27 to 80 (fun n a _ _ _ _ _ wx=>n=.int .i64 ((s.size + l.countP isEsc : Nat) : Int)∧a=.bool (decide (l.countP isEsc ≠ 0))∧∃ q,wx=w.drewN q)
 case first =>
  generalize decide ((16 : Int)≤(s.size : Int))=bb
  cases bb with
  | true =>
   go_wp2
   go_loopw [5,6,32] (fun n a i wx=>∃ k q : Nat,k≤2∧n=.int .i64 ((s.size + cntK l k : Nat) : Int)∧a=.bool (decide (cntK l k ≠ 0))∧i=.int .i64 (k : Int)∧wx=w.drewN q) (fun _ _ i _=>2 - (intOf i).toNat)
   case atStart=>exact ⟨0,0,by omega,rfl,rfl,rfl,rfl⟩
   case round =>
    obtain ⟨k,q,hk,rfl,rfl,rfl,rfl⟩:=hrel
    rcases (by omega : k=0∨k=1∨k=2) with rfl | rfl | rfl
    ·go_wp2_with (first | (go_at_call 104; refine (Tryz.strings_Count_one s 92 _).mono ?_; rintro ee w1 ⟨rfl,hw⟩; subst w1; refine Hid.out ?_) | fail)
     refine Lib.hid ?_
     obtain ⟨cn,hcn⟩ : ∃ cn : Nat,cn=Lib.countByte s.data.toList 92:=⟨_,rfl⟩
     rw [← hcn]
     have HCN : Hid (cntK l 1=cntK l 0 + cn):=by
      have : cn=l.count 92:=by rw [hcn,HS.out]; rfl
      show _=_
      rw [this]; simp [cntK]
     have HCL : Hid (cntK l 0 + cn≤2 * s.size):=by
      have:=cntK_le l 1
      show _≤_
      rw [← HCN.out]; rw [HL.out] at this; exact this
     clear hcn
     by_cases hc : cn=0
     ·subst hc
      go_wp2
      go_roundw
      case rel=>exact ⟨1,q,by omega,by rw [HCN.out]; go_num,bool_eq (by rw [HCN.out]; simp),rfl,rfl⟩
      case measure=>simp [intOf]
     ·have e1 : ((cn : Int) != 0)=true:=by rw [bne_iff_ne]; omega
      have hcl:=HCL.out
      have q92 : (({ data:=#[92] } : ByteArray)[0]'(by decide)).toNat=92:=rfl
      go_wp2
      go_quiet (fail)
      go_wp2
      go_roundw
      case rel=>exact ⟨1,q + nq,by omega,by rw [HCN.out]; go_num,bool_eq (by rw [HCN.out]; simp; omega),rfl,by simp⟩
      case measure=>simp [intOf]
    ·go_wp2_with (first | (go_at_call 104; refine (Tryz.strings_Count_one s 34 _).mono ?_; rintro ee w1 ⟨rfl,hw⟩; subst w1; refine Hid.out ?_) | fail)
     refine Lib.hid ?_
     obtain ⟨cn,hcn⟩ : ∃ cn : Nat,cn=Lib.countByte s.data.toList 34:=⟨_,rfl⟩
     rw [← hcn]
     have HCN : Hid (cntK l 2=cntK l 1 + cn):=by
      have : cn=l.count 34:=by rw [hcn,HS.out]; rfl
      show _=_
      rw [this]; simp [cntK]
     have HCL : Hid (cntK l 1 + cn≤2 * s.size):=by
      have:=cntK_le l 2
      show _≤_
      rw [← HCN.out]; rw [HL.out] at this; exact this
     clear hcn
     by_cases hc : cn=0
     ·subst hc
      go_wp2
      go_roundw
      case rel=>exact ⟨2,q,by omega,by rw [HCN.out]; go_num,bool_eq (by rw [HCN.out]; simp),rfl,rfl⟩
      case measure=>simp [intOf]
     ·have e1 : ((cn : Int) != 0)=true:=by rw [bne_iff_ne]; omega
      have hcl:=HCL.out
      have q92 : (({ data:=#[34] } : ByteArray)[0]'(by decide)).toNat=34:=rfl
      go_wp2
      go_quiet (fail)
      go_wp2
      go_roundw
      case rel=>exact ⟨2,q + nq,by omega,by rw [HCN.out]; go_num,bool_eq (by rw [HCN.out]; simp; omega),rfl,by simp⟩
      case measure=>simp [intOf]
    ·have HE : Hid (cntK l 2=l.countP isEsc):=by show _=_; rw [esc_two]; rfl
     rw [HE.out]
     go_wp2
     go_meet
     case rel=>exact ⟨rfl,by simp,q,rfl⟩
  | false =>
   go_wp2
   go_loop [5,6,10] (fun n a i=>∃ k : Nat,k≤s.size∧n=.int .i64 ((s.size + (l.take k).countP isEsc : Nat) : Int)∧a=.bool (decide ((l.take k).countP isEsc ≠ 0))∧i=.int .i64 (k : Int)) (fun _ _ i=>s.size - (intOf i).toNat)
   case atStart=>exact ⟨0,by omega,rfl,rfl,rfl⟩
   case round =>
    obtain ⟨k,hk,rfl,rfl,rfl⟩:=hrel
    by_cases hlt : k < s.size
    ·have i0 : (0 : Int)≤(k : Int):=by omega
     have i1 : (k : Int) < (s.size : Int):=by omega
     have HG : Hid (l.getD k 0=s[k]):=HLS.out k hlt
     have HN : Hid ((l.take (k + 1)).countP isEsc=(l.take k).countP isEsc + (if isEsc (s[k]) then 1 else 0)):=by
      show _=_
      rw [cnt_next (by rw [HL.out]; exact hlt),HG.out]
     have HM : Hid ((l.take k).countP isEsc≤k):=by
      show _≤_
      exact Nat.le_trans List.countP_le_length (by rw [List.length_take]; omega)
     have hm:=HM.out
     generalize (l.take k).countP isEsc=m at HN hm
     have hb:=s[k].toNat_lt
     by_cases h34 : s[k]=34
     ·have zk : w.cell? ⟨g,s[k].toNat,none⟩=some (.slice (some ⟨a1,0,none⟩) 2 c1):=by rw [h34]; exact z34
      have HN2 : Hid ((l.take (k + 1)).countP isEsc=m + 1):=by show _=_; rw [HN.out,h34]; rfl
      clear h34 HN
      go_wp2
      go_round
      case rel=>exact ⟨k + 1,by omega,by rw [HN2.out]; go_num,bool_eq (by rw [HN2.out]; simp),by go_num⟩
      case measure=>simp [intOf]; omega
     ·by_cases h92 : s[k]=92
      ·have zk : w.cell? ⟨g,s[k].toNat,none⟩=some (.slice (some ⟨a2,0,none⟩) 2 c2):=by rw [h92]; exact z92
       have HN2 : Hid ((l.take (k + 1)).countP isEsc=m + 1):=by show _=_; rw [HN.out,h92]; rfl
       clear h34 h92 HN
       go_wp2
       go_round
       case rel=>exact ⟨k + 1,by omega,by rw [HN2.out]; go_num,bool_eq (by rw [HN2.out]; simp),by go_num⟩
       case measure=>simp [intOf]; omega
      ·have zk : w.cell? ⟨g,s[k].toNat,none⟩=some (.slice none 0 0):=by
        rw [HRp.out.row _ hb]
        unfold repV
        rw [if_neg (show ¬ s[k].toNat=34 from fun e=>h34 (UInt8.toNat_inj.1 e)),if_neg (show ¬ s[k].toNat=92 from fun e=>h92 (UInt8.toNat_inj.1 e))]
       have HN2 : Hid ((l.take (k + 1)).countP isEsc=m):=by
        show _=_
        have e : isEsc s[k]=false:=by unfold isEsc; rw [Bool.or_eq_false_iff]; exact ⟨beq_eq_false_iff_ne.2 h34,beq_eq_false_iff_ne.2 h92⟩
        rw [HN.out,e]; rfl
       clear h34 h92 HN
       go_wp2
       go_round
       case rel=>exact ⟨k + 1,by omega,by rw [HN2.out],bool_eq (by rw [HN2.out]),by go_num⟩
       case measure=>simp [intOf]; omega
    ·have i1 : ¬ (k : Int) < (s.size : Int):=by omega
     have HE : Hid ((l.take k).countP isEsc=l.countP isEsc):=by
      show _=_
      rw [List.take_of_length_le (by rw [HL.out]; omega)]
     rw [HE.out]
     go_wp2
     go_meet
     case rel=>exact ⟨rfl,by simp,0,rfl⟩
 case rest =>
  obtain ⟨rfl,rfl,q,rfl⟩:=hcut
  by_cases h0 : l.countP isEsc=0
  ·rw [h0]
   have HT : Hid ((⟨(escB l).toArray⟩ : ByteArray)=s):=by
    show _=_
    rw [esc_none h0,HS.out]
   clear h0
   go_wp2
   go_ret
   exact ⟨by rw [HT.out]; rfl,Below.drewN' w q⟩
  ·have e1 : (l.countP isEsc == 0)=false:=beq_eq_false_iff_ne.2 h0
   have HLE : Hid ((escB l).length=s.size + l.countP isEsc):=by show _=_; rw [esc_len,HL.out]
   have hcl : l.countP isEsc≤s.size:=by have:=cnt_le l; rw [HL.out] at this; exact this
   generalize l.countP isEsc=m at e1 HLE hcl h0
   obtain ⟨i0,hi,hz0,hz1,hz2⟩:=info_parts info5
   have HB:=Lib.hid (Below.drewN' w q)
   go_wp2_with (first | (at_make; refine wpList_make_full _ rfl _ _ 86 rfl w.heap.size 5 i0 (.int .u8 0) 1 Tryz.underlying86 hi hz0 hz1 .i64 .i64 _ _ (s.size + m) rfl rfl (by go_num) (by go_num) (by rw [hz2]; omega) (by unfold maxLen; omega) (Nat.le_refl _) ?_; intro w1 hown1 hg1; refine Hid.out ?_) | fail)
   refine Lib.hid ?_
   have HB1 : Hid (Lib.Buf w w1 w.heap.size (s.size + m) []):=buf_base HB.out (buf_made (w:=w.drewN q) hown1 hg1)
   have HI : Hid ((Tryz.prog.info? 5).map (·.size)=some 1):=by show _=_; rw [hi]; exact congrArg some hz1
   have HSZ : Hid (∀ w,(Go.sizeOf 5).run Tryz.prog w=.ok 1 w):=fun w=>by simp [sizeOf,typeInfo,hi,hz1]
   clear hown1 hg1 hi hz0 hz1 hz2 h0 e1
   go_wp2
   go_loopw [13,14] (fun j i wx=>∃ k : Nat,k≤s.size∧j=.int .i64 (((escB (l.take k)).length : Nat) : Int)∧i=.int .i64 (k : Int)∧Hid (Lib.Buf w wx w.heap.size (s.size + m) (escB (l.take k)))) (fun _ i _=>s.size - (intOf i).toNat)
   case atStart=>exact ⟨0,by omega,rfl,rfl,HB1.out⟩
   case round =>
    obtain ⟨k,hk,rfl,rfl,hB⟩:=hrel
    by_cases hlt : k < s.size
    ·have i0 : (0 : Int)≤(k : Int):=by omega
     have i1 : (k : Int) < (s.size : Int):=by omega
     have HX:=Lib.hid (HRp.out.on hB.out.below)
     have HN : Hid (escB (l.take (k + 1))=escB (l.take k)++(if s[k]=34 then [92,34] else if s[k]=92 then [92,92] else [s[k]])):=by
      show _=_
      rw [esc_next (by rw [HL.out]; exact hlt),HLS.out k hlt]
     have HF : Hid ((escB (l.take (k + 1))).length≤s.size + m):=by
      show _≤_
      rw [← HLE.out]; exact esc_take_le l (k + 1)
     generalize escB (l.take k)=acc at HN hB
     have hbi : (s[k].toNat : Int) < 256:=by have:=s[k].toNat_lt; omega
     have hb:=s[k].toNat_lt
     by_cases hc : s[k]=34
     ·
      have yk : wr.cell? ⟨g,s[k].toNat,none⟩=some (.slice (some ⟨a1,0,none⟩) 2 c1):=by rw [hc]; exact HX.out.row 34 (by omega)
      have HN2 : Hid (escB (l.take (k + 1))=acc++[92,34]):=by show _=_; rw [HN.out,hc]; rfl
      have hle2 : acc.length + 2≤s.size + m:=by
       have:=HF.out
       rw [HN2.out,List.length_append] at this
       exact this
      have hle : acc.length≤s.size + m:=by omega
      have hsl : ∀ W,(Instr.slice 86 (.slice (some ⟨w.heap.size,0,none⟩) (s.size + m) (s.size + m)) (some (.int .i64 (acc.length : Int))) none none).run Tryz.prog W=.ok (Lib.tailV w.heap.size (s.size + m) acc.length) W:=fun W=>Lib.run_slice_tailV W 86 5 Tryz.underlying86 HSZ.out w.heap.size (s.size + m) acc.length hle
      have HCP : Hid (∃ w7,(Builtin.copy_ #[86,86] 3 #[Lib.tailV w.heap.size (s.size + m) acc.length,.slice (some ⟨a1,0,none⟩) 2 c1]).run Tryz.prog wr.drew=.ok (.int .i64 2) w7∧Lib.Buf w w7 w.heap.size (s.size + m) (acc++[92,34])) :=
       Lib.copy_part w wr.drew w.heap.size (s.size + m) acc [92,34] (.slice (some ⟨a1,0,none⟩) 2 c1) 86 3 5 Tryz.underlying86 HI.out (Nat.le_refl _) (buf_drew hB.out) (holds_of_reads HRp.out.q) hle2
      clear hc HN hB HX
      go_wp2
      go_region_law (refine ite_yes (by rfl) ?_; obtain ⟨w7,hr7,hb7⟩:=HCP.out; refine Lib.wp_copy_run _ (.tmp 105) (.tmp 111) 86 86 rfl _ _ rfl rfl hr7 ?_)
      all_goals
       go_wp2
       go_roundw
      all_goals first | exact ⟨k + 1,by omega,by rw [HN2.out,List.length_append]; go_num,by go_num,by rw [HN2.out]; exact hb7⟩ | (simp [intOf]; omega)
     ·by_cases hc2 : s[k]=92
      ·have h34:=hc
       clear hc
       have hc:=hc2
       clear hc2 h34
       have yk : wr.cell? ⟨g,s[k].toNat,none⟩=some (.slice (some ⟨a2,0,none⟩) 2 c2):=by rw [hc]; exact HX.out.row 92 (by omega)
       have HN2 : Hid (escB (l.take (k + 1))=acc++[92,92]):=by show _=_; rw [HN.out,hc]; rfl
       have hle2 : acc.length + 2≤s.size + m:=by
        have:=HF.out
        rw [HN2.out,List.length_append] at this
        exact this
       have hle : acc.length≤s.size + m:=by omega
       have hsl : ∀ W,(Instr.slice 86 (.slice (some ⟨w.heap.size,0,none⟩) (s.size + m) (s.size + m)) (some (.int .i64 (acc.length : Int))) none none).run Tryz.prog W=.ok (Lib.tailV w.heap.size (s.size + m) acc.length) W:=fun W=>Lib.run_slice_tailV W 86 5 Tryz.underlying86 HSZ.out w.heap.size (s.size + m) acc.length hle
       have HCP : Hid (∃ w7,(Builtin.copy_ #[86,86] 3 #[Lib.tailV w.heap.size (s.size + m) acc.length,.slice (some ⟨a2,0,none⟩) 2 c2]).run Tryz.prog wr.drew=.ok (.int .i64 2) w7∧Lib.Buf w w7 w.heap.size (s.size + m) (acc++[92,92])) :=
        Lib.copy_part w wr.drew w.heap.size (s.size + m) acc [92,92] (.slice (some ⟨a2,0,none⟩) 2 c2) 86 3 5 Tryz.underlying86 HI.out (Nat.le_refl _) (buf_drew hB.out) (holds_of_reads HRp.out.b) hle2
       clear hc HN hB HX
       go_wp2
       go_region_law (refine ite_yes (by rfl) ?_; obtain ⟨w7,hr7,hb7⟩:=HCP.out; refine Lib.wp_copy_run _ (.tmp 105) (.tmp 111) 86 86 rfl _ _ rfl rfl hr7 ?_)
       all_goals
        go_wp2
        go_roundw
       all_goals first | exact ⟨k + 1,by omega,by rw [HN2.out,List.length_append]; go_num,by go_num,by rw [HN2.out]; exact hb7⟩ | (simp [intOf]; omega)
      ·have yk : wr.cell? ⟨g,s[k].toNat,none⟩=some (.slice none 0 0):=by
        rw [HX.out.row _ hb]
        unfold repV
        rw [if_neg (show ¬ s[k].toNat=34 from fun e=>hc (UInt8.toNat_inj.1 e)),if_neg (show ¬ s[k].toNat=92 from fun e=>hc2 (UInt8.toNat_inj.1 e))]
       have HN2 : Hid (escB (l.take (k + 1))=acc++[s[k]]):=by show _=_; rw [HN.out,if_neg hc,if_neg hc2]
       have hle2 : acc.length < s.size + m:=by
        have:=HF.out
        rw [HN2.out,List.length_append] at this
        exact this
       obtain ⟨uu,huu⟩:=Option.isSome_iff_exists.1 (hB.out.there _ hle2)
       have hfr:=hB.out.free _ hle2
       have HB2:=Lib.hid (buf_put hB.out hle2 s[k])
       have j1 : (acc.length : Int) < ((s.size : Int) + (m : Int)):=by omega
       clear hc hc2 HN hB HX
       go_wp2
       go_roundw
       case rel=>exact ⟨k + 1,by omega,by rw [HN2.out,List.length_append]; go_num,by go_num,by rw [HN2.out]; exact HB2.out⟩
       case measure=>simp [intOf]; omega
    ·have i1 : ¬ (k : Int) < (s.size : Int):=by omega
     have hE : l.take k=l:=List.take_of_length_le (by rw [HL.out]; omega)
     rw [hE] at hB
     rw [hE]
     have hcv:=conv_reads (buf_reads hB.out HLE.out)
     have HBl:=Lib.hid hB.out.below
     clear hE hB
     go_wp2
     go_ret
     exact ⟨rfl,HBl.out⟩
end Go.Proofs.YtghnopkgcgfcpaaGreatDoor.Path
set_option maxHeartbeats 16000000
set_option maxRecDepth 100000
namespace Go.Proofs.YtghnopkgcgfcpaaGreatDoor.Path
open Go.RowKit Base
def pairsO : Obj:=Obj.cells #[Value.string ⟨#[34]⟩,Value.string ⟨#[92,34]⟩,Value.string ⟨#[92]⟩,Value.string ⟨#[92,92]⟩] 9
structure RepOk (R : Nat→World→Value→Prop) : Prop where
 new : ∀ w : World,Calls Tryz.prog 124 #[.slice (some ⟨w.heap.size,0,none⟩) 4 4] (w.alloc pairsO) fun e w'=>∃ v,e=.returned v∧R w.heap.size w' v∧Below w.heap.size w w'
 rep : ∀ (n0 : Nat) (w : World) (v : Value) (s : ByteArray),R n0 w v→s.size≤1000000000→Calls Tryz.prog 125 #[v,.string s] w fun e w'=>e=.returned (.string ⟨(escB s.data.toList).toArray⟩)∧Below n0 w w'
def locF (s : ByteArray) : ByteArray:=if (dots atomC someB s 0).1=true∧(dots atomC someB s 0).2=s.size then s else ⟨#[34]⟩++⟨(escB s.data.toList).toArray⟩++⟨#[34]⟩
theorem escB_le (l : List UInt8) : (escB l).length≤2 * l.length:=by
 induction l with
 | nil=>exact Nat.le_refl _
 | cons c l ih =>
  have e : escB (c :: l)=(if c=34 then [92,34] else if c=92 then [92,92] else [c])++escB l:=rfl
  rw [e,List.length_append,List.length_cons]
  have : (if c=34 then [92,34] else if c=92 then [92,92] else [c] : List UInt8).length≤2:=by
   split
   ·decide
   ·split
    ·decide
    ·show 1≤2; decide
  omega
theorem escS_le (s : ByteArray) : (⟨(escB s.data.toList).toArray⟩ : ByteArray).size≤2 * s.size:=by
 have:=escB_le s.data.toList
 rw [str_len] at this
 show (escB s.data.toList).toArray.size≤_
 rw [List.size_toArray]; exact this
theorem locF_le (s : ByteArray) : (locF s).size≤2 * s.size + 2:=by
 have h:=escS_le s
 unfold locF
 split
 ·omega
 ·rw [ByteArray.size_append,ByteArray.size_append,show (⟨#[34]⟩ : ByteArray).size=1 from rfl]; omega
theorem extract_all (s : ByteArray) : s.extract 0 s.size=s:=by
 rw [extract_bytes]
 apply ByteArray.ext
 show ((s.data.toList.take s.size).drop 0).toArray=s.data
 rw [List.drop_zero,List.take_of_length_le (by rw [str_len]; exact Nat.le_refl _)]
theorem pLocF {R : Nat→World→Value→Prop} (hR : RepOk R) (s : ByteArray) (w : World) (hs : s.size≤1000000000) : Calls Tryz.prog 82 #[.string s] w fun e w'=>e=.returned (.string (locF s))∧Below w.heap.size w w':=by
 obtain ⟨HBW,HRW⟩:=box_one w s
 have C1:=pAtoms w.heap.size 0 s _ HRW (Nat.zero_le _) (by omega)
 have HD : Hid (locF s=if (dots atomC someB s 0).1=true∧(dots atomC someB s 0).2=s.size then s else ⟨#[34]⟩++⟨(escB s.data.toList).toArray⟩++⟨#[34]⟩):=rfl
 have hle:=(dots_le atomC someB s _ 0 (Nat.le_refl _) (Nat.zero_le _)).1
 generalize locF s=D at HD
 generalize dots atomC someB s 0=r at C1 HD hle
 obtain ⟨b,m⟩:=r
 have hms : m≤s.size:=hle
 have HT : Hid (D=if b=true∧m=s.size then s else ⟨#[34]⟩++⟨(escB s.data.toList).toArray⟩++⟨#[34]⟩):=HD.out
 have HBW:=Lib.hid HBW
 have C1 : Hid (Calls Tryz.prog 123 #[.pointer (some ⟨w.heap.size,0,none⟩)] (w.alloc (readO s)) fun e w'=>e=.returned (.tuple #[.string (strOf s 0 (b,m)),.bool b])∧RdAt w' w.heap.size s m∧KeepX w.heap.size (w.alloc (readO s)) w'):=C1
 have HSO : Hid (b=true→m=s.size→strOf s 0 (b,m)=s):=fun h1 h2=>by
  unfold strOf
  rw [if_pos h1]
  show s.extract 0 m=s
  rw [h2,extract_all]
 generalize strOf s 0 (b,m)=so at C1 HSO
 have HN : Hid (∀ W : World,Calls Tryz.prog 124 #[.slice (some ⟨W.heap.size,0,none⟩) 4 4] (W.alloc pairsO) fun e w'=>∃ v,e=.returned v∧R W.heap.size w' v∧Below W.heap.size W w'):=hR.new
 have HRp : Hid (∀ (n0 : Nat) (W : World) (v : Value),R n0 W v→Calls Tryz.prog 125 #[v,.string s] W fun e w'=>e=.returned (.string ⟨(escB s.data.toList).toArray⟩)∧Below n0 W w'):=fun n0 W v h=>hR.rep n0 W v s h hs
 have hes:=escS_le s
 generalize (⟨(escB s.data.toList).toArray⟩ : ByteArray)=es at HRp HT hes
 have s1 : ¬ 9223372036854775807 < 1 + es.size:=by omega
 have s2 : ¬ 9223372036854775807 < 1 + es.size + 1:=by omega
 unfold readO at C1 HBW
 unfold pairsO at HN
 clear hR hle HRW HD
 go_enter Tryz.func82,Tryz.ntmps82
 go_wp2_with (first | (go_at_call 123; refine C1.out.mono ?_; rintro ee w1 ⟨rfl,h1,q1⟩; refine Hid.out ?_) | fail)
 refine Lib.hid ?_
 obtain ⟨y0,y1,y2⟩:=h1.cells
 have HB1:=Lib.hid (below_of_keep (Nat.le_refl _) HBW.out q1)
 clear h1 q1
 by_cases hc : b=true∧m=s.size
 ·obtain ⟨rfl,hm⟩:=hc
  have e : so=s:=HSO.out rfl hm
  have HT2 : Hid (D=s):=by have e:=HT.out; rw [if_pos ⟨rfl,hm⟩] at e; exact e
  subst e
  have q1 : ((m : Int) == (so.size : Int))=true:=by rw [beq_iff_eq]; omega
  clear hm HT HSO
  go_wp2
  go_ret
  exact ⟨by rw [HT2.out]; rfl,HB1.out⟩
 ·have HT2 : Hid (D=⟨#[34]⟩++es++⟨#[34]⟩):=by have e:=HT.out; rw [if_neg hc] at e; exact e
  have HQ : Hid (b=true→((m : Int) == (s.size : Int))=false):=fun hb=>by
   rw [beq_eq_false_iff_ne]; intro h; exact hc ⟨hb,by omega⟩
  clear hc HT HSO
  cases b with
  | false =>
   clear HQ
   go_wp2_with (first | (go_at_call 124; refine (HN.out _).mono ?_; rintro ee w2 ⟨v,rfl,hv,hb⟩; refine Hid.out ?_) | fail)
   refine Lib.hid ?_
   have HB2:=Lib.hid (HB1.out.trans (hb.mono HB1.out.size))
   have HV:=Lib.hid hv
   clear hb hv
   go_wp2_with (first | (go_at_call 125; refine (HRp.out _ _ _ HV.out).mono ?_; rintro ee w3 ⟨rfl,hb⟩; refine Hid.out ?_) | fail)
   refine Lib.hid ?_
   have HB3:=Lib.hid (HB2.out.trans (hb.mono HB1.out.size))
   clear hb
   go_wp2
   go_ret
   exact ⟨by rw [HT2.out]; rfl,HB3.out⟩
  | true =>
   have q1:=HQ.out rfl
   clear HQ
   go_wp2_with (first | (go_at_call 124; refine (HN.out _).mono ?_; rintro ee w2 ⟨v,rfl,hv,hb⟩; refine Hid.out ?_) | fail)
   refine Lib.hid ?_
   have HB2:=Lib.hid (HB1.out.trans (hb.mono HB1.out.size))
   have HV:=Lib.hid hv
   clear hb hv
   go_wp2_with (first | (go_at_call 125; refine (HRp.out _ _ _ HV.out).mono ?_; rintro ee w3 ⟨rfl,hb⟩; refine Hid.out ?_) | fail)
   refine Lib.hid ?_
   have HB3:=Lib.hid (HB2.out.trans (hb.mono HB1.out.size))
   clear hb
   go_wp2
   go_ret
   exact ⟨by rw [HT2.out]; rfl,HB3.out⟩
theorem form_ok {R : Nat→World→Value→Prop} (hR : RepOk R) : FormOk locF:=⟨locF_le,fun s w h=>pLocF hR s w h⟩
end Go.Proofs.YtghnopkgcgfcpaaGreatDoor.Path
set_option maxHeartbeats 16000000
set_option maxRecDepth 100000
namespace Go.Proofs.YtghnopkgcgfcpaaGreatDoor.Path
open Go.RowKit Base
def RepNew (n0 : Nat) (w : World) (v : Value) : Prop:=∃ b o c,v=.pointer (some ⟨b,0,none⟩)∧w.heap[b]?=some (onceO 0 0 .nilIface (.slice (some ⟨o,0,none⟩) 4 c))∧FourAt w o∧b ≠ o∧n0≤b
theorem pReplace (n0 : Nat) (w : World) (v : Value) (s : ByteArray) (hR : RepNew n0 w v) (hs : s.size≤1000000000) : Calls Tryz.prog 125 #[v,.string s] w fun e w'=>e=.returned (.string ⟨(escB s.data.toList).toArray⟩)∧Below n0 w w':=by
 obtain ⟨b,o,c,rfl,hW,hF,hbo,hn⟩:=hR
 have hlt:=heap_lt hW
 have C1:=Lib.hid (pDo b (.slice (some ⟨o,0,none⟩) 4 c) w hW (pBuildOnce b o c w hbo hF))
 have hmf : ∀ (fn : Fn) (first cap : Array Value) (w : World),(Instr.makeFunc fn first cap).run Tryz.prog w=.ok (.func fn first cap) w:=fun _ _ _ _=>rfl
 have hm : ∀ (a : Addr) (w : World),(method 454 281 (.pointer (some a)) "Replace").run Tryz.prog w=.ok (292,.pointer (some a)) w:=fun a w=>by kernel_rfl
 have HN:=Lib.hid hn
 clear hF hW hbo hn
 unfold buildF at C1
 go_enter Tryz.func125,Tryz.ntmps125
 go_wp2_with (first | (go_at_call 168; refine C1.out.mono ?_; rintro ee w1 ⟨rfl,⟨g,A,c1,c2,a1,a2,h5,hR,n1,n2,n3,n4⟩,hk⟩; refine Hid.out ?_) | fail)
 refine Lib.hid ?_
 obtain ⟨x0,x1,x3,x4,xf⟩:=five_cells h5
 have HK:=Lib.hid hk
 have C2:=Lib.hid (pBSR g A c1 c2 a1 a2 s w1 hR hs)
 have HB : Hid (Below n0 w w1):=hk.below HN.out hlt
 clear hR hk h5
 go_wp2_with (first | (go_at_call 292; refine C2.out.mono ?_; rintro ee w2 ⟨rfl,hb⟩; refine Hid.out ?_) | fail)
 refine Lib.hid ?_
 have HB2 : Hid (Below n0 w w2):=HB.out.trans (hb.mono (Nat.le_trans (Nat.le_trans HN.out (Nat.le_of_lt hlt)) HB.out.size))
 clear hb
 go_wp2
 go_ret
 exact ⟨rfl,HB2.out⟩
theorem newrep_end (w : World) (o1 : Obj) (more : Array Value) (t : TypeId) (c : Nat) :
  RepNew w.heap.size ((((w.alloc o1).alloc (.cells (#[Value.string ⟨#[34]⟩,Value.string ⟨#[92,34]⟩,Value.string ⟨#[92]⟩,Value.string ⟨#[92,92]⟩]++more) t)).alloc (onceO 0 0 .nilIface (.slice (some ⟨w.heap.size + 1,0,none⟩) 4 c))).drew) (.pointer (some ⟨w.heap.size + 1 + 1,0,none⟩)):=by
 have e1:=alloc_size w o1
 have h1:=(MapKept.heap_alloc ((w.alloc o1).alloc (.cells (#[Value.string ⟨#[34]⟩,Value.string ⟨#[92,34]⟩,Value.string ⟨#[92]⟩,Value.string ⟨#[92,92]⟩]++more) t)) (onceO 0 0 .nilIface (.slice (some ⟨w.heap.size + 1,0,none⟩) 4 c))).1
 rw [alloc_size,e1] at h1
 have h2:=(MapKept.heap_alloc (w.alloc o1) (.cells (#[Value.string ⟨#[34]⟩,Value.string ⟨#[92,34]⟩,Value.string ⟨#[92]⟩,Value.string ⟨#[92,92]⟩]++more) t)).1
 rw [e1] at h2
 have h3:=(Below.alloc1 ((w.alloc o1).alloc (.cells (#[Value.string ⟨#[34]⟩,Value.string ⟨#[92,34]⟩,Value.string ⟨#[92]⟩,Value.string ⟨#[92,92]⟩]++more) t)) (onceO 0 0 .nilIface (.slice (some ⟨w.heap.size + 1,0,none⟩) 4 c))).block (w.heap.size + 1) (heap_lt h2)
 rw [h2] at h3
 refine ⟨w.heap.size + 1 + 1,w.heap.size + 1,c,rfl,h1,⟨?_,?_,?_,?_⟩,by omega,by omega⟩
 all_goals
  show World.cell? (World.alloc _ _) _=_
  unfold World.cell?
  rw [h3]
  simp [Array.getElem?_append]
theorem newrep_below (w : World) (o1 o2 o3 : Obj) : Below w.heap.size w (((w.alloc o1).alloc o2).alloc o3).drew :=
 ((((Below.refl _ _).alloc (Nat.le_refl _) o1).alloc (by rw [alloc_size]; omega) o2).alloc (by rw [alloc_size,alloc_size]; omega) o3).drew
theorem pNewRep (w : World) : Calls Tryz.prog 124 #[.slice (some ⟨w.heap.size,0,none⟩) 4 4] (w.alloc pairsO) fun e w'=>∃ v,e=.returned v∧RepNew w.heap.size w' v∧Below w.heap.size w w':=by
 have hp:=(MapKept.heap_alloc w pairsO).1
 unfold pairsO at hp ⊢
 have HP:=Lib.hid hp
 have HB:=Lib.hid (Below.alloc1 w (Obj.cells #[Value.string ⟨#[34]⟩,Value.string ⟨#[92,34]⟩,Value.string ⟨#[92]⟩,Value.string ⟨#[92,92]⟩] 9))
 obtain ⟨i0,hi,hz0,hz1,hz2⟩:=info_parts infoS
 clear hp
 go_enter Tryz.func124,Tryz.ntmps124
 go_wp2
 go_ret
 exact ⟨_,rfl,newrep_end w _ _ _ _,newrep_below w _ _ _⟩
theorem rep_ok : RepOk RepNew:=⟨pNewRep,fun n0 w v s h hs=>pReplace n0 w v s h hs⟩
theorem locF_ok : FormOk locF:=form_ok rep_ok
end Go.Proofs.YtghnopkgcgfcpaaGreatDoor.Path
