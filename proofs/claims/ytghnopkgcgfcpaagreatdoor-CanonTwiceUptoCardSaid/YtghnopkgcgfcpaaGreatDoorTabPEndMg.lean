/-
  MERGED by mergefill.py: TabPEnd.
-/
import Derived.Test.YtghnopkgcgfcpaaGreatDoorTabPStMg
import Derived.Deep.RegionHeld3
import Derived.StillTailTactics
import Derived.BigQuiet
import Derived.Deep.DrawnRows
set_option maxHeartbeats 16000000
set_option maxRecDepth 100000
namespace Go.Proofs.YtghnopkgcgfcpaaGreatDoor.Table
open Go.RowKit Base
attribute [local go_sem ↓] Go.wp_at_zero Go.wp_at_succ
theorem infoE : (Tryz.prog.info? 132).map (fun i=>(i.zero,i.size,i.bytes))=some (some (.agg #[.string ⟨#[]⟩,.string ⟨#[]⟩]),2,32):=by kernel_rfl
theorem end_row {B : Nat} {w : World} {rb mb : Nat} {E : List KV} {o : Bool} {s : Int} {key val : List UInt8} {ev vv : Value} (h : RStX B w rb mb E o s key val ev vv) (he : E.length≤1000000) (k v : List UInt8) :
  ∃ va vc w',(Builtin.append_ #[85,85] 85 #[ev,.slice (some ⟨w.heap.size,0,none⟩) 1 1]).run Tryz.prog (w.alloc (.cells #[S k,S v] 132))=.ok (.slice va (E.length + 1) vc) w' ∧
   w'.ownsRow B 132 2 (.slice va (E.length + 1) vc) (E++[(k,v)]).length ((E++[(k,v)]).flatMap enc2)∧(w.alloc (.cells #[S k,S v] 132)).grownBy w' ev.ownBlock:=by
 obtain ⟨i0,hi,hz0,hz1,hz2⟩:=info_parts infoE
 have h1:=h.on (Below.alloc1 w (.cells #[S k,S v] 132))
 have hb:=(MapKept.heap_alloc w (.cells #[S k,S v] 132)).1
 obtain ⟨v',w',e1,e2,e3,_,e5⟩:=run_append_own_at (P:=Tryz.prog) (w.alloc (.cells #[S k,S v] 132)) B 85 85 132 i0 (.agg #[.string ⟨#[]⟩,.string ⟨#[]⟩]) 2 32 Tryz.underlying85 hi hz0 hz1 hz2 rfl (by decide) ev E.length (E.flatMap enc2) h1.row ⟨w.heap.size,0,none⟩ 1 1 [S k,S v] rfl
  (fun j u hu=>by
   rw [Addr.add_lit,Nat.zero_add,cell_of_row _ _ j _ _ _ hb]; simpa using hu)
  (fun u hu=>by simp at hu; rcases hu with rfl | rfl <;> rfl) (by unfold maxLen; omega) (by omega) h1.bge
 obtain ⟨va,vc,rfl,_⟩:=row_form e2
 refine ⟨va,vc,w',e1,?_,e3⟩
 rw [List.length_append,List.flatMap_append]; exact e2
theorem step_append_run {P : Program} {w : World} {ops : Array Oper} {o : Oper} {a : Act} {K : Act→World→Prop} {Q : Exit→Act→World→Prop} {E : Prop} (hgd : o.guard=none) (s x : Operand) (t : TypeId)
  (ho : o.op=.call { callee:=.builtin .append,args:=#[s,x],argTypes:=#[t,t] }) (v y v' : Value) (w' : World) (hs : a.eval s=v) (hx : a.eval x=y) (ty : TypeId) (hty : o.type=ty) (hrun : (Builtin.append_ #[t,t] ty #[v,y]).run P w=.ok v' w')
  (h : K (a.put o.dst v') w') : if Region.wanted o (yielded ops a.tmps)=true then Oper.wp P o a w K Q else E:=by
 have hw : Region.wanted o (yielded ops a.tmps)=true:=by simp [Region.wanted,hgd]
 rw [if_pos hw]
 subst hty
 unfold Oper.wp execOp
 simp only [ho,resolve,invoke,builtin,Sem.run_bind,Sem.run_pure,Result.andThen_ok,List.map_toArray,List.map_cons,List.map_nil,hs,hx,hrun]
 exact h
theorem RStX.putRow {B : Nat} {w w' : World} {rb mb : Nat} {E E' : List KV} {o : Bool} {s : Int} {key val : List UInt8} {ev vv : Value} (h : RStX B w rb mb E o s key val ev vv) (hg : w.grownBy w' ev.ownBlock) {v' : Value} (_hr : w'.ownsRow B 132 2 v' E'.length (E'.flatMap enc2)) :
  (w'.heap[rb]?=some (.cells #[ev,.map (some mb),.bool o,.int .i64 s,S key,vv] 88 (0,0))∧Owns w' B vv val∧MapIs Tryz.prog 9 w' mb (E.map entM))∧PStep B w w':=by
 obtain ⟨e1,e2,e3,e4,e5,e6⟩:=h.evne
 have hbl : Below B w w':=(Below.refl _ _).grown hg h.bge (fun j hj=>(World.ownsRow.lt h.row j hj).1)
 obtain ⟨_,_,_,hs,hbk⟩:=hg
 refine ⟨⟨?_,row_kept h.val fun b hb=>?_,h.map.kept ?_⟩,hbl,fun k cs t fz hk a b c=>?_⟩
 ·rw [hbk rb (heap_lt h.box) (fun e=>e1 e.symm)]; exact h.box
 ·exact hbk b (World.ownsRow.lt h.val b hb).2 (fun e=>e6 b e.symm hb)
 ·exact hbk mb h.map.lt (fun e=>e2 e.symm)
 ·rw [hbk k (heap_lt hk) (fun e=>?_)]
  ·exact hk
  ·obtain ⟨cs2,fz2,h2⟩:=row_type h.row e.symm
   rw [hk] at h2; cases h2; exact b rfl
def EndEnd (B : Nat) (w : World) (rb mb : Nat) (E : List KV) (o : Bool) (s : Nat) (key val : List UInt8) (e : Ending) (w' : World) : Prop :=
 PStep B w w'∧((o=false∧e=.returned (.agg #[.int .i64 0,.int .i64 0])∧RSt B w' rb mb E o s key val) ∨
  (o=true∧wrongP E key val ≠ 0∧e=.returned (.agg #[.int .i64 (wrongP E key val : Int),.int .i64 (s : Int)])∧RSt B w' rb mb E o s key val) ∨
  (o=true∧wrongP E key val=0∧e=.returned (.agg #[.int .i64 0,.int .i64 0])∧RSt B w' rb mb (E++[(key,val)]) o s key val))
structure EndF (B : Nat) (w w2 : World) (rb mb : Nat) (E : List KV) (s : Int) (key val : List UInt8) (ea : Option Addr) (ec : Nat) (va : Option Addr) (vc : Nat) (bx : Nat) (na : Option Addr) (nc : Nat) (w3 w6 : World) : Prop where
 s0 : ((fun w'=>w'.cell? ⟨rb,4,none⟩=some (S key)∧w'.cell? ⟨rb,5,none⟩=some (.slice va val.length vc)∧(convert 86 9 (.slice va val.length vc)).run Tryz.prog w'=.ok (S val) w') w2.drew)
 s1 : ((fun w'=>w'.cell? ⟨rb,4,none⟩=some (S key)∧w'.cell? ⟨rb,5,none⟩=some (.slice va val.length vc)∧(convert 86 9 (.slice va val.length vc)).run Tryz.prog w'=.ok (S val) w') (w2.drew.alloc (.cells #[S key,S val] 132)))
 s2 : ((fun w'=>w'.cell? ⟨rb,4,none⟩=some (S key)∧w'.cell? ⟨rb,5,none⟩=some (.slice va val.length vc)∧(convert 86 9 (.slice va val.length vc)).run Tryz.prog w'=.ok (S val) w') w3)
 s3 : ((fun w'=>w'.cell? ⟨rb,4,none⟩=some (S key)∧w'.cell? ⟨rb,5,none⟩=some (.slice va val.length vc)∧(convert 86 9 (.slice va val.length vc)).run Tryz.prog w'=.ok (S val) w') (w3.setCell ⟨rb,0,none⟩ (.slice na (E.length + 1) nc)))
 m0 : ((fun w'=>w'.cell? ⟨rb,1,none⟩=some (.map (some mb))∧w'.cell? ⟨rb,4,none⟩=some (S key)) (w3.setCell ⟨rb,0,none⟩ (.slice na (E.length + 1) nc)).drew)
 m1 : ((fun w'=>w'.cell? ⟨rb,1,none⟩=some (.map (some mb))∧w'.cell? ⟨rb,4,none⟩=some (S key)) w6)
 run : (Builtin.append_ #[85,85] 85 #[.slice ea E.length ec,.slice (some ⟨w2.heap.size,0,none⟩) 1 1]).run Tryz.prog (w2.drew.alloc (.cells #[S key,S val] 132))=.ok (.slice na (E.length + 1) nc) w3
 lk : (Instr.lookup 84 (.map (some mb)) (S key) false).run Tryz.prog (w3.setCell ⟨rb,0,none⟩ (.slice na (E.length + 1) nc)).drew=.ok (.int .i64 0) (w3.setCell ⟨rb,0,none⟩ (.slice na (E.length + 1) nc)).drew
 mu : (Instr.mapUpdate 84 (.map (some mb)) (S key) (.int .i64 1)).run Tryz.prog (w3.setCell ⟨rb,0,none⟩ (.slice na (E.length + 1) nc)).drew=.ok () w6
 bx6 : w6.heap[bx]?=some (.cells #[.int .i64 0,.int .i64 0] 49 (0,0))
 fin : RSt B ((w6.setCell ⟨bx,0,none⟩ (.int .i64 0)).setCell ⟨bx,1,none⟩ (.int .i64 0)) rb mb (E++[(key,val)]) true s key val∧PStep B w ((w6.setCell ⟨bx,0,none⟩ (.int .i64 0)).setCell ⟨bx,1,none⟩ (.int .i64 0))
 d1 : w2.drew.cell? ⟨rb,0,none⟩=some (.slice ea E.length ec)
 d2 : (w2.drew.alloc (.cells #[S key,S val] 132)).cell? ⟨rb,0,none⟩=some (.slice ea E.length ec)
 d3 : w3.cell? ⟨rb,0,none⟩=some (.slice ea E.length ec)
 d4 : w3.frozen? ⟨rb,0,none⟩=false
theorem RStX.other {B : Nat} {w w' : World} {rb mb : Nat} {E : List KV} {o : Bool} {s : Int} {key val : List UInt8} {ev vv : Value} (h : RStX B w rb mb E o s key val ev vv) {g : Nat} {cs : Array Value} {fz : Nat × Nat} (hg : w.heap[g]?=some (.cells cs 49 fz)) (hk : ∀ k,k ≠ g→w'.heap[k]?=w.heap[k]?) (hs : w.heap.size≤w'.heap.size) : RStX B w' rb mb E o s key val ev vv:=by
 refine ⟨(hk rb (fun e=>?_)).trans h.box,row_kept h.row fun b hb=>hk b (fun e=>?_),row_kept h.val fun b hb=>hk b (fun e=>?_),h.map.kept (hk mb (fun e=>?_)),h.rge,h.mge,Nat.le_trans h.bge hs⟩
 ·rw [← e,h.box] at hg; cases hg
 ·subst e
  obtain ⟨cs2,fz2,h1⟩:=row_type h.row hb
  rw [hg] at h1; cases h1
 ·subst e
  obtain ⟨cs2,fz2,h1⟩:=row_type h.val hb
  rw [hg] at h1; cases h1
 ·obtain ⟨es,clock,h1,_⟩:=h.map
  rw [e,hg] at h1; cases h1
theorem end_facts {B : Nat} {w w2 : World} {rb mb : Nat} {E : List KV} {s : Int} {key val : List UInt8} {ea : Option Addr} {ec : Nat} {va : Option Addr} {vc : Nat} (hx : RStX B w2 rb mb E true s key val (.slice ea E.length ec) (.slice va val.length vc)) (hW : wrongP E key val=0) (hk : key.length≤1000000) (_hv : val.length≤9000000) (he : E.length≤1000000)
  (hbx : w2.heap[w.heap.size]?=some (.cells #[.int .i64 0,.int .i64 0] 49 (0,0))) (hB : B≤w.heap.size) (hb2 : Below w.heap.size w w2) : ∃ na nc w3 w6,EndF B w w2 rb mb E s key val ea ec va vc w.heap.size na nc w3 w6:=by
 have hxd:=hx.on (bel_drewN 1 w2 (Nat.le_refl _))
 obtain ⟨na,nc,w3,hr,orow,hgrow⟩:=end_row (w:=w2.drew) hxd he key val
 have hxa:=hxd.on (Below.alloc1 w2.drew (.cells #[S key,S val] 132))
 obtain ⟨⟨b3,o3,m3⟩,p3⟩:=hxa.putRow hgrow orow
 obtain ⟨w4,hw4⟩ : ∃ w4,w4=w3.setCell ⟨rb,0,none⟩ (.slice na (E.length + 1) nc):=⟨_,rfl⟩
 have b4 : w4.heap[rb]?=some (.cells #[.slice na (E.length + 1) nc,.map (some mb),.bool true,.int .i64 s,S key,.slice va val.length vc] 88 (0,0)):=by rw [hw4,heap_setCell_same w3 rb 0 _ _ _ b3]; rfl
 have n4 : ∀ b,b ≠ rb→w4.heap[b]?=w3.heap[b]?:=fun b hb=>by rw [hw4]; exact Below.heap_setCell _ _ _ _ hb
 have z4 : w4.heap.size=w3.heap.size:=by rw [hw4]; simp
 have o4 : Owns w4 B (.slice va val.length vc) val:=row_kept o3 fun b hb=>n4 b (fun e=>by
  subst e
  obtain ⟨cs,fz,h1⟩:=row_type o3 hb
  rw [b3] at h1; cases h1)
 have r4 : w4.ownsRow B 132 2 (.slice na (E.length + 1) nc) (E++[(key,val)]).length ((E++[(key,val)]).flatMap enc2):=row_kept orow fun b hb=>n4 b (fun e=>by
  subst e
  obtain ⟨cs,fz,h1⟩:=row_type orow hb
  rw [b3] at h1; cases h1)
 have mne : mb ≠ rb:=fun e=>by
  obtain ⟨es,clock,h1,_⟩:=m3
  rw [e,b3] at h1; cases h1
 have m4 : MapIs Tryz.prog 9 w4 mb (E.map entM):=m3.kept (n4 mb mne)
 have hin : ¬ key ∈ E.map Prod.fst:=fun hin=>by
  unfold wrongP at hW
  rw [if_pos hin] at hW
  split at hW <;> omega
 have hlk:=(m4.kept (w':=w4.drew) rfl).miss false klaw Tryz.underlying84 (Tryz.zeroValue3 _) (keyS key hk) (entM_miss hin)
 obtain ⟨w6,hmu,m6,g6,z6⟩:=(m4.kept (w':=w4.drew) rfl).storeNew klaw Tryz.underlying84 (v:=.int .i64 1) (by rw [List.length_map]; unfold maxLen; omega) (keyS key hk) (entM_miss hin)
 obtain ⟨g61,g62,g63,_,gk6⟩:=g6
 have k6 : ∀ b,b < w4.heap.size→b ≠ mb→w6.heap[b]?=w4.heap[b]?:=fun b hb hne=>gk6 b hb (fun e=>hne (by cases e; rfl))
 have b6:=(k6 rb (heap_lt b4) (fun e=>mne e.symm)).trans b4
 have hmapc : ∀ {W : World} {L : List (Value × Value)},MapIs Tryz.prog 9 W mb L→∀ cs t fz,W.heap[mb]? ≠ some (.cells cs t fz):=fun h cs t fz e=>by
  obtain ⟨es,clock,h1,_⟩:=h
  rw [h1] at e; cases e
 have st4 : PStep B w2 w4:=(PStep.of_below ((bel_drewN 1 w2 (Nat.le_refl _)).trans (Below.alloc1 w2.drew (.cells #[S key,S val] 132))) hx.bge).trans (p3.trans ⟨by rw [hw4]; exact (Below.refl _ _).setCell hx.rge _,fun k cs t fz hkk a _ _=>by
  rw [n4 k (fun e=>by subst e; rw [b3] at hkk; cases hkk; exact a rfl)]; exact hkk⟩)
 have st6 : PStep B w2 w6:=st4.trans ⟨⟨g61,g62,g63,by rw [z6]; exact Nat.le_refl _,fun k hkk=>gk6 k (Nat.lt_of_lt_of_le hkk (Nat.le_trans hx.bge st4.below.size)) (fun e=>by cases e; have:=hx.mge; omega)⟩,fun k cs t fz hkk _ _ _=>by
  rw [k6 k (heap_lt hkk) (fun e=>hmapc m4 cs t fz (by rw [← e]; exact hkk))]; exact hkk⟩
 have bx6:=st6.keep _ _ _ _ hbx (by decide) (by decide) (by decide)
 have o6 : Owns w6 B (.slice va val.length vc) val:=row_kept o4 fun b hb=>k6 b (World.ownsRow.lt o4 b hb).2 (fun e=>by
  obtain ⟨cs,fz,h1⟩:=row_type o4 hb
  exact hmapc m4 cs _ fz (by rw [← e]; exact h1))
 have r6 : w6.ownsRow B 132 2 (.slice na (E.length + 1) nc) (E++[(key,val)]).length ((E++[(key,val)]).flatMap enc2):=row_kept r4 fun b hb=>k6 b (World.ownsRow.lt r4 b hb).2 (fun e=>by
  obtain ⟨cs,fz,h1⟩:=row_type r4 hb
  exact hmapc m4 cs _ fz (by rw [← e]; exact h1))
 have hst : RStX B w6 rb mb (E++[(key,val)]) true s key val (.slice na (E.length + 1) nc) (.slice va val.length vc):=⟨b6,r6,o6,by rw [List.map_append]; exact m6,hx.rge,hx.mge,Nat.le_trans hx.bge st6.below.size⟩
 have hkb : ∀ k,k ≠ w.heap.size→((w6.setCell ⟨w.heap.size,0,none⟩ (.int .i64 0)).setCell ⟨w.heap.size,1,none⟩ (.int .i64 0)).heap[k]?=w6.heap[k]?:=fun k hne=>by
  rw [Below.heap_setCell _ _ _ _ hne,Below.heap_setCell _ _ _ _ hne]
 refine ⟨na,nc,w3,w6,⟨hxd.cells.2.2.2.2.1,hxd.cells.2.2.2.2.2.1,conv_reads hxd.val.reads⟩,⟨hxa.cells.2.2.2.2.1,hxa.cells.2.2.2.2.2.1,conv_reads hxa.val.reads⟩,⟨cell_of_row w3 rb 4 _ _ _ b3,cell_of_row w3 rb 5 _ _ _ b3,conv_reads o3.reads⟩,?_,?_,⟨cell_of_row w6 rb 1 _ _ _ b6,cell_of_row w6 rb 4 _ _ _ b6⟩,hr,?_,?_,bx6,⟨⟨_,_,hst.other bx6 hkb (by simp)⟩,?_⟩,hxd.cells.1,hxa.cells.1,cell_of_row w3 rb 0 _ _ _ b3,by simp [World.frozen?,b3]⟩
 ·rw [← hw4]; exact ⟨cell_of_row w4 rb 4 _ _ _ b4,cell_of_row w4 rb 5 _ _ _ b4,conv_reads o4.reads⟩
 ·rw [← hw4]; exact ⟨cell_of_row w4 rb 1 _ _ _ b4,cell_of_row w4 rb 4 _ _ _ b4⟩
 ·rw [← hw4]; exact hlk
 ·rw [← hw4]; exact hmu
 ·refine ⟨(((hb2.mono hB).trans st6.below).setCell hB _).setCell hB _,fun k cs t fz hkk a b c=>?_⟩
  rw [hkb k (by have:=heap_lt hkk; omega)]
  exact st6.keep k cs t fz ((hb2.block k (heap_lt hkk)).trans hkk) a b c
set_option linter.unusedSimpArgs false in
theorem pEnd (B : Nat) (w : World) (rb mb : Nat) (E : List KV) (o : Bool) (s : Nat) (key val : List UInt8) (h : RSt B w rb mb E o s key val) (hk : key.length≤1000000) (hv : val.length≤9000000) (he : E.length≤1000000) :
  Calls Tryz.prog 37 #[.pointer (some ⟨rb,0,none⟩)] w (EndEnd B w rb mb E o s key val):=by
 have hbge : B≤w.heap.size:=by obtain ⟨_,_,h9⟩:=h; exact h9.bge
 have HBG:=Lib.hid hbge
 have H0:=Lib.hid h
 have H1:=Lib.hid (h.on (Below.alloc1 w (.cells #[.int .i64 0,.int .i64 0] 49)))
 have hbx:=(MapKept.heap_alloc w (.cells #[.int .i64 0,.int .i64 0] 49)).1
 obtain ⟨wb,hwb⟩ : ∃ wb,wb=w.alloc (.cells #[.int .i64 0,.int .i64 0] 49):=⟨_,rfl⟩
 have HB0 : Hid (Below w.heap.size w wb):=by rw [hwb]; exact Below.alloc1 _ _
 rw [← hwb] at hbx H1
 have HBX:=Lib.hid hbx
 have HWB:=Lib.hid hwb
 clear hbx hwb
 cases o
 ·obtain ⟨ev,vv,hx⟩:=h.on (Below.alloc1 w (.cells #[.int .i64 0,.int .i64 0] 49))
  obtain ⟨c0,c1,c2,c3,c4,c5,c6⟩:=hx.cells
  clear hx c0 c1 c3 c4 c5 c6 hbge
  go_enter Tryz.func37,Tryz.ntmps37
  go_wp2
  exact bodyPost_ret (v:=.agg #[.int .i64 0,.int .i64 0]) (by simp [results,Tryz.results37,go_sem]) rfl ⟨PStep.of_below (Below.alloc1 _ _) HBG.out,Or.inl ⟨rfl,rfl,by rw [← HWB.out]; exact H1.out⟩⟩
 ·have HWR : Hid (∀ w1,RSt B w1 rb mb E true (s : Int) key val→Calls Tryz.prog 68 #[.pointer (some ⟨rb,0,none⟩)] w1 (fun e w'=>e=.returned (.int .i64 (wrongP E key val : Int))∧Below w1.heap.size w1 w')):=fun w1 h1=>pWrong B w1 rb mb E true (s : Int) key val h1 hk hv he
  obtain ⟨ev,vv,hx⟩:=h.on (Below.alloc1 w (.cells #[.int .i64 0,.int .i64 0] 49))
  obtain ⟨c0,c1,c2,c3,c4,c5,c6⟩:=hx.cells
  clear hx c0 c1 c3 c4 c5 c6 hbge
  by_cases hw : wrongP E key val=0
  ·have HW:=Lib.hid hw
   rw [hw] at HWR
   clear hw
   go_enter Tryz.func37,Tryz.ntmps37
   go_wp2_with (first | (go_at_call 68; rw [← HWB.out]; refine (HWR.out _ H1.out).mono ?_; rintro e w2 ⟨rfl,hb2⟩; refine Hid.out ?_) | fail)
   refine Lib.hid ?_
   obtain ⟨ev,vv,hx⟩:=H1.out.on hb2
   obtain ⟨va,vc,rfl,hvc⟩:=row_form hx.val
   obtain ⟨ea,ec,rfl,hec⟩:=row_form hx.row
   obtain ⟨na,nc,w3,w6,F⟩:=end_facts hx HW.out hk hv he ((hb2.block _ (heap_lt HBX.out)).trans HBX.out) HBG.out (HB0.out.trans (hb2.mono HB0.out.size))
   have s0:=Lib.hid F.s0
   have s1:=Lib.hid F.s1
   have s2:=Lib.hid F.s2
   have s3:=Lib.hid F.s3
   have m0:=Lib.hid F.m0
   have m1:=Lib.hid F.m1
   have HR:=Lib.hid F.run
   have HLK:=Lib.hid F.lk
   have HMU:=Lib.hid F.mu
   have HBX6:=Lib.hid F.bx6
   have HFIN:=Lib.hid F.fin
   have d1:=F.d1
   have d2 : (w2.alloc (.cells #[S key,S val] 132)).cell? ⟨rb,0,none⟩=some (.slice ea E.length ec):=F.d2
   have d3:=F.d3
   have d4:=F.d4
   clear F hx hb2
   go_wp2_with fail
   refine wp_region_noPanic ?_
   refine wp_region_held_drew (S:=(fun w'=>w'.cell? ⟨rb,4,none⟩=some (S key)∧w'.cell? ⟨rb,5,none⟩=some (.slice va val.length vc)∧(convert 86 9 (.slice va val.length vc)).run Tryz.prog w'=.ok (S val) w')) (by kernel_rfl) s0.out (fun hHeld=>?_)
   refine wpAnyH_take (i:=0) (v:=?v10) rfl (by kernel_rfl) (by kernel_rfl) (by kernel_rfl) (fun _ _ _ h=>h) (Or.inl ⟨by rfl,?hy10⟩) (by assumption) ?rest10
   case hy10=>(intro w hSw; (try dsimp only at hSw); obtain ⟨q1,q2,q3⟩:=hSw; go_simp; try with_reducible rfl)
   (try simp only [Act.put,List.getElem_toArray,List.getElem_cons_succ,List.getElem_cons_zero,List.setIfInBounds_toArray,List.set_cons_zero,List.set_cons_succ])
   refine wpAnyH_take (i:=1) (v:=?v11) rfl (by kernel_rfl) (by kernel_rfl) (by kernel_rfl) (fun _ _ _ h=>h) (Or.inl ⟨by rfl,?hy11⟩) (by assumption) ?rest11
   case hy11=>(intro w hSw; (try dsimp only at hSw); obtain ⟨q1,q2,q3⟩:=hSw; go_simp; try with_reducible rfl)
   (try simp only [Act.put,List.getElem_toArray,List.getElem_cons_succ,List.getElem_cons_zero,List.setIfInBounds_toArray,List.set_cons_zero,List.set_cons_succ])
   refine wpAnyH_take (i:=2) (v:=?v12) rfl (by kernel_rfl) (by kernel_rfl) (by kernel_rfl) (fun _ _ _ h=>h) (Or.inl ⟨by rfl,?hy12⟩) (by assumption) ?rest12
   case hy12=>(intro w hSw; (try dsimp only at hSw); obtain ⟨q1,q2,q3⟩:=hSw; go_simp; try with_reducible rfl)
   (try simp only [Act.put,List.getElem_toArray,List.getElem_cons_succ,List.getElem_cons_zero,List.setIfInBounds_toArray,List.set_cons_zero,List.set_cons_succ])
   refine wpAnyH_take (i:=3) (v:=?v13) rfl (by kernel_rfl) (by kernel_rfl) (by kernel_rfl) (fun _ _ _ h=>h) (Or.inl ⟨by rfl,?hy13⟩) (by assumption) ?rest13
   case hy13=>(intro w hSw; (try dsimp only at hSw); obtain ⟨q1,q2,q3⟩:=hSw; go_simp; try with_reducible rfl)
   (try simp only [Act.put,List.getElem_toArray,List.getElem_cons_succ,List.getElem_cons_zero,List.setIfInBounds_toArray,List.set_cons_zero,List.set_cons_succ])
   refine wpAnyH_take (i:=5) (v:=?v14) rfl (by kernel_rfl) (by kernel_rfl) (by kernel_rfl) (fun _ _ _ h=>h) (Or.inl ⟨by rfl,?hy14⟩) (by assumption) ?rest14
   case hy14=>(intro w hSw; (try dsimp only at hSw); obtain ⟨q1,q2,q3⟩:=hSw; go_simp; try with_reducible rfl)
   (try simp only [Act.put,List.getElem_toArray,List.getElem_cons_succ,List.getElem_cons_zero,List.setIfInBounds_toArray,List.set_cons_zero,List.set_cons_succ])
   refine wpAnyH_take (i:=6) (v:=?v15) rfl (by kernel_rfl) (by kernel_rfl) (by kernel_rfl) (fun _ _ _ h=>h) (Or.inl ⟨by rfl,?hy15⟩) (by assumption) ?rest15
   case hy15=>(intro w hSw; (try dsimp only at hSw); obtain ⟨q1,q2,q3⟩:=hSw; go_simp; try with_reducible rfl)
   (try simp only [Act.put,List.getElem_toArray,List.getElem_cons_succ,List.getElem_cons_zero,List.setIfInBounds_toArray,List.set_cons_zero,List.set_cons_succ])
   refine wpAnyH_take (i:=7) (v:=?v16) rfl (by kernel_rfl) (by kernel_rfl) (by kernel_rfl) (fun _ _ _ h=>h) (Or.inl ⟨by rfl,?hy16⟩) (by assumption) ?rest16
   case hy16=>(intro w hSw; (try dsimp only at hSw); obtain ⟨q1,q2,q3⟩:=hSw; go_simp; try with_reducible rfl)
   (try simp only [Act.put,List.getElem_toArray,List.getElem_cons_succ,List.getElem_cons_zero,List.setIfInBounds_toArray,List.set_cons_zero,List.set_cons_succ])
   refine wpAnyH_take (i:=8) (v:=?v17) rfl (by kernel_rfl) (by kernel_rfl) (by kernel_rfl) (fun _ _ _ h=>h) (Or.inl ⟨by rfl,?hy17⟩) (by assumption) ?rest17
   case hy17=>(intro w hSw; (try dsimp only at hSw); obtain ⟨q1,q2,q3⟩:=hSw; go_simp; try with_reducible rfl)
   (try simp only [Act.put,List.getElem_toArray,List.getElem_cons_succ,List.getElem_cons_zero,List.setIfInBounds_toArray,List.set_cons_zero,List.set_cons_succ])
   refine wpAnyH_take (i:=9) (v:=?v18) rfl (by kernel_rfl) (by kernel_rfl) (by kernel_rfl) (fun _ _ _ h=>h) (Or.inl ⟨by rfl,?hy18⟩) (by assumption) ?rest18
   case hy18=>(intro w hSw; (try dsimp only at hSw); obtain ⟨q1,q2,q3⟩:=hSw; go_simp; try with_reducible rfl)
   (try simp only [Act.put,List.getElem_toArray,List.getElem_cons_succ,List.getElem_cons_zero,List.setIfInBounds_toArray,List.set_cons_zero,List.set_cons_succ])
   refine wpAnyH_take (i:=10) (v:=?v19) rfl (by kernel_rfl) (by kernel_rfl) (by kernel_rfl) (fun _ _ _ h=>h) (Or.inl ⟨by rfl,?hy19⟩) (by assumption) ?rest19
   case hy19=>(intro w hSw; (try dsimp only at hSw); obtain ⟨q1,q2,q3⟩:=hSw; go_simp; try with_reducible rfl)
   (try simp only [Act.put,List.getElem_toArray,List.getElem_cons_succ,List.getElem_cons_zero,List.setIfInBounds_toArray,List.set_cons_zero,List.set_cons_succ])
   refine wpAnyH_take (i:=11) (v:=?v20) rfl (by kernel_rfl) (by kernel_rfl) (by kernel_rfl) (fun _ _ _ h=>h) (Or.inl ⟨by rfl,?hy20⟩) (by assumption) ?rest20
   case hy20=>(intro w hSw; (try dsimp only at hSw); obtain ⟨q1,q2,q3⟩:=hSw; go_simp; try with_reducible rfl)
   (try simp only [Act.put,List.getElem_toArray,List.getElem_cons_succ,List.getElem_cons_zero,List.setIfInBounds_toArray,List.set_cons_zero,List.set_cons_succ])
   refine wpAnyH_take (i:=12) (v:=?v21) rfl (by kernel_rfl) (by kernel_rfl) (by kernel_rfl) (fun _ _ _ h=>h) (Or.inl ⟨by rfl,?hy21⟩) (by assumption) ?rest21
   case hy21=>(intro w hSw; (try dsimp only at hSw); obtain ⟨q1,q2,q3⟩:=hSw; go_simp; try with_reducible rfl)
   (try simp only [Act.put,List.getElem_toArray,List.getElem_cons_succ,List.getElem_cons_zero,List.setIfInBounds_toArray,List.set_cons_zero,List.set_cons_succ])
   refine wpAnyH_take (i:=13) (v:=?v22) rfl (by kernel_rfl) (by kernel_rfl) (by kernel_rfl) (fun _ _ _ h=>h) (Or.inl ⟨by rfl,?hy22⟩) (by assumption) ?rest22
   case hy22=>(intro w hSw; (try dsimp only at hSw); obtain ⟨q1,q2,q3⟩:=hSw; go_simp; try with_reducible rfl)
   (try simp only [Act.put,List.getElem_toArray,List.getElem_cons_succ,List.getElem_cons_zero,List.setIfInBounds_toArray,List.set_cons_zero,List.set_cons_succ])
   refine wpAnyH_take (i:=14) (v:=?v23) rfl (by kernel_rfl) (by kernel_rfl) (by kernel_rfl) (fun _ _ _ h=>h) (Or.inl ⟨by rfl,?hy23⟩) (by assumption) ?rest23
   case hy23=>(intro w hSw; (try dsimp only at hSw); obtain ⟨q1,q2,q3⟩:=hSw; go_simp; try with_reducible rfl)
   (try simp only [Act.put,List.getElem_toArray,List.getElem_cons_succ,List.getElem_cons_zero,List.setIfInBounds_toArray,List.set_cons_zero,List.set_cons_succ])
   refine wpAnyH_ready (rs:=[4,15]) (by kernel_rfl) (by simp) ?_
   refine AllReadyH.cons rfl (fun K hK=>?_) ?_
   ·go_simp
    refine hK.out _ _ (by (first | exact s0.out | exact s1.out | exact s2.out | exact s3.out)) (fun hHeld=>?_)
    clear hK K
    (try simp only [Act.put,List.getElem_toArray,List.getElem_cons_succ,List.getElem_cons_zero,List.setIfInBounds_toArray,List.set_cons_zero,List.set_cons_succ])
    refine wpAnyH_ready (rs:=[15]) (by kernel_rfl) (by simp) ?_
    refine AllReadyH.cons rfl (fun K hK=>?_) ?_
    ·go_simp
     refine hK.out _ _ (by (first | exact s0.out | exact s1.out | exact s2.out | exact s3.out)) (fun hHeld=>?_)
     clear hK K
     (try simp only [Act.put,List.getElem_toArray,List.getElem_cons_succ,List.getElem_cons_zero,List.setIfInBounds_toArray,List.set_cons_zero,List.set_cons_succ])
     refine wpAnyH_ready (rs:=[16]) (by kernel_rfl) (by simp) ?_
     refine AllReadyH.cons rfl (fun K hK=>?_) ?_
     ·refine step_append_run rfl (.tmp 24) (.tmp 35) 85 rfl _ _ _ _ (by simp [Act.eval,Act.put]) (by simp [Act.eval,Act.put]) 85 rfl HR.out ?_
      refine hK.out _ _ (by (first | exact s0.out | exact s1.out | exact s2.out | exact s3.out)) (fun hHeld=>?_)
      clear hK K
      (try simp only [Act.put,List.getElem_toArray,List.getElem_cons_succ,List.getElem_cons_zero,List.setIfInBounds_toArray,List.set_cons_zero,List.set_cons_succ])
      refine wpAnyH_take (i:=17) (v:=?v24) rfl (by kernel_rfl) (by kernel_rfl) (by kernel_rfl) (fun _ _ _ h=>h) (Or.inl ⟨by rfl,?hy24⟩) (by assumption) ?rest24
      case hy24=>(intro w hSw; (try dsimp only at hSw); obtain ⟨q1,q2,q3⟩:=hSw; go_simp; try with_reducible rfl)
      (try simp only [Act.put,List.getElem_toArray,List.getElem_cons_succ,List.getElem_cons_zero,List.setIfInBounds_toArray,List.set_cons_zero,List.set_cons_succ])
      refine wpAnyH_take (i:=18) (v:=?v25) rfl (by kernel_rfl) (by kernel_rfl) (by kernel_rfl) (fun _ _ _ h=>h) (Or.inl ⟨by rfl,?hy25⟩) (by assumption) ?rest25
      case hy25=>(intro w hSw; (try dsimp only at hSw); obtain ⟨q1,q2,q3⟩:=hSw; go_simp; try with_reducible rfl)
      (try simp only [Act.put,List.getElem_toArray,List.getElem_cons_succ,List.getElem_cons_zero,List.setIfInBounds_toArray,List.set_cons_zero,List.set_cons_succ])
      refine wpAnyH_ready (rs:=[19]) (by kernel_rfl) (by simp) ?_
      refine AllReadyH.cons rfl (fun K hK=>?_) ?_
      ·go_simp
       refine hK.out _ _ (by (first | exact s0.out | exact s1.out | exact s2.out | exact s3.out)) (fun hHeld=>?_)
       clear hK K
       (try simp only [Act.put,List.getElem_toArray,List.getElem_cons_succ,List.getElem_cons_zero,List.setIfInBounds_toArray,List.set_cons_zero,List.set_cons_succ])
       refine wpAnyH_done (by kernel_rfl) ?_ _
       refine NoPanic.normal ?_
       go_wp2_with fail
       refine wp_region_noPanic ?_
       refine wp_region_held_drew (S:=(fun w'=>w'.cell? ⟨rb,1,none⟩=some (.map (some mb))∧w'.cell? ⟨rb,4,none⟩=some (S key))) (by kernel_rfl) m0.out (fun hHeld=>?_)
       refine wpAnyH_take (i:=0) (v:=?vT125_1) rfl (by kernel_rfl) (by kernel_rfl) (by kernel_rfl) (fun _ _ _ h=>h) (Or.inl ⟨by rfl,?hyT125_1⟩) (by assumption) ?restT125_1
       case hyT125_1=>(intro w hSw; (try dsimp only at hSw); obtain ⟨q1,q2⟩:=hSw; go_simp; try with_reducible rfl)
       (try simp only [Act.put,List.getElem_toArray,List.getElem_cons_succ,List.getElem_cons_zero,List.setIfInBounds_toArray,List.set_cons_zero,List.set_cons_succ])
       refine wpAnyH_take (i:=1) (v:=?vT125_2) rfl (by kernel_rfl) (by kernel_rfl) (by kernel_rfl) (fun _ _ _ h=>h) (Or.inl ⟨by rfl,?hyT125_2⟩) (by assumption) ?restT125_2
       case hyT125_2=>(intro w hSw; (try dsimp only at hSw); obtain ⟨q1,q2⟩:=hSw; go_simp; try with_reducible rfl)
       (try simp only [Act.put,List.getElem_toArray,List.getElem_cons_succ,List.getElem_cons_zero,List.setIfInBounds_toArray,List.set_cons_zero,List.set_cons_succ])
       refine wpAnyH_take (i:=2) (v:=?vT125_3) rfl (by kernel_rfl) (by kernel_rfl) (by kernel_rfl) (fun _ _ _ h=>h) (Or.inl ⟨by rfl,?hyT125_3⟩) (by assumption) ?restT125_3
       case hyT125_3=>(intro w hSw; (try dsimp only at hSw); obtain ⟨q1,q2⟩:=hSw; go_simp; try with_reducible rfl)
       (try simp only [Act.put,List.getElem_toArray,List.getElem_cons_succ,List.getElem_cons_zero,List.setIfInBounds_toArray,List.set_cons_zero,List.set_cons_succ])
       refine wpAnyH_take (i:=3) (v:=?vT125_4) rfl (by kernel_rfl) (by kernel_rfl) (by kernel_rfl) (fun _ _ _ h=>h) (Or.inl ⟨by rfl,?hyT125_4⟩) (by assumption) ?restT125_4
       case hyT125_4=>(intro w hSw; (try dsimp only at hSw); obtain ⟨q1,q2⟩:=hSw; go_simp; try with_reducible rfl)
       (try simp only [Act.put,List.getElem_toArray,List.getElem_cons_succ,List.getElem_cons_zero,List.setIfInBounds_toArray,List.set_cons_zero,List.set_cons_succ])
       refine wpAnyH_take (i:=4) (v:=?vT125_5) rfl (by kernel_rfl) (by kernel_rfl) (by kernel_rfl) (fun _ _ _ h=>h) (Or.inl ⟨by rfl,?hyT125_5⟩) (by assumption) ?restT125_5
       case hyT125_5=>(intro w hSw; (try dsimp only at hSw); obtain ⟨q1,q2⟩:=hSw; go_simp; try with_reducible rfl)
       (try simp only [Act.put,List.getElem_toArray,List.getElem_cons_succ,List.getElem_cons_zero,List.setIfInBounds_toArray,List.set_cons_zero,List.set_cons_succ])
       refine wpAnyH_take (i:=5) (v:=?vT125_6) rfl (by kernel_rfl) (by kernel_rfl) (by kernel_rfl) (fun _ _ _ h=>h) (Or.inl ⟨by rfl,?hyT125_6⟩) (by assumption) ?restT125_6
       case hyT125_6=>(intro w hSw; (try dsimp only at hSw); obtain ⟨q1,q2⟩:=hSw; go_simp; try with_reducible rfl)
       (try simp only [Act.put,List.getElem_toArray,List.getElem_cons_succ,List.getElem_cons_zero,List.setIfInBounds_toArray,List.set_cons_zero,List.set_cons_succ])
       refine wpAnyH_take (i:=6) (v:=?vT125_7) rfl (by kernel_rfl) (by kernel_rfl) (by kernel_rfl) (fun _ _ _ h=>h) (Or.inl ⟨by rfl,?hyT125_7⟩) (by assumption) ?restT125_7
       case hyT125_7=>(intro w hSw; (try dsimp only at hSw); obtain ⟨q1,q2⟩:=hSw; go_simp; try with_reducible rfl)
       (try simp only [Act.put,List.getElem_toArray,List.getElem_cons_succ,List.getElem_cons_zero,List.setIfInBounds_toArray,List.set_cons_zero,List.set_cons_succ])
       refine wpAnyH_take (i:=7) (v:=?vT125_8) rfl (by kernel_rfl) (by kernel_rfl) (by kernel_rfl) (fun _ _ _ h=>h) (Or.inl ⟨by rfl,?hyT125_8⟩) (by assumption) ?restT125_8
       case hyT125_8=>(intro w hSw; (try dsimp only at hSw); obtain ⟨q1,q2⟩:=hSw; go_simp; try with_reducible rfl)
       (try simp only [Act.put,List.getElem_toArray,List.getElem_cons_succ,List.getElem_cons_zero,List.setIfInBounds_toArray,List.set_cons_zero,List.set_cons_succ])
       refine wpAnyH_ready (rs:=[8]) (by kernel_rfl) (by simp) ?_
       refine AllReadyH.cons rfl (fun K hK=>?_) AllReadyH.nil
       have hlk:=HLK.out
       go_simp
       clear hlk
       refine hK.out _ _ m0.out (fun hHeld=>?_)
       clear hK K
       (try simp only [Act.put,List.getElem_toArray,List.getElem_cons_succ,List.getElem_cons_zero,List.setIfInBounds_toArray,List.set_cons_zero,List.set_cons_succ])
       refine wpAnyH_take (i:=9) (v:=?vT125_9) rfl (by kernel_rfl) (by kernel_rfl) (by kernel_rfl) (fun _ _ _ h=>h) (Or.inl ⟨by rfl,?hyT125_9⟩) (by assumption) ?restT125_9
       case hyT125_9=>(intro w hSw; (try dsimp only at hSw); obtain ⟨q1,q2⟩:=hSw; go_simp; try with_reducible rfl)
       (try simp only [Act.put,List.getElem_toArray,List.getElem_cons_succ,List.getElem_cons_zero,List.setIfInBounds_toArray,List.set_cons_zero,List.set_cons_succ])
       refine wpAnyH_ready (rs:=[10]) (by kernel_rfl) (by simp) ?_
       refine AllReadyH.cons rfl (fun K hK=>?_) AllReadyH.nil
       have hmu : (Instr.mapUpdate 84 (.map (some mb)) (S key) (.int .i64 (IntKind.i64.wrap 1))).run Tryz.prog (w3.setCell ⟨rb,0,none⟩ (.slice na (E.length + 1) nc)).drew=.ok () w6:=HMU.out
       go_simp
       clear hmu
       refine hK.out _ _ m1.out (fun hHeld=>?_)
       clear hK K
       (try simp only [Act.put,List.getElem_toArray,List.getElem_cons_succ,List.getElem_cons_zero,List.setIfInBounds_toArray,List.set_cons_zero,List.set_cons_succ])
       refine wpAnyH_done (by kernel_rfl) ?_ _
       refine NoPanic.normal ?_
       obtain ⟨y1,y2,y3,y4⟩:=two_cells HBX6.out
       go_wp2_with fail
       obtain ⟨z1,z2,_,_⟩:=two_cells (set_two HBX6.out (.int .i64 0) (.int .i64 0))
       exact bodyPost_ret (v:=.agg #[.int .i64 0,.int .i64 0]) (by simp [results,Tryz.results37,go_sem,z1,z2]) rfl ⟨HFIN.out.2,Or.inr (Or.inr ⟨rfl,HW.out,rfl,HFIN.out.1⟩)⟩
      exact AllReadyH.nil
     exact AllReadyH.nil
    exact AllReadyH.nil
   refine AllReadyH.cons rfl (fun K hK=>?_) ?_
   ·go_simp
    refine hK.out _ _ (by (first | exact s0.out | exact s1.out | exact s2.out | exact s3.out)) (fun hHeld=>?_)
    clear hK K
    (try simp only [Act.put,List.getElem_toArray,List.getElem_cons_succ,List.getElem_cons_zero,List.setIfInBounds_toArray,List.set_cons_zero,List.set_cons_succ])
    refine wpAnyH_ready (rs:=[4]) (by kernel_rfl) (by simp) ?_
    refine AllReadyH.cons rfl (fun K hK=>?_) ?_
    ·go_simp
     refine hK.out _ _ (by (first | exact s0.out | exact s1.out | exact s2.out | exact s3.out)) (fun hHeld=>?_)
     clear hK K
     (try simp only [Act.put,List.getElem_toArray,List.getElem_cons_succ,List.getElem_cons_zero,List.setIfInBounds_toArray,List.set_cons_zero,List.set_cons_succ])
     refine wpAnyH_ready (rs:=[16]) (by kernel_rfl) (by simp) ?_
     refine AllReadyH.cons rfl (fun K hK=>?_) ?_
     ·refine step_append_run rfl (.tmp 24) (.tmp 35) 85 rfl _ _ _ _ (by simp [Act.eval,Act.put]) (by simp [Act.eval,Act.put]) 85 rfl HR.out ?_
      refine hK.out _ _ (by (first | exact s0.out | exact s1.out | exact s2.out | exact s3.out)) (fun hHeld=>?_)
      clear hK K
      (try simp only [Act.put,List.getElem_toArray,List.getElem_cons_succ,List.getElem_cons_zero,List.setIfInBounds_toArray,List.set_cons_zero,List.set_cons_succ])
      refine wpAnyH_take (i:=17) (v:=?v126) rfl (by kernel_rfl) (by kernel_rfl) (by kernel_rfl) (fun _ _ _ h=>h) (Or.inl ⟨by rfl,?hy126⟩) (by assumption) ?rest126
      case hy126=>(intro w hSw; (try dsimp only at hSw); obtain ⟨q1,q2,q3⟩:=hSw; go_simp; try with_reducible rfl)
      (try simp only [Act.put,List.getElem_toArray,List.getElem_cons_succ,List.getElem_cons_zero,List.setIfInBounds_toArray,List.set_cons_zero,List.set_cons_succ])
      refine wpAnyH_take (i:=18) (v:=?v127) rfl (by kernel_rfl) (by kernel_rfl) (by kernel_rfl) (fun _ _ _ h=>h) (Or.inl ⟨by rfl,?hy127⟩) (by assumption) ?rest127
      case hy127=>(intro w hSw; (try dsimp only at hSw); obtain ⟨q1,q2,q3⟩:=hSw; go_simp; try with_reducible rfl)
      (try simp only [Act.put,List.getElem_toArray,List.getElem_cons_succ,List.getElem_cons_zero,List.setIfInBounds_toArray,List.set_cons_zero,List.set_cons_succ])
      refine wpAnyH_ready (rs:=[19]) (by kernel_rfl) (by simp) ?_
      refine AllReadyH.cons rfl (fun K hK=>?_) ?_
      ·go_simp
       refine hK.out _ _ (by (first | exact s0.out | exact s1.out | exact s2.out | exact s3.out)) (fun hHeld=>?_)
       clear hK K
       (try simp only [Act.put,List.getElem_toArray,List.getElem_cons_succ,List.getElem_cons_zero,List.setIfInBounds_toArray,List.set_cons_zero,List.set_cons_succ])
       refine wpAnyH_done (by kernel_rfl) ?_ _
       refine NoPanic.normal ?_
       go_wp2_with fail
       refine wp_region_noPanic ?_
       refine wp_region_held_drew (S:=(fun w'=>w'.cell? ⟨rb,1,none⟩=some (.map (some mb))∧w'.cell? ⟨rb,4,none⟩=some (S key))) (by kernel_rfl) m0.out (fun hHeld=>?_)
       refine wpAnyH_take (i:=0) (v:=?vT227_1) rfl (by kernel_rfl) (by kernel_rfl) (by kernel_rfl) (fun _ _ _ h=>h) (Or.inl ⟨by rfl,?hyT227_1⟩) (by assumption) ?restT227_1
       case hyT227_1=>(intro w hSw; (try dsimp only at hSw); obtain ⟨q1,q2⟩:=hSw; go_simp; try with_reducible rfl)
       (try simp only [Act.put,List.getElem_toArray,List.getElem_cons_succ,List.getElem_cons_zero,List.setIfInBounds_toArray,List.set_cons_zero,List.set_cons_succ])
       refine wpAnyH_take (i:=1) (v:=?vT227_2) rfl (by kernel_rfl) (by kernel_rfl) (by kernel_rfl) (fun _ _ _ h=>h) (Or.inl ⟨by rfl,?hyT227_2⟩) (by assumption) ?restT227_2
       case hyT227_2=>(intro w hSw; (try dsimp only at hSw); obtain ⟨q1,q2⟩:=hSw; go_simp; try with_reducible rfl)
       (try simp only [Act.put,List.getElem_toArray,List.getElem_cons_succ,List.getElem_cons_zero,List.setIfInBounds_toArray,List.set_cons_zero,List.set_cons_succ])
       refine wpAnyH_take (i:=2) (v:=?vT227_3) rfl (by kernel_rfl) (by kernel_rfl) (by kernel_rfl) (fun _ _ _ h=>h) (Or.inl ⟨by rfl,?hyT227_3⟩) (by assumption) ?restT227_3
       case hyT227_3=>(intro w hSw; (try dsimp only at hSw); obtain ⟨q1,q2⟩:=hSw; go_simp; try with_reducible rfl)
       (try simp only [Act.put,List.getElem_toArray,List.getElem_cons_succ,List.getElem_cons_zero,List.setIfInBounds_toArray,List.set_cons_zero,List.set_cons_succ])
       refine wpAnyH_take (i:=3) (v:=?vT227_4) rfl (by kernel_rfl) (by kernel_rfl) (by kernel_rfl) (fun _ _ _ h=>h) (Or.inl ⟨by rfl,?hyT227_4⟩) (by assumption) ?restT227_4
       case hyT227_4=>(intro w hSw; (try dsimp only at hSw); obtain ⟨q1,q2⟩:=hSw; go_simp; try with_reducible rfl)
       (try simp only [Act.put,List.getElem_toArray,List.getElem_cons_succ,List.getElem_cons_zero,List.setIfInBounds_toArray,List.set_cons_zero,List.set_cons_succ])
       refine wpAnyH_take (i:=4) (v:=?vT227_5) rfl (by kernel_rfl) (by kernel_rfl) (by kernel_rfl) (fun _ _ _ h=>h) (Or.inl ⟨by rfl,?hyT227_5⟩) (by assumption) ?restT227_5
       case hyT227_5=>(intro w hSw; (try dsimp only at hSw); obtain ⟨q1,q2⟩:=hSw; go_simp; try with_reducible rfl)
       (try simp only [Act.put,List.getElem_toArray,List.getElem_cons_succ,List.getElem_cons_zero,List.setIfInBounds_toArray,List.set_cons_zero,List.set_cons_succ])
       refine wpAnyH_take (i:=5) (v:=?vT227_6) rfl (by kernel_rfl) (by kernel_rfl) (by kernel_rfl) (fun _ _ _ h=>h) (Or.inl ⟨by rfl,?hyT227_6⟩) (by assumption) ?restT227_6
       case hyT227_6=>(intro w hSw; (try dsimp only at hSw); obtain ⟨q1,q2⟩:=hSw; go_simp; try with_reducible rfl)
       (try simp only [Act.put,List.getElem_toArray,List.getElem_cons_succ,List.getElem_cons_zero,List.setIfInBounds_toArray,List.set_cons_zero,List.set_cons_succ])
       refine wpAnyH_take (i:=6) (v:=?vT227_7) rfl (by kernel_rfl) (by kernel_rfl) (by kernel_rfl) (fun _ _ _ h=>h) (Or.inl ⟨by rfl,?hyT227_7⟩) (by assumption) ?restT227_7
       case hyT227_7=>(intro w hSw; (try dsimp only at hSw); obtain ⟨q1,q2⟩:=hSw; go_simp; try with_reducible rfl)
       (try simp only [Act.put,List.getElem_toArray,List.getElem_cons_succ,List.getElem_cons_zero,List.setIfInBounds_toArray,List.set_cons_zero,List.set_cons_succ])
       refine wpAnyH_take (i:=7) (v:=?vT227_8) rfl (by kernel_rfl) (by kernel_rfl) (by kernel_rfl) (fun _ _ _ h=>h) (Or.inl ⟨by rfl,?hyT227_8⟩) (by assumption) ?restT227_8
       case hyT227_8=>(intro w hSw; (try dsimp only at hSw); obtain ⟨q1,q2⟩:=hSw; go_simp; try with_reducible rfl)
       (try simp only [Act.put,List.getElem_toArray,List.getElem_cons_succ,List.getElem_cons_zero,List.setIfInBounds_toArray,List.set_cons_zero,List.set_cons_succ])
       refine wpAnyH_ready (rs:=[8]) (by kernel_rfl) (by simp) ?_
       refine AllReadyH.cons rfl (fun K hK=>?_) AllReadyH.nil
       have hlk:=HLK.out
       go_simp
       clear hlk
       refine hK.out _ _ m0.out (fun hHeld=>?_)
       clear hK K
       (try simp only [Act.put,List.getElem_toArray,List.getElem_cons_succ,List.getElem_cons_zero,List.setIfInBounds_toArray,List.set_cons_zero,List.set_cons_succ])
       refine wpAnyH_take (i:=9) (v:=?vT227_9) rfl (by kernel_rfl) (by kernel_rfl) (by kernel_rfl) (fun _ _ _ h=>h) (Or.inl ⟨by rfl,?hyT227_9⟩) (by assumption) ?restT227_9
       case hyT227_9=>(intro w hSw; (try dsimp only at hSw); obtain ⟨q1,q2⟩:=hSw; go_simp; try with_reducible rfl)
       (try simp only [Act.put,List.getElem_toArray,List.getElem_cons_succ,List.getElem_cons_zero,List.setIfInBounds_toArray,List.set_cons_zero,List.set_cons_succ])
       refine wpAnyH_ready (rs:=[10]) (by kernel_rfl) (by simp) ?_
       refine AllReadyH.cons rfl (fun K hK=>?_) AllReadyH.nil
       have hmu : (Instr.mapUpdate 84 (.map (some mb)) (S key) (.int .i64 (IntKind.i64.wrap 1))).run Tryz.prog (w3.setCell ⟨rb,0,none⟩ (.slice na (E.length + 1) nc)).drew=.ok () w6:=HMU.out
       go_simp
       clear hmu
       refine hK.out _ _ m1.out (fun hHeld=>?_)
       clear hK K
       (try simp only [Act.put,List.getElem_toArray,List.getElem_cons_succ,List.getElem_cons_zero,List.setIfInBounds_toArray,List.set_cons_zero,List.set_cons_succ])
       refine wpAnyH_done (by kernel_rfl) ?_ _
       refine NoPanic.normal ?_
       obtain ⟨y1,y2,y3,y4⟩:=two_cells HBX6.out
       go_wp2_with fail
       obtain ⟨z1,z2,_,_⟩:=two_cells (set_two HBX6.out (.int .i64 0) (.int .i64 0))
       exact bodyPost_ret (v:=.agg #[.int .i64 0,.int .i64 0]) (by simp [results,Tryz.results37,go_sem,z1,z2]) rfl ⟨HFIN.out.2,Or.inr (Or.inr ⟨rfl,HW.out,rfl,HFIN.out.1⟩)⟩
      exact AllReadyH.nil
     exact AllReadyH.nil
    exact AllReadyH.nil
   exact AllReadyH.nil
  ·obtain ⟨c,hc⟩ : ∃ c,c=wrongP E key val:=⟨_,rfl⟩
   have HC:=Lib.hid hc
   rw [← hc] at HWR hw
   have k1 : ((c : Int) != 0)=true:=by rw [bne_iff_ne]; omega
   have HNZ:=Lib.hid hw
   clear hw hc
   go_enter Tryz.func37,Tryz.ntmps37
   go_wp2_with (first | (go_at_call 68; rw [← HWB.out]; refine (HWR.out _ H1.out).mono ?_; rintro e w2 ⟨rfl,hb2⟩; refine Hid.out ?_) | fail)
   refine Lib.hid ?_
   obtain ⟨ev,vv,hx⟩:=H1.out.on hb2
   have HX:=Lib.hid hx
   have e3:=hx.cells.2.2.2.1
   have HBX2:=Lib.hid ((hb2.block _ (heap_lt HBX.out)).trans HBX.out)
   have HBW : Hid (Below w.heap.size w w2):=HB0.out.trans (hb2.mono HB0.out.size)
   obtain ⟨y1,y2,y3,y4⟩:=two_cells HBX2.out
   clear hx hb2
   go_wp2_with fail
   obtain ⟨z1,z2,_,_⟩:=two_cells (set_two HBX2.out (.int .i64 (c : Int)) (.int .i64 (s : Int)))
   have hkb : ∀ k,k ≠ w.heap.size→((w2.setCell ⟨w.heap.size,0,none⟩ (.int .i64 (c : Int))).setCell ⟨w.heap.size,1,none⟩ (.int .i64 (s : Int))).heap[k]?=w2.heap[k]?:=fun k hne=>by
    rw [Below.heap_setCell _ _ _ _ hne,Below.heap_setCell _ _ _ _ hne]
   exact bodyPost_ret (v:=.agg #[.int .i64 (c : Int),.int .i64 (s : Int)]) (by simp [results,Tryz.results37,go_sem,z1,z2]) rfl ⟨⟨((HBW.out.mono HBG.out).setCell HBG.out _).setCell HBG.out _,fun k cs t fz hkk a b c'=>by
    rw [hkb k (by have:=heap_lt hkk; omega)]; exact (HBW.out.block k (heap_lt hkk)).trans hkk⟩,Or.inr (Or.inl ⟨rfl,by rw [← HC.out]; exact HNZ.out,by rw [← HC.out],⟨_,_,HX.out.other HBX2.out hkb (by simp)⟩⟩)⟩
end Go.Proofs.YtghnopkgcgfcpaaGreatDoor.Table
