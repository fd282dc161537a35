/-
  MERGED by mergefill.py: PthBoxW, PthTak, PthPDom, PthForm, PthLong, PthRgt, PthMbx.
-/
import Derived.Test.YtghnopkgcgfcpaaGreatDoorPthQuoMg
set_option maxHeartbeats 16000000
set_option maxRecDepth 100000
namespace Go.Proofs.YtghnopkgcgfcpaaGreatDoor.Path
open Go.RowKit Base
theorem pMailbox {w0 : World} {L : ByteArray→Nat→Bool × Nat × ByteArray} (hL : LitOk w0 L) (g k : Nat) (s : ByteArray) (w : World) (hg0 : w0.heap.size≤g) (hE : Below w0.heap.size w0 w) (h : RdAt w g s k) (hk : k≤s.size) (hs : s.size≤4000000000) :
  Calls Tryz.prog 81 #[.pointer (some ⟨g,0,none⟩)] w (BoxEnd g s w (mbx L s k)):=by
 have HR:=Lib.hid h
 obtain ⟨x0,x1,x2⟩:=h.cells
 have HLi:=Lib.hid hL
 have HG0 : Hid (w0.heap.size≤g):=hg0
 have HE0 : Hid (∀ w',KeepX g w w'→Below w0.heap.size w0 w'):=fun w' hk=>hE.trans (hk.below hg0 (heap_lt h))
 have hgB:=h.lt
 obtain ⟨HBW,HP0,HP1⟩:=two_boxes w
 have HRW:=h.on HBW
 have HBW:=Lib.hid HBW
 have HP0:=Lib.hid HP0
 have HP1:=Lib.hid HP1
 have C1:=Lib.hid (pLocal g k s _ HRW hk (by omega))
 have HRW:=Lib.hid HRW
 have hle:=loc_le s k hk
 have HAS:=Lib.hid (loc_ascii s k hk)
 obtain ⟨D,hD⟩ : ∃ D,D=mbx L s k:=⟨_,rfl⟩
 rw [← hD]
 have HD:=Lib.hid hD
 unfold mbx at HD
 generalize hlo : loc s k=lo at C1 HD HAS hle
 obtain ⟨b1,m,l⟩:=lo
 have hkm : k≤m:=hle.2
 have hms : m≤s.size:=hle.1
 unfold pathO at HBW HP0 HP1 C1 HRW
 clear h hL hD hlo hle hg0 hE
 cases b1 with
 | false =>
  have HT : Hid (D=(false,m,PV.zero)):=HD.out
  clear HD
  go_enter Tryz.func81,Tryz.ntmps81
  go_wp2
  refine wp_scope_fwd fun F hF=>?_
  have HF:=Lib.hid hF
  clear hF
  go_wp2_with (first | (go_at_call 122; refine C1.out.mono ?_; rintro ee w1 ⟨rfl,h1,q1⟩; refine Hid.out ?_) | fail)
  refine Lib.hid ?_
  have h1 : RdAt w1 g s m:=h1
  have HR1:=Lib.hid h1
  have HQ1:=Lib.hid q1
  have p1 : PathAt w1 (w.heap.size + 1) PV.zero:=HP1.out.kept q1 (by omega)
  have p0 : PathAt w1 w.heap.size PV.zero:=HP0.out.kept q1 (by omega)
  obtain ⟨c0,c1,c2,c3,f0,f1,f2,f3⟩:=four_cells p1
  have hP0:=Lib.hid p0
  have hP1:=Lib.hid p1
  clear h1 q1 p1 p0
  go_wp2
  go_step3
  refine ⟨_,by rw [HF.out]; rfl,?_⟩
  clear HF
  obtain ⟨W1,hW1⟩ : ∃ W1,W1=w1.setCell ⟨w.heap.size + 1,1,none⟩ (.string l):=⟨_,rfl⟩
  rw [← hW1]
  have HQ : Hid (KeepX (w.heap.size + 1) w1 W1):=by rw [hW1]; exact KeepX.set _ _ _ _
  have p0 : PathAt W1 w.heap.size PV.zero:=hP0.out.kept HQ.out (by omega)
  obtain ⟨d0,d1,d2,d3,e0,e1,e2,e3⟩:=four_cells p0
  have hP2:=Lib.hid p0
  clear hW1 p0
  go_wp2
  rw [Exit.noGoto_ret]
  (try simp only [Exit.inBlock,Exit.then])
  refine bodyPost_ret (results_path Tryz.results81 rfl rfl (path_four hP2.out PV.zero)) rfl ?_
  rw [HT.out]
  exact ⟨rfl,rd_keptK (rd_keptK HR1.out HQ.out (by omega)) (keepX_four _ _ _ _ _ _) (by omega),keepX_above (keepX_above ((KeepX.of_below HBW.out).trans HQ1.out) HQ.out (by omega)) (keepX_four _ _ _ _ _ _) (by omega)⟩
 | true =>
  have HA:=Lib.hid (HAS.out rfl)
  have C2 : Hid (∀ W,RdAt W g s m→Calls Tryz.prog 63 #[.pointer (some ⟨g,0,none⟩),.int .u8 64] W fun e w'=>e=.returned (.bool (hasB s m 64))∧RdAt w' g s (if hasB s m 64=true then m + 1 else m)∧KeepX g W w') :=
   fun W h1=>pHas g m s 64 W h1 hms (by omega)
  have HLT : Hid (hasB s m 64=true→m < s.size):=hasB_lt
  have HT : Hid (D=if hasB s m 64=true then
   ((hst L s (m + 1)).1,(hst L s (m + 1)).2.1,if (hst L s (m + 1)).1 then ⟨false,l,(hst L s (m + 1)).2.2.2,(hst L s (m + 1)).2.2.1⟩ else PV.zero)
   else if Lib.equalFold (s.extract k m).data.toList postB then (true,m,⟨false,⟨postB.toArray⟩,⟨#[]⟩,false⟩) else (false,m,PV.zero)):=HD.out
  generalize hasB s m 64=hb at C2 HLT HT
  clear HD HAS
  go_enter Tryz.func81,Tryz.ntmps81
  go_wp2
  refine wp_scope_fwd fun F hF=>?_
  have HF:=Lib.hid hF
  clear hF
  go_wp2_with (first | (go_at_call 122; refine C1.out.mono ?_; rintro ee w1 ⟨rfl,h1,q1⟩; refine Hid.out ?_) | fail)
  refine Lib.hid ?_
  have h1 : RdAt w1 g s m:=h1
  have HQ1:=Lib.hid q1
  have p1 : PathAt w1 (w.heap.size + 1) PV.zero:=HP1.out.kept q1 (by omega)
  have p0 : PathAt w1 w.heap.size PV.zero:=HP0.out.kept q1 (by omega)
  obtain ⟨c0,c1,c2,c3,f0,f1,f2,f3⟩:=four_cells p1
  have HS1 : Hid (KeepX (w.heap.size + 1) w1 (w1.setCell ⟨w.heap.size + 1,1,none⟩ (.string l))):=KeepX.set _ _ _ _
  have HR1:=Lib.hid (rd_keptK h1 HS1.out (by omega))
  have hP0:=Lib.hid (p0.kept HS1.out (by omega))
  have hP1 : Hid (PathAt (w1.setCell ⟨w.heap.size + 1,1,none⟩ (.string l)) (w.heap.size + 1) ⟨false,l,⟨#[]⟩,false⟩):=path_one p1 l
  clear h1 q1 p1 p0
  cases hb with
  | false =>
   have HEF:=Lib.hid (fun W=>Tryz.strings_EqualFold (s.extract k m) ⟨postB.toArray⟩ W (ext_le3 hs k m) (ext_ascii hms HA.out) post_ascii)
   have HT2 : Hid (D=if Lib.equalFold (s.extract k m).data.toList postB then (true,m,⟨false,⟨postB.toArray⟩,⟨#[]⟩,false⟩) else (false,m,PV.zero)):=HT.out
   go_wp2_with (first | (go_at_call 63; refine (C2.out _ HR1.out).mono ?_; rintro ee w2 ⟨rfl,h2,q2⟩; refine Hid.out ?_) | fail)
   refine Lib.hid ?_
   have h2 : RdAt w2 g s m:=h2
   have HQ2:=Lib.hid q2
   have HR2:=Lib.hid h2
   have HK2 : Hid (KeepX g w w2):=(keepX_above ((KeepX.of_below HBW.out).trans HQ1.out) HS1.out (by omega)).trans q2
   obtain ⟨y0,y1,y2⟩:=h2.cells
   have p0:=hP0.out.kept q2 (by omega)
   obtain ⟨d0,d1,d2,d3,e0,e1,e2,e3⟩:=four_cells p0
   have hP2:=Lib.hid p0
   have k0 : (0 : Int)≤(k : Int):=by omega
   have k1 : (k : Int)≤(m : Int):=by omega
   have k2 : (m : Int)≤(s.size : Int):=by omega
   have k3 : k≤m:=by omega
   unfold postB at HEF HT2
   generalize hef : Lib.equalFold (s.extract k m).data.toList [112,111,115,116,109,97,115,116,101,114]=ef at HT2
   have HEF2 : Hid (∀ W,Calls Tryz.prog 97 #[.string (s.extract k m),.string ⟨#[112,111,115,116,109,97,115,116,101,114]⟩] W fun e w'=>e=.returned (.bool ef)∧w'=W):=fun W=>by have e:=HEF.out W; rw [← hef]; exact e
   clear p0 h2 q2 HEF hef
   cases ef with
   | false =>
    go_wp2
    go_quiet ((go_at_call 97; exact Calls.quiet_of_same (HEF2.out _)))
    go_wp2
    go_step3
    refine ⟨_,by rw [HF.out]; rfl,?_⟩
    clear HF
    go_wp2
    rw [Exit.noGoto_ret]
    (try simp only [Exit.inBlock,Exit.then])
    refine bodyPost_ret (results_path Tryz.results81 rfl rfl (path_four (show PathAt (w2.drewN nq) _ _ from hP2.out) PV.zero)) rfl ?_
    rw [HT2.out]
    exact ⟨rfl,rd_keptK (HR2.out.drewN nq) (keepX_four _ _ _ _ _ _) (by omega),keepX_above (HK2.out.trans (KeepX.drewN nq)) (keepX_four _ _ _ _ _ _) (by omega)⟩
   | true =>
    go_wp2
    go_quiet ((go_at_call 97; exact Calls.quiet_of_same (HEF2.out _)))
    go_wp2
    rw [Exit.fwd_ret]
    (try simp only [Exit.inBlock,Exit.then])
    refine bodyPost_ret (results_path Tryz.results81 rfl rfl (path_four (show PathAt (w2.drewN nq) _ _ from hP2.out) ⟨false,⟨#[112,111,115,116,109,97,115,116,101,114]⟩,⟨#[]⟩,false⟩)) rfl ?_
    rw [HT2.out]
    exact ⟨rfl,rd_keptK (HR2.out.drewN nq) (keepX_four _ _ _ _ _ _) (by omega),keepX_above (HK2.out.trans (KeepX.drewN nq)) (keepX_four _ _ _ _ _ _) (by omega)⟩
  | true =>
   have hmlt : m < s.size:=HLT.out rfl
   have HT2 : Hid (D=((hst L s (m + 1)).1,(hst L s (m + 1)).2.1,if (hst L s (m + 1)).1 then ⟨false,l,(hst L s (m + 1)).2.2.2,(hst L s (m + 1)).2.2.1⟩ else PV.zero)):=HT.out
   have C3 : Hid (∀ W,KeepX g w W→RdAt W g s (m + 1)→Calls Tryz.prog 32 #[.pointer (some ⟨g,0,none⟩)] W (HostEnd g s W (hst L s (m + 1)))):=fun W hq h1=>pHost HLi.out g (m + 1) s W HG0.out (HE0.out W hq) h1 (by omega) (by omega)
   generalize hst L s (m + 1)=ho at HT2 C3
   obtain ⟨b2,m2,t,dm⟩:=ho
   go_wp2_with (first | (go_at_call 63; refine (C2.out _ HR1.out).mono ?_; rintro ee w2 ⟨rfl,h2,q2⟩; refine Hid.out ?_) | fail)
   refine Lib.hid ?_
   have h2 : RdAt w2 g s (m + 1):=h2
   have HR2:=Lib.hid h2
   have HK2 : Hid (KeepX g w w2):=(keepX_above ((KeepX.of_below HBW.out).trans HQ1.out) HS1.out (by omega)).trans q2
   have p0:=hP0.out.kept q2 (by omega)
   have p1:=hP1.out.kept q2 (by omega)
   have hP0':=Lib.hid p0
   have hP1':=Lib.hid p1
   clear p0 p1 h2 q2 c0 c1 c2 c3 f0 f1 f2 f3
   go_wp2_with (first | (go_at_call 32; refine (C3.out _ HK2.out HR2.out).mono ?_; rintro ee w3 ⟨rfl,h3,q3⟩; refine Hid.out ?_) | fail)
   refine Lib.hid ?_
   have h3 : RdAt w3 g s m2:=h3
   have HR3:=Lib.hid h3
   have HK3 : Hid (KeepX g w w3):=HK2.out.trans q3
   have p0:=hP0'.out.kept q3 (by omega)
   have p1:=hP1'.out.kept q3 (by omega)
   obtain ⟨c0,c1,c2,c3,f0,f1,f2,f3⟩:=four_cells p1
   have hP03:=Lib.hid p0
   have hP13:=Lib.hid p1
   obtain ⟨d0,d1,d2,d3,e0,e1,e2,e3⟩:=four_cells p0
   have HS3 : Hid (KeepX (w.heap.size + 1) w3 ((w3.setCell ⟨w.heap.size + 1,2,none⟩ (.string dm)).setCell ⟨w.heap.size + 1,3,none⟩ (.bool t))):=(KeepX.set _ _ 2 _).trans (KeepX.set _ _ 3 _)
   have hPW:=Lib.hid (hP03.out.kept HS3.out (by omega))
   have HRW2:=Lib.hid (rd_keptK HR3.out HS3.out (by omega))
   have HKW:=Lib.hid (keepX_above HK3.out HS3.out (by omega))
   clear p0 p1 h3 q3
   cases b2 with
   | false =>
    go_wp2
    go_step3
    refine ⟨_,by rw [HF.out]; rfl,?_⟩
    clear HF
    go_wp2
    rw [Exit.noGoto_ret]
    (try simp only [Exit.inBlock,Exit.then])
    refine bodyPost_ret (results_path Tryz.results81 rfl rfl (path_four hPW.out PV.zero)) rfl ?_
    rw [HT2.out]
    exact ⟨rfl,rd_keptK HRW2.out (keepX_four _ _ _ _ _ _) (by omega),keepX_above HKW.out (keepX_four _ _ _ _ _ _) (by omega)⟩
   | true =>
    go_wp2
    rw [Exit.fwd_ret]
    (try simp only [Exit.inBlock,Exit.then])
    refine bodyPost_ret (results_path Tryz.results81 rfl rfl (path_four hPW.out ⟨false,l,dm,t⟩)) rfl ?_
    rw [HT2.out]
    exact ⟨rfl,rd_keptK HRW2.out (keepX_four _ _ _ _ _ _) (by omega),keepX_above HKW.out (keepX_four _ _ _ _ _ _) (by omega)⟩
end Go.Proofs.YtghnopkgcgfcpaaGreatDoor.Path
set_option maxHeartbeats 16000000
set_option maxRecDepth 100000
namespace Go.Proofs.YtghnopkgcgfcpaaGreatDoor.Path
open Go.RowKit Base
theorem mbx_le {w0 : World} {L : ByteArray→Nat→Bool × Nat × ByteArray} (hL : LitOk w0 L) (s : ByteArray) (k : Nat) (hk : k≤s.size) : (mbx L s k).2.1≤s.size∧k≤(mbx L s k).2.1:=by
 have h1:=loc_le s k hk
 unfold mbx
 split
 ·split
  ·rename_i hb
   have:=hasB_lt hb
   have h2:=hst_le hL s ((loc s k).2.1 + 1) this
   exact ⟨h2.1,Nat.le_trans h1.2 (Nat.le_trans (Nat.le_succ _) h2.2)⟩
  ·split <;> exact h1
 ·exact h1
def tak (L : ByteArray→Nat→Bool × Nat × ByteArray) (s : ByteArray) : Bool × PV :=
 if s.size=0 then (true,⟨true,⟨#[]⟩,⟨#[]⟩,false⟩)
 else if (mbx L s 0).1=true∧(mbx L s 0).2.1=s.size then (true,(mbx L s 0).2.2) else (false,PV.zero)
def TakEnd (w : World) (r : Bool × PV) (e : Ending) (w' : World) : Prop:=e=.returned (.tuple #[r.2.val,.bool r.1])∧Below w.heap.size w w'
theorem below_four {w0 w : World} (b : Nat) (hb : w0.heap.size≤b) (h : Below w0.heap.size w0 w) (x y z u : Value) : Below w0.heap.size w0 ((((w.setCell ⟨b,0,none⟩ x).setCell ⟨b,1,none⟩ y).setCell ⟨b,2,none⟩ z).setCell ⟨b,3,none⟩ u):=by
 have q:=keepX_four w b x y z u
 exact ⟨q.os.trans h.os,q.tape.trans h.tape,q.output.trans h.output,Nat.le_trans h.size q.size,fun k hk=>(q.block k (Nat.lt_of_lt_of_le hk h.size) (by omega)).trans (h.block k hk)⟩
theorem below_of_keep {w0 W w : World} {g : Nat} (hg : w0.heap.size≤g) (h : Below w0.heap.size w0 W) (q : KeepX g W w) : Below w0.heap.size w0 w :=
 ⟨q.os.trans h.os,q.tape.trans h.tape,q.output.trans h.output,Nat.le_trans h.size q.size,fun k hk=>(q.block k (Nat.lt_of_lt_of_le hk h.size) (by omega)).trans (h.block k hk)⟩
theorem path_alloc {w : World} {b : Nat} {p : PV} (h : PathAt w b p) (o : Obj) : PathAt (w.alloc o) b p:=((Below.alloc1 w o).block b (heap_lt h)).trans h
theorem below_step {w0 w : World} (h : Below w0.heap.size w0 w) (o : Obj) : Below w0.heap.size w0 (w.alloc o):=h.trans ((Below.alloc1 w o).mono h.size)
def readO (s : ByteArray) : Obj:=Obj.cells #[Value.string s,Value.int .i64 0] 80
theorem box_reader (w : World) (s : ByteArray) : Below w.heap.size w ((w.alloc pathO).alloc (readO s))∧PathAt ((w.alloc pathO).alloc (readO s)) w.heap.size PV.zero∧RdAt ((w.alloc pathO).alloc (readO s)) (w.heap.size + 1) s 0:=by
 have h1:=(MapKept.heap_alloc w pathO).1
 have h2:=(MapKept.heap_alloc (w.alloc pathO) (readO s)).1
 have e : (w.alloc pathO).heap.size=w.heap.size + 1:=by simp
 rw [e] at h2
 exact ⟨(Below.alloc1 w _).trans ((Below.alloc1 _ _).mono (Below.alloc1 w _).size),((Below.alloc1 _ _).block _ (heap_lt h1)).trans h1,h2⟩
theorem pTaken {w0 : World} {L : ByteArray→Nat→Bool × Nat × ByteArray} (hL : LitOk w0 L) (s : ByteArray) (w : World) (hE : Below w0.heap.size w0 w) (hs : s.size≤4000000000) :
  Calls Tryz.prog 51 #[.string s] w (TakEnd w (tak L s)):=by
 obtain ⟨D,hD⟩ : ∃ D,D=tak L s:=⟨_,rfl⟩
 rw [← hD]
 by_cases h0 : s.size=0
 ·have HT : Hid (D=(true,⟨true,⟨#[]⟩,⟨#[]⟩,false⟩)):=by unfold tak at hD; rw [if_pos h0] at hD; exact hD
  obtain rfl:=str_empty h0
  have hp:=(MapKept.heap_alloc w pathO).1
  have hp : PathAt (w.alloc pathO) w.heap.size PV.zero:=hp
  unfold pathO at hp
  obtain ⟨d0,d1,d2,d3,e0,e1,e2,e3⟩:=four_cells hp
  have HP:=Lib.hid hp
  clear hp hD hL hE
  go_enter Tryz.func51,Tryz.ntmps51
  go_wp2
  (try simp only [Exit.inBlock,Exit.then])
  refine bodyPost_ret (results_path (p:=⟨true,⟨#[]⟩,⟨#[]⟩,false⟩) Tryz.results51 rfl rfl (MapKept.heap_alloc w _).1) rfl ?_
  rw [HT.out]
  exact ⟨rfl,Below.alloc1 w _⟩
 ·obtain ⟨hn1,hn2⟩:=str_ne h0
  have HT : Hid (D=if (mbx L s 0).1=true∧(mbx L s 0).2.1=s.size then (true,(mbx L s 0).2.2) else (false,PV.zero)):=by unfold tak at hD; rw [if_neg h0] at hD; exact hD
  obtain ⟨HBW,HP0,HRW⟩:=box_reader w s
  have C1:=pMailbox hL (w.heap.size + 1) 0 s _ (Nat.le_succ_of_le hE.size) (hE.trans (HBW.mono hE.size)) HRW (Nat.zero_le _) hs
  have hle:=(mbx_le hL s 0 (Nat.zero_le _)).1
  generalize mbx L s 0=r at C1 HT hle
  obtain ⟨b,m,n,l,d,t⟩:=r
  have hms : m≤s.size:=hle
  have HBW:=Lib.hid HBW
  have HP0:=Lib.hid HP0
  have C1 : Hid (Calls Tryz.prog 81 #[.pointer (some ⟨w.heap.size + 1,0,none⟩)] ((w.alloc pathO).alloc (readO s)) fun e w'=>e=.returned (.tuple #[.agg #[.bool n,.string l,.string d,.bool t],.bool b])∧RdAt w' (w.heap.size + 1) s m∧KeepX (w.heap.size + 1) ((w.alloc pathO).alloc (readO s)) w'):=C1
  unfold pathO readO at C1 HBW HP0
  clear hD hL hle h0 HRW hE
  go_enter Tryz.func51,Tryz.ntmps51
  go_wp2_with (first | (go_at_call 81; refine C1.out.mono ?_; rintro ee w1 ⟨rfl,h1,q1⟩; refine Hid.out ?_) | fail)
  refine Lib.hid ?_
  have p0:=HP0.out.kept q1 (by omega)
  have hlt1:=heap_lt p0
  have hlt2:=h1.lt
  obtain ⟨y0,y1,y2⟩:=h1.cells
  obtain ⟨d0,d1,d2,d3,e0,e1,e2,e3⟩:=four_cells p0
  have HPW:=Lib.hid p0
  have HB1:=Lib.hid (below_of_keep (by omega) HBW.out q1)
  have ne1 : ¬ w.heap.size=w1.heap.size:=by omega
  have ne2 : ¬ w.heap.size + 1=w1.heap.size:=by omega
  have ne3 : ¬ w1.heap.size=w.heap.size:=by omega
  have ne4 : ¬ w1.heap.size=w.heap.size + 1:=by omega
  clear p0 h1 q1
  by_cases hc : b=true∧m=s.size
  ·have HT2 : Hid (D=(true,⟨n,l,d,t⟩)):=by have e:=HT.out; rw [if_pos hc] at e; exact e
   obtain ⟨rfl,hm⟩:=hc
   have q1 : decide (m < s.size)=false:=decide_eq_false (by omega)
   have q2 : decide ((m : Int) < (s.size : Int))=false:=decide_eq_false (by omega)
   have q3 : ¬ m < s.size:=by omega
   have q4 : s.size≤m:=by omega
   clear hm
   go_wp2
   (try simp only [Exit.inBlock,Exit.then])
   refine bodyPost_ret (results_path Tryz.results51 rfl rfl (path_alloc (path_four HPW.out ⟨n,l,d,t⟩) _)) rfl ?_
   rw [HT2.out]
   exact ⟨rfl,below_step (below_four _ (Nat.le_refl _) HB1.out _ _ _ _) _⟩
  ·have HT2 : Hid (D=(false,PV.zero)):=by have e:=HT.out; rw [if_neg hc] at e; exact e
   cases b with
   | false =>
    clear hc
    go_wp2
    (try simp only [Exit.inBlock,Exit.then])
    refine bodyPost_ret (results_path Tryz.results51 rfl rfl (path_alloc (path_four HPW.out PV.zero) _)) rfl ?_
    rw [HT2.out]
    exact ⟨rfl,below_step (below_four _ (Nat.le_refl _) HB1.out _ _ _ _) _⟩
   | true =>
    have q3 : m < s.size:=by
     rcases Nat.lt_or_ge m s.size with h | h
     ·exact h
     ·exact absurd ⟨rfl,by omega⟩ hc
    have q1 : decide (m < s.size)=true:=decide_eq_true q3
    have q2 : decide ((m : Int) < (s.size : Int))=true:=decide_eq_true (by omega)
    clear hc
    go_wp2
    (try simp only [Exit.inBlock,Exit.then])
    refine bodyPost_ret (results_path Tryz.results51 rfl rfl (path_alloc (path_four HPW.out PV.zero) _)) rfl ?_
    rw [HT2.out]
    exact ⟨rfl,below_step (below_four _ (Nat.le_refl _) HB1.out _ _ _ _) _⟩
end Go.Proofs.YtghnopkgcgfcpaaGreatDoor.Path
set_option maxHeartbeats 16000000
set_option maxRecDepth 100000
namespace Go.Proofs.YtghnopkgcgfcpaaGreatDoor.Path
open Go.RowKit Base
theorem box_one (w : World) (s : ByteArray) : Below w.heap.size w (w.alloc (readO s))∧RdAt (w.alloc (readO s)) w.heap.size s 0:=⟨Below.alloc1 w _,(MapKept.heap_alloc w (readO s)).1⟩
def domR (L : ByteArray→Nat→Bool × Nat × ByteArray) (s : ByteArray) : ByteArray × Bool × Int :=
 if (hst L s 0).1=true∧(hst L s 0).2.1=s.size then
  if 255 < (hst L s 0).2.2.2.size then (⟨#[]⟩,false,91) else ((hst L s 0).2.2.2,(hst L s 0).2.2.1,0)
 else (⟨#[]⟩,false,90)
def DomEnd (w : World) (r : ByteArray × Bool × Int) (e : Ending) (w' : World) : Prop:=e=.returned (.tuple #[.string r.1,.bool r.2.1,.int .i64 r.2.2])∧Below w.heap.size w w'
theorem pDomainP {w0 : World} {L : ByteArray→Nat→Bool × Nat × ByteArray} (hL : LitOk w0 L) (s : ByteArray) (w : World) (hE : Below w0.heap.size w0 w) (hs : s.size≤4000000000) :
  Calls Tryz.prog 13 #[.string s] w (DomEnd w (domR L s)):=by
 obtain ⟨D,hD⟩ : ∃ D,D=domR L s:=⟨_,rfl⟩
 rw [← hD]
 have HD:=Lib.hid hD
 unfold domR at HD
 obtain ⟨HBW,HRW⟩:=box_one w s
 have C1:=pHost hL w.heap.size 0 s _ hE.size (hE.trans (HBW.mono hE.size)) HRW (Nat.zero_le _) (by omega)
 have hle:=(hst_le hL s 0 (Nat.zero_le _)).1
 generalize hst L s 0=r at C1 hle HD
 obtain ⟨b,m,t,d⟩:=r
 have hms : m≤s.size:=hle
 have HBW:=Lib.hid HBW
 have C1 : Hid (Calls Tryz.prog 32 #[.pointer (some ⟨w.heap.size,0,none⟩)] (w.alloc (readO s)) fun e w'=>e=.returned (.tuple #[.string d,.bool t,.bool b])∧RdAt w' w.heap.size s m∧KeepX w.heap.size (w.alloc (readO s)) w'):=C1
 unfold readO at C1 HBW
 have HT : Hid (D=if b=true∧m=s.size then if 255 < d.size then (⟨#[]⟩,false,91) else (d,t,0) else (⟨#[]⟩,false,90)):=HD.out
 clear hL hle HRW hD HD hE
 go_enter Tryz.func13,Tryz.ntmps13
 go_wp2
 refine wp_scope_fwd fun F hF=>?_
 have HF:=Lib.hid hF
 clear hF
 go_wp2_with (first | (go_at_call 32; refine C1.out.mono ?_; rintro ee w1 ⟨rfl,h1,q1⟩; refine Hid.out ?_) | fail)
 refine Lib.hid ?_
 have HR1:=Lib.hid h1
 obtain ⟨y0,y1,y2⟩:=h1.cells
 have HB1:=Lib.hid (below_of_keep (Nat.le_refl _) HBW.out q1)
 clear h1 q1
 by_cases hc : b=true∧m=s.size
 ·have HT1 : Hid (D=if 255 < d.size then (⟨#[]⟩,false,91) else (d,t,0)):=by have e:=HT.out; rw [if_pos hc] at e; exact e
  obtain ⟨rfl,hm⟩:=hc
  have q1 : decide (m < s.size)=false:=decide_eq_false (by omega)
  have q3 : ¬ m < s.size:=by omega
  have q4 : s.size≤m:=by omega
  clear hm HT
  by_cases hd : 255 < d.size
  ·have HT2 : Hid (D=(⟨#[]⟩,false,91)):=by have e:=HT1.out; rw [if_pos hd] at e; exact e
   have r1 : (255 : Int) < (d.size : Int):=by omega
   clear HT1
   go_wp2
   go_step3
   refine ⟨_,by rw [HF.out]; rfl,?_⟩
   clear HF
   go_wp2
   rw [Exit.noGoto_ret]
   go_ret3
   rw [HT2.out]
   exact ⟨rfl,HB1.out⟩
  ·have HT2 : Hid (D=(d,t,0)):=by have e:=HT1.out; rw [if_neg hd] at e; exact e
   have r1 : ¬ (255 : Int) < (d.size : Int):=by omega
   clear HT1
   go_wp2
   rw [Exit.fwd_ret]
   go_ret3
   rw [HT2.out]
   exact ⟨rfl,HB1.out⟩
 ·have HT2 : Hid (D=(⟨#[]⟩,false,90)):=by have e:=HT.out; rw [if_neg hc] at e; exact e
  clear HT
  cases b with
  | false =>
   clear hc
   go_wp2
   go_step3
   refine ⟨_,by rw [HF.out]; rfl,?_⟩
   clear HF
   go_wp2
   rw [Exit.noGoto_ret]
   go_ret3
   rw [HT2.out]
   exact ⟨rfl,HB1.out⟩
  | true =>
   have q3 : m < s.size:=by
    rcases Nat.lt_or_ge m s.size with h | h
    ·exact h
    ·exact absurd ⟨rfl,by omega⟩ hc
   have q1 : decide (m < s.size)=true:=decide_eq_true q3
   clear hc
   go_wp2
   go_step3
   refine ⟨_,by rw [HF.out]; rfl,?_⟩
   clear HF
   go_wp2
   rw [Exit.noGoto_ret]
   go_ret3
   rw [HT2.out]
   exact ⟨rfl,HB1.out⟩
end Go.Proofs.YtghnopkgcgfcpaaGreatDoor.Path
set_option maxHeartbeats 16000000
set_option maxRecDepth 100000
namespace Go.Proofs.YtghnopkgcgfcpaaGreatDoor.Path
open Go.RowKit Base
def litForm (a : ByteArray) : ByteArray:=if 0≤Lib.indexByte a.data.toList 58 then ⟨#[91,73,80,118,54,58]⟩++a++⟨#[93]⟩ else ⟨#[91]⟩++a++⟨#[93]⟩
theorem litForm_le (a : ByteArray) : (litForm a).size≤a.size + 7:=by
 unfold litForm
 split
 ·rw [ByteArray.size_append,ByteArray.size_append,show (⟨#[91,73,80,118,54,58]⟩ : ByteArray).size=6 from rfl,show (⟨#[93]⟩ : ByteArray).size=1 from rfl]; omega
 ·rw [ByteArray.size_append,ByteArray.size_append,show (⟨#[91]⟩ : ByteArray).size=1 from rfl,show (⟨#[93]⟩ : ByteArray).size=1 from rfl]; omega
theorem pLitForm (a : ByteArray) (w : World) (ha : a.size≤4000000000) : Calls Tryz.prog 83 #[.string a] w fun e w'=>e=.returned (.string (litForm a))∧w'=w:=by
 have HC:=Lib.hid (fun w1=>Tryz.strings_Contains_one a 58 w1)
 have HD : Hid (litForm a=if 0≤Lib.indexByte a.data.toList 58 then ⟨#[91,73,80,118,54,58]⟩++a++⟨#[93]⟩ else ⟨#[91]⟩++a++⟨#[93]⟩):=rfl
 by_cases h : 0≤Lib.indexByte a.data.toList 58
 ·have HT : Hid (litForm a=⟨#[91,73,80,118,54,58]⟩++a++⟨#[93]⟩):=by have e:=HD.out; rw [if_pos h] at e; exact e
  rw [decide_eq_true h] at HC
  clear h HD
  go_enter Tryz.func83,Tryz.ntmps83
  go_wp2_with (first | (go_at_call 126; refine (HC.out _).mono ?_; rintro ee w1 ⟨rfl,rfl⟩; refine Hid.out ?_) | fail)
  refine Lib.hid ?_
  go_wp2
  go_ret
  rw [HT.out]
  exact ⟨rfl,rfl⟩
 ·have HT : Hid (litForm a=⟨#[91]⟩++a++⟨#[93]⟩):=by have e:=HD.out; rw [if_neg h] at e; exact e
  rw [decide_eq_false h] at HC
  clear h HD
  go_enter Tryz.func83,Tryz.ntmps83
  go_wp2_with (first | (go_at_call 126; refine (HC.out _).mono ?_; rintro ee w1 ⟨rfl,rfl⟩; refine Hid.out ?_) | fail)
  refine Lib.hid ?_
  go_wp2
  go_ret
  rw [HT.out]
  exact ⟨rfl,rfl⟩
def FmS (W : World) (b : Nat) (l d : ByteArray) (w' : World) : Prop:=Below W.heap.size W w'∧w'.cell? ⟨b,1,none⟩=some (.string l)∧w'.cell? ⟨b,2,none⟩=some (.string d)
theorem fm_drew {W w1 : World} {b : Nat} {l d : ByteArray} (h : FmS W b l d w1) : FmS W b l d w1.drew:=⟨h.1.trans (⟨rfl,rfl,rfl,Nat.le_refl _,fun _ _=>rfl⟩),h.2.1,h.2.2⟩
theorem fm_keep {W w1 w2 : World} {b : Nat} {l d : ByteArray} (h : FmS W b l d w1) (hb : Below w1.heap.size w1 w2) : FmS W b l d w2 :=
 ⟨h.1.trans (hb.mono h.1.size),(hb.cell (p:=⟨b,1,none⟩) (World.block_lt_of_cell? w1 _ h.2.1)).trans h.2.1,(hb.cell (p:=⟨b,2,none⟩) (World.block_lt_of_cell? w1 _ h.2.2)).trans h.2.2⟩
structure FormOk (f : ByteArray→ByteArray) : Prop where
 le : ∀ s,(f s).size≤2 * s.size + 2
 call : ∀ (s : ByteArray) (w : World),s.size≤1000000000→Calls Tryz.prog 82 #[.string s] w fun e w'=>e=.returned (.string (f s))∧Below w.heap.size w w'
def formR (f : ByteArray→ByteArray) (p : PV) : ByteArray :=
 if p.null=true then ⟨#[]⟩ else if p.dom.size=0 then f p.loc else if p.lit=true then f p.loc++⟨#[64]⟩++litForm p.dom else f p.loc++⟨#[64]⟩++p.dom
theorem pFormOf {f : ByteArray→ByteArray} (hf : FormOk f) (p : PV) (w : World) (hl : p.loc.size≤1000000000) (hd : p.dom.size≤1000000000) : Calls Tryz.prog 52 #[p.val] w fun e w'=>e=.returned (.string (formR f p))∧Below w.heap.size w w':=by
 obtain ⟨n,l,d,t⟩:=p
 show Calls Tryz.prog 52 #[.agg #[.bool n,.string l,.string d,.bool t]] w fun e w'=>e=.returned (.string (formR f ⟨n,l,d,t⟩))∧Below w.heap.size w w'
 have HC:=Lib.hid (fun w1=>hf.call l w1 hl)
 have HLi:=Lib.hid (fun w1=>pLitForm d w1 (Nat.le_trans hd (by decide)))
 obtain ⟨D,hD⟩ : ∃ D,D=formR f ⟨n,l,d,t⟩:=⟨_,rfl⟩
 rw [← hD]
 have HD : Hid (D=if n=true then ⟨#[]⟩ else if d.size=0 then f l else if t=true then f l++⟨#[64]⟩++litForm d else f l++⟨#[64]⟩++d):=hD
 have hsz:=hf.le l
 clear hD
 generalize f l=fl at HC HD hsz
 have hld:=litForm_le d
 generalize litForm d=ld at HLi HD hld
 have s1 : ¬ 9223372036854775807 < fl.size + 1:=by have : l.size≤1000000000:=hl; omega
 have s2 : ¬ 9223372036854775807 < fl.size + 1 + d.size:=by have : l.size≤1000000000:=hl; have : d.size≤1000000000:=hd; omega
 have s3 : ¬ 9223372036854775807 < fl.size + 1 + ld.size:=by have : l.size≤1000000000:=hl; have : d.size≤1000000000:=hd; omega
 have hp:=(MapKept.heap_alloc w (Obj.cells #[Value.bool n,Value.string l,Value.string d,Value.bool t] 26)).1
 have hp:=hp
 have HS0 : Hid (FmS w w.heap.size l d (w.alloc (Obj.cells #[Value.bool n,Value.string l,Value.string d,Value.bool t] 26))):=⟨Below.alloc1 w _,cell_of_row _ _ 1 _ _ _ hp,cell_of_row _ _ 2 _ _ _ hp⟩
 have HS1:=Lib.hid (fm_drew HS0.out)
 clear hp
 cases n with
 | true =>
  have HT : Hid (D=⟨#[]⟩):=HD.out
  go_enter Tryz.func52,Tryz.ntmps52
  go_wp2
  go_ret
  exact ⟨by rw [HT.out]; rfl,Below.alloc1 w _⟩
 | false =>
  by_cases h0 : d.size=0
  ·have HT : Hid (D=fl):=by have e:=HD.out; rw [if_neg (by decide),if_pos h0] at e; exact e
   obtain rfl:=str_empty h0
   clear HD
   go_enter Tryz.func52,Tryz.ntmps52
   go_wp2_with (first | (go_at_call 82; refine (HC.out _).mono ?_; rintro ee w1 ⟨rfl,hb⟩; refine Hid.out ?_) | fail)
   refine Lib.hid ?_
   have HB:=Lib.hid (HS0.out.1.trans (hb.mono HS0.out.1.size))
   clear hb
   go_wp2
   go_ret
   exact ⟨by rw [HT.out]; rfl,HB.out⟩
  ·obtain ⟨hn1,hn2⟩:=str_ne h0
   cases t with
   | true =>
    have HT : Hid (D=fl++⟨#[64]⟩++ld):=by have e:=HD.out; rw [if_neg (by decide),if_neg h0,if_pos rfl] at e; exact e
    clear HD
    go_enter Tryz.func52,Tryz.ntmps52
    go_wp2
    go_region_held3 (fun w'=>Below w.heap.size w w'∧w'.cell? ⟨w.heap.size,1,none⟩=some (.string l)∧w'.cell? ⟨w.heap.size,2,none⟩=some (.string d))
     (first | exact HS0.out | exact HS1.out | exact fm_drew (by assumption) | exact fm_keep (by assumption) hb | assumption | fail)
     (first
      | (go_at_call 82; refine (HC.out _).mono ?_; rintro e wn ⟨rfl,hb⟩)
      | (go_at_call 83; refine (HLi.out _).mono ?_; rintro e wn2 ⟨rfl,rfl⟩)
      | fail)
    have HB:=Lib.hid (And.left (by assumption : Below w.heap.size w wn2∧wn2.cell? ⟨w.heap.size,1,none⟩=some (.string l)∧wn2.cell? ⟨w.heap.size,2,none⟩=some (.string d)))
    go_wp2
    go_ret
    exact ⟨by rw [HT.out]; rfl,HB.out⟩
   | false =>
    have HT : Hid (D=fl++⟨#[64]⟩++d):=by have e:=HD.out; rw [if_neg (by decide),if_neg h0,if_neg (by decide)] at e; exact e
    clear HD
    go_enter Tryz.func52,Tryz.ntmps52
    go_wp2
    go_region_held3 (fun w'=>Below w.heap.size w w'∧w'.cell? ⟨w.heap.size,1,none⟩=some (.string l)∧w'.cell? ⟨w.heap.size,2,none⟩=some (.string d))
     (first | exact HS0.out | exact HS1.out | exact fm_drew (by assumption) | exact fm_keep (by assumption) hb | assumption | fail)
     (first
      | (go_at_call 82; refine (HC.out _).mono ?_; rintro e wn ⟨rfl,hb⟩)
      | (go_at_call 83; refine (HLi.out _).mono ?_; rintro e wn2 ⟨rfl,rfl⟩)
      | fail)
    have HB:=Lib.hid (And.left (by assumption : Below w.heap.size w wn∧wn.cell? ⟨w.heap.size,1,none⟩=some (.string l)∧wn.cell? ⟨w.heap.size,2,none⟩=some (.string d)))
    go_wp2
    go_ret
    exact ⟨by rw [HT.out]; rfl,HB.out⟩
end Go.Proofs.YtghnopkgcgfcpaaGreatDoor.Path
set_option maxHeartbeats 16000000
set_option maxRecDepth 100000
namespace Go.Proofs.YtghnopkgcgfcpaaGreatDoor.Path
open Go.RowKit Base
def longR (f : ByteArray→ByteArray) (p : PV) : Bool:=decide (64 < (f p.loc).size) || (decide (255 < p.dom.size) || decide (256 < (formR f p).size + 2))
theorem formR_le {f : ByteArray→ByteArray} (hf : FormOk f) (p : PV) : (formR f p).size≤2 * p.loc.size + p.dom.size + 10:=by
 have h1:=hf.le p.loc
 have h2:=litForm_le p.dom
 unfold formR
 split
 ·exact Nat.zero_le _
 ·split
  ·omega
  ·split
   ·rw [ByteArray.size_append,ByteArray.size_append,show (⟨#[64]⟩ : ByteArray).size=1 from rfl]; omega
   ·rw [ByteArray.size_append,ByteArray.size_append,show (⟨#[64]⟩ : ByteArray).size=1 from rfl]; omega
def boxO (n : Bool) (l d : ByteArray) (t : Bool) : Obj:=Obj.cells #[Value.bool n,Value.string l,Value.string d,Value.bool t] 26
theorem box_path (w : World) (n : Bool) (l d : ByteArray) (t : Bool) : PathAt (w.alloc (boxO n l d t)) w.heap.size ⟨n,l,d,t⟩:=(MapKept.heap_alloc w _).1
theorem PathAt.on {w w' : World} {b : Nat} {p : PV} (h : PathAt w b p) (hb : Below w.heap.size w w') : PathAt w' b p:=(hb.block b (heap_lt h)).trans h
theorem pIsLong {f : ByteArray→ByteArray} (hf : FormOk f) (p : PV) (w : World) (hl : p.loc.size≤1000000000) (hd : p.dom.size≤1000000000) : Calls Tryz.prog 53 #[p.val] w fun e w'=>e=.returned (.bool (longR f p))∧Below w.heap.size w w':=by
 have HC2:=Lib.hid (fun w1=>pFormOf hf p w1 hl hd)
 have hfr:=formR_le hf p
 obtain ⟨n,l,d,t⟩:=p
 have hl : l.size≤1000000000:=hl
 have hd : d.size≤1000000000:=hd
 show Calls Tryz.prog 53 #[.agg #[.bool n,.string l,.string d,.bool t]] w fun e w'=>e=.returned (.bool (longR f ⟨n,l,d,t⟩))∧Below w.heap.size w w'
 have HC2 : Hid (∀ w1,Calls Tryz.prog 52 #[.agg #[.bool n,.string l,.string d,.bool t]] w1 fun e w'=>e=.returned (.string (formR f ⟨n,l,d,t⟩))∧Below w1.heap.size w1 w'):=HC2
 have HC:=Lib.hid (fun w1=>hf.call l w1 hl)
 have HD : Hid (longR f ⟨n,l,d,t⟩=(decide (64 < (f l).size) || (decide (255 < d.size) || decide (256 < (formR f ⟨n,l,d,t⟩).size + 2)))):=rfl
 have hfr : (formR f ⟨n,l,d,t⟩).size≤2 * l.size + d.size + 10:=hfr
 generalize longR f ⟨n,l,d,t⟩=D at HD
 generalize formR f ⟨n,l,d,t⟩=fr at HC2 HD hfr
 generalize f l=fl at HC HD
 have hp:=box_path w n l d t
 unfold boxO at hp
 have HPB:=Lib.hid hp
 have HB0 : Hid (Below w.heap.size w (w.alloc (Obj.cells #[Value.bool n,Value.string l,Value.string d,Value.bool t] 26))):=Below.alloc1 w _
 clear hp hf
 have s1 : ¬ 9223372036854775807 < 1 + fr.size:=by omega
 have s2 : ¬ 9223372036854775807 < 1 + fr.size + 1:=by omega
 by_cases h1 : 64 < fl.size
 ·have HT : Hid (D=true):=by have e:=HD.out; rw [decide_eq_true h1] at e; exact e
  have e1 : (64 : Int) < (fl.size : Int):=by omega
  clear HD
  go_enter Tryz.func53,Tryz.ntmps53
  go_wp2_with (first | (go_at_call 82; refine (HC.out _).mono ?_; rintro ee w1 ⟨rfl,hb⟩; refine Hid.out ?_) | fail)
  refine Lib.hid ?_
  have HB:=Lib.hid (HB0.out.trans (hb.mono HB0.out.size))
  clear hb
  go_wp2
  go_ret
  exact ⟨ret_bool HT.out.symm,HB.out⟩
 ·have e1 : ¬ (64 : Int) < (fl.size : Int):=by omega
  by_cases h2 : 255 < d.size
  ·have HT : Hid (D=true):=by have e:=HD.out; rw [decide_eq_false h1,decide_eq_true h2] at e; exact e
   have e2 : (255 : Int) < (d.size : Int):=by omega
   clear HD
   go_enter Tryz.func53,Tryz.ntmps53
   go_wp2_with (first | (go_at_call 82; refine (HC.out _).mono ?_; rintro ee w1 ⟨rfl,hb⟩; refine Hid.out ?_) | fail)
   refine Lib.hid ?_
   have HB:=Lib.hid (HB0.out.trans (hb.mono HB0.out.size))
   obtain ⟨c0,c1,c2,c3,f0,f1,f2,f3⟩:=four_cells (HPB.out.on hb)
   clear hb
   go_wp2
   go_ret
   exact ⟨ret_bool HT.out.symm,HB.out⟩
  ·have HT : Hid (D=decide (256 < fr.size + 2)):=by have e:=HD.out; rw [decide_eq_false h1,decide_eq_false h2] at e; exact e
   have e2 : ¬ (255 : Int) < (d.size : Int):=by omega
   clear HD
   go_enter Tryz.func53,Tryz.ntmps53
   go_wp2_with (first | (go_at_call 82; refine (HC.out _).mono ?_; rintro ee w1 ⟨rfl,hb⟩; refine Hid.out ?_) | fail)
   refine Lib.hid ?_
   have HB:=Lib.hid (HB0.out.trans (hb.mono HB0.out.size))
   obtain ⟨c0,c1,c2,c3,f0,f1,f2,f3⟩:=four_cells (HPB.out.on hb)
   clear hb
   go_wp2_with (first | (go_at_call 52; refine (HC2.out _).mono ?_; rintro ee w2 ⟨rfl,hb2⟩; refine Hid.out ?_) | fail)
   refine Lib.hid ?_
   have HB2:=Lib.hid (HB.out.trans (hb2.mono HB.out.size))
   clear hb2
   by_cases h3 : 256 < fr.size + 2
   ·have HT2 : Hid (D=true):=HT.out.trans (decide_eq_true h3)
    have e3 : (256 : Int) < ((fr.size + 2 : Nat) : Int):=by omega
    have e4 : (256 : Int) < 1 + (fr.size : Int) + 1:=by omega
    go_wp2
    go_ret
    exact ⟨ret_bool HT2.out.symm,HB2.out⟩
   ·have HT2 : Hid (D=false):=HT.out.trans (decide_eq_false h3)
    have e3 : ¬ (256 : Int) < ((fr.size + 2 : Nat) : Int):=by omega
    have e4 : ¬ (256 : Int) < 1 + (fr.size : Int) + 1:=by omega
    go_wp2
    go_ret
    exact ⟨ret_bool (by rw [decide_eq_false (show ¬ (64 : Int) < (fl.size : Int) by omega),decide_eq_false (show ¬ (255 : Int) < (d.size : Int) by omega)]; exact HT2.out.symm),HB2.out⟩
end Go.Proofs.YtghnopkgcgfcpaaGreatDoor.Path
set_option maxHeartbeats 16000000
set_option maxRecDepth 100000
namespace Go.Proofs.YtghnopkgcgfcpaaGreatDoor.Path
open Go.RowKit Base
instance : DecidableEq PV:=fun a b=>decidable_of_iff (a.null=b.null∧a.loc=b.loc∧a.dom=b.dom∧a.lit=b.lit) (by cases a; cases b; simp)
theorem bytes_ne {a b : ByteArray} (h : ¬ a=b) : ¬ a.toList=b.toList:=by
 rw [ByteArray.toList_eq,ByteArray.toList_eq]
 intro e
 exact h (ByteArray.ext (Array.toList_inj.1 e))
theorem pv_ne {n2 n t2 t : Bool} {l2 l d2 d : ByteArray} (h : ¬ (⟨n2,l2,d2,t2⟩ : PV)=⟨n,l,d,t⟩) : ¬ n2=n∨(n2=n∧¬ l2=l)∨(n2=n∧l2=l∧¬ d2=d)∨(n2=n∧l2=l∧d2=d∧¬ t2=t):=by
 by_cases h1 : n2=n
 ·by_cases h2 : l2=l
  ·by_cases h3 : d2=d
   ·by_cases h4 : t2=t
    ·exact absurd (by rw [h1,h2,h3,h4]) h
    ·exact Or.inr (Or.inr (Or.inr ⟨h1,h2,h3,h4⟩))
   ·exact Or.inr (Or.inr (Or.inl ⟨h1,h2,h3⟩))
  ·exact Or.inr (Or.inl ⟨h1,h2⟩)
 ·exact Or.inl h1
def rightR (L : ByteArray→Nat→Bool × Nat × ByteArray) (f : ByteArray→ByteArray) (p : PV) : Int :=
 if (tak L (formR f p)).1=true∧(tak L (formR f p)).2=p then (if longR f p=true then 91 else 0) else 90
def ErrEnd (w : World) (z : Int) (e : Ending) (w' : World) : Prop:=e=.returned (.int .i64 z)∧Below w.heap.size w w'
theorem pRight {w0 : World} {L : ByteArray→Nat→Bool × Nat × ByteArray} {f : ByteArray→ByteArray} (hL : LitOk w0 L) (hf : FormOk f) (p : PV) (w : World) (hE : Below w0.heap.size w0 w) (hl : p.loc.size≤1000000000) (hd : p.dom.size≤1000000000) : Calls Tryz.prog 21 #[p.val] w (ErrEnd w (rightR L f p)):=by
 have HC1:=Lib.hid (fun w1=>pFormOf hf p w1 hl hd)
 have HC3:=Lib.hid (fun w1=>pIsLong hf p w1 hl hd)
 have hfr:=formR_le hf p
 have HC2:=Lib.hid (fun w1 (hb : Below w.heap.size w w1)=>pTaken hL (formR f p) w1 (hE.trans (hb.mono hE.size)) (by omega))
 have HD : Hid (rightR L f p=if (tak L (formR f p)).1=true∧(tak L (formR f p)).2=p then (if longR f p=true then 91 else 0) else 90):=rfl
 generalize rightR L f p=D at HD
 generalize longR f p=lg at HC3 HD
 generalize tak L (formR f p)=r at HC2 HD
 generalize formR f p=fr at HC1 HC2 hfr
 obtain ⟨n,l,d,t⟩:=p
 obtain ⟨b,n2,l2,d2,t2⟩:=r
 have hl : l.size≤1000000000:=hl
 have hd : d.size≤1000000000:=hd
 show Calls Tryz.prog 21 #[.agg #[.bool n,.string l,.string d,.bool t]] w (ErrEnd w D)
 have HC1 : Hid (∀ w1,Calls Tryz.prog 52 #[.agg #[.bool n,.string l,.string d,.bool t]] w1 fun e w'=>e=.returned (.string fr)∧Below w1.heap.size w1 w'):=HC1
 have HC2 : Hid (∀ w1,Below w.heap.size w w1→Calls Tryz.prog 51 #[.string fr] w1 fun e w'=>e=.returned (.tuple #[.agg #[.bool n2,.string l2,.string d2,.bool t2],.bool b])∧Below w1.heap.size w1 w'):=HC2
 have HC3 : Hid (∀ w1,Calls Tryz.prog 53 #[.agg #[.bool n,.string l,.string d,.bool t]] w1 fun e w'=>e=.returned (.bool lg)∧Below w1.heap.size w1 w'):=HC3
 have HT : Hid (D=if b=true∧(⟨n2,l2,d2,t2⟩ : PV)=⟨n,l,d,t⟩ then (if lg=true then 91 else 0) else 90):=HD.out
 have hp:=box_path w n l d t
 unfold boxO at hp
 have HPB:=Lib.hid hp
 have HB0 : Hid (Below w.heap.size w (w.alloc (Obj.cells #[Value.bool n,Value.string l,Value.string d,Value.bool t] 26))):=Below.alloc1 w _
 have h0 : Hid (w.heap.size < (w.alloc (Obj.cells #[Value.bool n,Value.string l,Value.string d,Value.bool t] 26)).heap.size):=heap_lt hp
 clear hp hf hL HD hE
 by_cases hpe : (⟨n2,l2,d2,t2⟩ : PV)=⟨n,l,d,t⟩
 ·obtain ⟨rfl,rfl,rfl,rfl⟩ : n2=n∧l2=l∧d2=d∧t2=t:=by simpa using hpe
  clear hpe
  cases b with
  | false =>
   have HT2 : Hid (D=90):=by have e:=HT.out; rw [if_neg (by simp)] at e; exact e
   clear HT
   go_enter Tryz.func21,Tryz.ntmps21
   go_wp2_with (first | (go_at_call 52; refine (HC1.out _).mono ?_; rintro ee w1 ⟨rfl,hb⟩; refine Hid.out ?_) | fail)
   refine Lib.hid ?_
   have HB1:=Lib.hid (HB0.out.trans (hb.mono HB0.out.size))
   have HP1:=Lib.hid (HPB.out.on hb)
   clear hb
   go_wp2_with (first | (go_at_call 51; refine (HC2.out _ HB1.out).mono ?_; rintro ee w2 ⟨rfl,hb⟩; refine Hid.out ?_) | fail)
   refine Lib.hid ?_
   have HB2:=Lib.hid (HB1.out.trans (hb.mono HB1.out.size))
   have HP2:=Lib.hid (HP1.out.on hb)
   have hlt2:=heap_lt HP2.out
   have ne1 : ¬ w.heap.size=w2.heap.size:=by omega
   have ne2 : ¬ w2.heap.size=w.heap.size:=by omega
   obtain ⟨c0,c1,c2,c3,f0,f1,f2,f3⟩:=four_cells HP2.out
   clear hb
   go_wp2
   go_ret
   exact ⟨by rw [HT2.out]; rfl,below_step HB2.out _⟩
  | true =>
   have HT2 : Hid (D=if lg=true then 91 else 0):=by have e:=HT.out; rw [if_pos ⟨rfl,rfl⟩] at e; exact e
   clear HT
   go_enter Tryz.func21,Tryz.ntmps21
   go_wp2_with (first | (go_at_call 52; refine (HC1.out _).mono ?_; rintro ee w1 ⟨rfl,hb⟩; refine Hid.out ?_) | fail)
   refine Lib.hid ?_
   have HB1:=Lib.hid (HB0.out.trans (hb.mono HB0.out.size))
   have HP1:=Lib.hid (HPB.out.on hb)
   clear hb
   go_wp2_with (first | (go_at_call 51; refine (HC2.out _ HB1.out).mono ?_; rintro ee w2 ⟨rfl,hb⟩; refine Hid.out ?_) | fail)
   refine Lib.hid ?_
   have HB2:=Lib.hid (HB1.out.trans (hb.mono HB1.out.size))
   have HP2:=Lib.hid (HP1.out.on hb)
   have hlt2:=heap_lt HP2.out
   have ne1 : ¬ w.heap.size=w2.heap.size:=by omega
   have ne2 : ¬ w2.heap.size=w.heap.size:=by omega
   obtain ⟨c0,c1,c2,c3,f0,f1,f2,f3⟩:=four_cells HP2.out
   clear hb
   have HB3:=Lib.hid (below_step HB2.out (Obj.cells #[Value.bool n2,Value.string l2,Value.string d2,Value.bool t2] 26))
   go_wp2_with (first | (go_at_call 53; refine (HC3.out _).mono ?_; rintro ee w3 ⟨rfl,hb⟩; refine Hid.out ?_) | fail)
   refine Lib.hid ?_
   have HB4:=Lib.hid (HB3.out.trans (hb.mono HB3.out.size))
   clear hb
   cases lg with
   | false =>
    have HT3 : Hid (D=0):=HT2.out
    go_wp2
    go_ret
    exact ⟨by rw [HT3.out]; rfl,HB4.out⟩
   | true =>
    have HT3 : Hid (D=91):=HT2.out
    go_wp2
    go_ret
    exact ⟨by rw [HT3.out]; rfl,HB4.out⟩
 ·have HT2 : Hid (D=90):=by have e:=HT.out; rw [if_neg (fun h=>hpe h.2)] at e; exact e
  have HPE:=Lib.hid hpe
  clear hpe HT
  cases b with
  | false =>
   go_enter Tryz.func21,Tryz.ntmps21
   go_wp2_with (first | (go_at_call 52; refine (HC1.out _).mono ?_; rintro ee w1 ⟨rfl,hb⟩; refine Hid.out ?_) | fail)
   refine Lib.hid ?_
   have HB1:=Lib.hid (HB0.out.trans (hb.mono HB0.out.size))
   have HP1:=Lib.hid (HPB.out.on hb)
   clear hb
   go_wp2_with (first | (go_at_call 51; refine (HC2.out _ HB1.out).mono ?_; rintro ee w2 ⟨rfl,hb⟩; refine Hid.out ?_) | fail)
   refine Lib.hid ?_
   have HB2:=Lib.hid (HB1.out.trans (hb.mono HB1.out.size))
   have HP2:=Lib.hid (HP1.out.on hb)
   have hlt2:=heap_lt HP2.out
   have ne1 : ¬ w.heap.size=w2.heap.size:=by omega
   have ne2 : ¬ w2.heap.size=w.heap.size:=by omega
   obtain ⟨c0,c1,c2,c3,f0,f1,f2,f3⟩:=four_cells HP2.out
   clear hb
   go_wp2
   go_ret
   exact ⟨by rw [HT2.out]; rfl,below_step HB2.out _⟩
  | true =>
   rcases pv_ne HPE.out with h1 | ⟨rfl,h1⟩ | ⟨rfl,rfl,h1⟩ | ⟨rfl,rfl,rfl,h1⟩
   ·cases n2 <;> cases n <;> first | exact absurd rfl h1 | clear h1
    all_goals
     go_enter Tryz.func21,Tryz.ntmps21
     go_wp2_with (first | (go_at_call 52; refine (HC1.out _).mono ?_; rintro ee w1 ⟨rfl,hb⟩; refine Hid.out ?_) | fail)
     refine Lib.hid ?_
     have HB1:=Lib.hid (HB0.out.trans (hb.mono HB0.out.size))
     have HP1:=Lib.hid (HPB.out.on hb)
     clear hb
     go_wp2_with (first | (go_at_call 51; refine (HC2.out _ HB1.out).mono ?_; rintro ee w2 ⟨rfl,hb⟩; refine Hid.out ?_) | fail)
     refine Lib.hid ?_
     have HB2:=Lib.hid (HB1.out.trans (hb.mono HB1.out.size))
     have HP2:=Lib.hid (HP1.out.on hb)
     have hlt2:=heap_lt HP2.out
     have ne1 : ¬ w.heap.size=w2.heap.size:=by omega
     have ne2 : ¬ w2.heap.size=w.heap.size:=by omega
     obtain ⟨c0,c1,c2,c3,f0,f1,f2,f3⟩:=four_cells HP2.out
     clear hb
     go_wp2
     go_ret
     exact ⟨by rw [HT2.out]; rfl,below_step HB2.out _⟩
   ·have h2 : ¬ l2.toList=l.toList:=bytes_ne h1
    clear h1
    go_enter Tryz.func21,Tryz.ntmps21
    go_wp2_with (first | (go_at_call 52; refine (HC1.out _).mono ?_; rintro ee w1 ⟨rfl,hb⟩; refine Hid.out ?_) | fail)
    refine Lib.hid ?_
    have HB1:=Lib.hid (HB0.out.trans (hb.mono HB0.out.size))
    have HP1:=Lib.hid (HPB.out.on hb)
    clear hb
    go_wp2_with (first | (go_at_call 51; refine (HC2.out _ HB1.out).mono ?_; rintro ee w2 ⟨rfl,hb⟩; refine Hid.out ?_) | fail)
    refine Lib.hid ?_
    have HB2:=Lib.hid (HB1.out.trans (hb.mono HB1.out.size))
    have HP2:=Lib.hid (HP1.out.on hb)
    have hlt2:=heap_lt HP2.out
    have ne1 : ¬ w.heap.size=w2.heap.size:=by omega
    have ne2 : ¬ w2.heap.size=w.heap.size:=by omega
    obtain ⟨c0,c1,c2,c3,f0,f1,f2,f3⟩:=four_cells HP2.out
    clear hb
    go_wp2
    go_ret
    exact ⟨by rw [HT2.out]; rfl,below_step HB2.out _⟩
   ·have h2 : ¬ d2.toList=d.toList:=bytes_ne h1
    clear h1
    go_enter Tryz.func21,Tryz.ntmps21
    go_wp2_with (first | (go_at_call 52; refine (HC1.out _).mono ?_; rintro ee w1 ⟨rfl,hb⟩; refine Hid.out ?_) | fail)
    refine Lib.hid ?_
    have HB1:=Lib.hid (HB0.out.trans (hb.mono HB0.out.size))
    have HP1:=Lib.hid (HPB.out.on hb)
    clear hb
    go_wp2_with (first | (go_at_call 51; refine (HC2.out _ HB1.out).mono ?_; rintro ee w2 ⟨rfl,hb⟩; refine Hid.out ?_) | fail)
    refine Lib.hid ?_
    have HB2:=Lib.hid (HB1.out.trans (hb.mono HB1.out.size))
    have HP2:=Lib.hid (HP1.out.on hb)
    have hlt2:=heap_lt HP2.out
    have ne1 : ¬ w.heap.size=w2.heap.size:=by omega
    have ne2 : ¬ w2.heap.size=w.heap.size:=by omega
    obtain ⟨c0,c1,c2,c3,f0,f1,f2,f3⟩:=four_cells HP2.out
    clear hb
    go_wp2
    go_ret
    exact ⟨by rw [HT2.out]; rfl,below_step HB2.out _⟩
   ·cases t2 <;> cases t <;> first | exact absurd rfl h1 | clear h1
    all_goals
     go_enter Tryz.func21,Tryz.ntmps21
     go_wp2_with (first | (go_at_call 52; refine (HC1.out _).mono ?_; rintro ee w1 ⟨rfl,hb⟩; refine Hid.out ?_) | fail)
     refine Lib.hid ?_
     have HB1:=Lib.hid (HB0.out.trans (hb.mono HB0.out.size))
     have HP1:=Lib.hid (HPB.out.on hb)
     clear hb
     go_wp2_with (first | (go_at_call 51; refine (HC2.out _ HB1.out).mono ?_; rintro ee w2 ⟨rfl,hb⟩; refine Hid.out ?_) | fail)
     refine Lib.hid ?_
     have HB2:=Lib.hid (HB1.out.trans (hb.mono HB1.out.size))
     have HP2:=Lib.hid (HP1.out.on hb)
     have hlt2:=heap_lt HP2.out
     have ne1 : ¬ w.heap.size=w2.heap.size:=by omega
     have ne2 : ¬ w2.heap.size=w.heap.size:=by omega
     obtain ⟨c0,c1,c2,c3,f0,f1,f2,f3⟩:=four_cells HP2.out
     clear hb
     go_wp2
     go_ret
     exact ⟨by rw [HT2.out]; rfl,below_step HB2.out _⟩
end Go.Proofs.YtghnopkgcgfcpaaGreatDoor.Path
set_option maxHeartbeats 16000000
set_option maxRecDepth 100000
namespace Go.Proofs.YtghnopkgcgfcpaaGreatDoor.Path
open Go.RowKit Base
def mbxR (L : ByteArray→Nat→Bool × Nat × ByteArray) (f : ByteArray→ByteArray) (s : ByteArray) : PV × Int :=
 if (tak L s).1=true then (if longR f (tak L s).2=true then (PV.zero,91) else ((tak L s).2,0)) else (PV.zero,90)
def MbxEnd (w : World) (r : PV × Int) (e : Ending) (w' : World) : Prop:=e=.returned (.tuple #[r.1.val,.int .i64 r.2])∧Below w.heap.size w w'
theorem pMailboxP {w0 : World} {L : ByteArray→Nat→Bool × Nat × ByteArray} {f : ByteArray→ByteArray} (hL : LitOk w0 L) (hf : FormOk f) (s : ByteArray) (w : World) (hE : Below w0.heap.size w0 w) (hs : s.size≤1000000000) (hl : (tak L s).2.loc.size≤1000000000) (hd : (tak L s).2.dom.size≤1000000000) :
  Calls Tryz.prog 76 #[.string s] w (MbxEnd w (mbxR L f s)):=by
 have HC1:=Lib.hid (fun w1 (hb : Below w.heap.size w w1)=>pTaken hL s w1 (hE.trans (hb.mono hE.size)) (by omega))
 have HC2:=Lib.hid (fun w1=>pIsLong hf (tak L s).2 w1 hl hd)
 have HD : Hid (mbxR L f s=if (tak L s).1=true then (if longR f (tak L s).2=true then (PV.zero,91) else ((tak L s).2,0)) else (PV.zero,90)):=rfl
 generalize mbxR L f s=D at HD
 generalize longR f (tak L s).2=lg at HC2 HD
 generalize tak L s=r at HC1 HC2 HD
 obtain ⟨b,n,l,d,t⟩:=r
 have HC1 : Hid (∀ w1,Below w.heap.size w w1→Calls Tryz.prog 51 #[.string s] w1 fun e w'=>e=.returned (.tuple #[.agg #[.bool n,.string l,.string d,.bool t],.bool b])∧Below w1.heap.size w1 w'):=HC1
 have HC2 : Hid (∀ w1,Calls Tryz.prog 53 #[.agg #[.bool n,.string l,.string d,.bool t]] w1 fun e w'=>e=.returned (.bool lg)∧Below w1.heap.size w1 w'):=HC2
 have HT : Hid (D=if b=true then (if lg=true then (PV.zero,91) else (⟨n,l,d,t⟩,0)) else (PV.zero,90)):=HD.out
 have hp:=(MapKept.heap_alloc w pathO).1
 have hp : PathAt (w.alloc pathO) w.heap.size PV.zero:=hp
 have HB0:=Below.alloc1 w pathO
 unfold pathO at hp HB0
 have HP0:=Lib.hid hp
 have HB0:=Lib.hid HB0
 clear hL hf hE hl hd HD hp
 go_enter Tryz.func76,Tryz.ntmps76
 go_wp2
 refine wp_scope_fwd fun F hF=>?_
 have HF:=Lib.hid hF
 clear hF
 go_wp2_with (first | (go_at_call 51; refine (HC1.out _ HB0.out).mono ?_; rintro ee w1 ⟨rfl,hb⟩; refine Hid.out ?_) | fail)
 refine Lib.hid ?_
 have HB1:=Lib.hid (HB0.out.trans (hb.mono HB0.out.size))
 have p1:=HP0.out.on hb
 have HP1:=Lib.hid p1
 have hlt1:=heap_lt p1
 have ne1 : ¬ w.heap.size=w1.heap.size:=by omega
 have ne2 : ¬ w1.heap.size=w.heap.size:=by omega
 obtain ⟨c0,c1,c2,c3,f0,f1,f2,f3⟩:=four_cells p1
 clear hb p1
 cases b with
 | false =>
  have HT2 : Hid (D=(PV.zero,90)):=HT.out
  clear HT
  go_wp2
  go_step3
  refine ⟨_,by rw [HF.out]; rfl,?_⟩
  clear HF
  go_wp2
  rw [Exit.noGoto_ret]
  (try simp only [Exit.inBlock,Exit.then])
  refine bodyPost_ret (results_path Tryz.results76 rfl rfl (path_alloc (path_four HP1.out PV.zero) _)) rfl ?_
  rw [HT2.out]
  exact ⟨rfl,below_step (below_four _ (Nat.le_refl _) HB1.out _ _ _ _) _⟩
 | true =>
  have HT2 : Hid (D=if lg=true then (PV.zero,91) else (⟨n,l,d,t⟩,0)):=HT.out
  clear HT
  go_wp2_with (first | (go_at_call 53; refine (HC2.out _).mono ?_; rintro ee w2 ⟨rfl,hb⟩; refine Hid.out ?_) | fail)
  refine Lib.hid ?_
  have hsz:=hb.size
  have HB2 : Hid (Below w.heap.size w w2):=(below_step HB1.out (Obj.cells #[Value.bool n,Value.string l,Value.string d,Value.bool t] 26)).trans (hb.mono (Nat.le_trans HB1.out.size (Below.alloc1 w1 _).size))
  have p2 : PathAt w2 w.heap.size PV.zero:=(path_alloc HP1.out (Obj.cells #[Value.bool n,Value.string l,Value.string d,Value.bool t] 26)).on hb
  have p3 : PathAt w2 w1.heap.size ⟨n,l,d,t⟩:=(show PathAt (w1.alloc (Obj.cells #[Value.bool n,Value.string l,Value.string d,Value.bool t] 26)) w1.heap.size ⟨n,l,d,t⟩ from (MapKept.heap_alloc w1 _).1).on hb
  have HP2:=Lib.hid p2
  obtain ⟨c0,c1,c2,c3,f0,f1,f2,f3⟩:=four_cells p2
  obtain ⟨d0,d1,d2,d3,e0,e1,e2,e3⟩:=four_cells p3
  clear hb p2 p3 hsz
  cases lg with
  | true =>
   have HT3 : Hid (D=(PV.zero,91)):=HT2.out
   clear HT2
   go_wp2
   go_step3
   refine ⟨_,by rw [HF.out]; rfl,?_⟩
   clear HF
   go_wp2
   rw [Exit.noGoto_ret]
   (try simp only [Exit.inBlock,Exit.then])
   refine bodyPost_ret (results_path Tryz.results76 rfl rfl (path_four HP2.out PV.zero)) rfl ?_
   rw [HT3.out]
   exact ⟨rfl,below_four _ (Nat.le_refl _) HB2.out _ _ _ _⟩
  | false =>
   have HT3 : Hid (D=(⟨n,l,d,t⟩,0)):=HT2.out
   clear HT2
   go_wp2
   rw [Exit.fwd_ret]
   (try simp only [Exit.inBlock,Exit.then])
   refine bodyPost_ret (results_path Tryz.results76 rfl rfl (path_four HP2.out ⟨n,l,d,t⟩)) rfl ?_
   rw [HT3.out]
   exact ⟨rfl,below_four _ (Nat.le_refl _) HB2.out _ _ _ _⟩
end Go.Proofs.YtghnopkgcgfcpaaGreatDoor.Path
