/-
  MERGED by mergefill.py: TabRPar.
-/
import Derived.Test.YtghnopkgcgfcpaaGreatDoorTabLinesMg
set_option maxHeartbeats 16000000
set_option maxRecDepth 100000
namespace Go.Proofs.YtghnopkgcgfcpaaGreatDoor.Table
open Go.RowKit Base
def TSt (w : World) (b : Nat) (T : List KV) : Prop:=∃ tv,w.heap[b]?=some (.cells #[tv] 62 (0,0))∧Rows2 w tv T∧∀ g,tv.ownBlock=some g→b < g
structure ParR (w2 wr : World) (b : Nat) (es : List Ent) (i a c : Nat) (T : List KV) (fin : PAns) : Prop where
 below : Below w2.heap.size w2 wr
 tab : TSt wr b T
 ge : w2.heap.size≤b
 good : Good T
 eq : runE (es.drop i) a c T=fin
theorem LSt.at {own : Nat→Tg} {w0 w : World} {bv : Value} {oa : Option Addr} {oc n : Nat} {es : List (Ent × Value)} {bad : List Nat} (h : LSt own w0 w (.slice oa n oc) bv es bad) {i : Nat} {x : Ent × Value} (hx : es[i]?=some x) :
  ∃ g,oa=some ⟨g,0,none⟩∧w.cell? ⟨g,i * 3,none⟩=some (.int .i64 (x.1.pos : Int))∧w.cell? ⟨g,i * 3 + 1,none⟩=some (S x.1.text)∧w.cell? ⟨g,i * 3 + 2,none⟩=some x.2:=by
 have hil:=(List.getElem?_eq_some_iff.1 hx).1
 have ho:=h.orow
 rcases ho.2 with ⟨_,hn⟩ | ⟨g,cap,cur,he,_⟩
 ·omega
 ·cases he
  have ce : ∀ k,k < 3→w.cell? ⟨g,i * 3 + k,none⟩=(cells3 x)[k]?:=fun k hk=>by
   rw [World.ownsRow.cellAt ho (i * 3 + k) (by omega),flat3 es i k x hx hk]
  exact ⟨g,rfl,ce 0 (by omega),ce 1 (by omega),ce 2 (by omega)⟩
theorem TSt.tab {w : World} {b : Nat} {T : List KV} (h : TSt w b T) : TabAt 62 w b T:=by
 obtain ⟨tv,h1,h2,_⟩:=h
 exact ⟨tv,h1,h2⟩
theorem TSt.on {w w' : World} {b : Nat} {T : List KV} (h : TSt w b T) (hb : Below w.heap.size w w') : TSt w' b T:=by
 obtain ⟨tv,h1,h2,h3⟩:=h
 exact ⟨tv,by rw [hb.block b (heap_lt h1)]; exact h1,h2.on hb,h3⟩
theorem TSt.put {w4 w7 : World} {b : Nat} {T T' : List KV} {v7 : Value} (h : TSt w4 b T) (hb : Below w4.heap.size w4 w7) (hr : w7.ownsRow w4.heap.size 66 2 v7 T'.length (T'.flatMap enc2)) : TSt (w7.setCell ⟨b,0,none⟩ v7) b T'∧(∃ u,w7.cell? ⟨b,0,none⟩=some u)∧w7.frozen? ⟨b,0,none⟩=false:=by
 obtain ⟨tv,h1,_,_⟩:=h
 have hlt:=heap_lt h1
 have h7 : w7.heap[b]?=some (.cells #[tv] 62 (0,0)):=by rw [hb.block b hlt]; exact h1
 have hne : ∀ g,v7.ownBlock=some g→b < g:=fun g hg=>by have:=(World.ownsRow.lt hr g hg).1; omega
 refine ⟨⟨v7,by rw [heap_setCell_same w7 b 0 _ _ v7 h7]; rfl,(Rows2.of_row hr rfl).kept fun g hg _=>Below.heap_setCell _ _ _ _ (by have:=hne g hg; show g ≠ b; omega),hne⟩,⟨tv,cell_of_row w7 b 0 _ _ _ h7⟩,by simp [World.frozen?,h7]⟩
theorem TSt.boxed {w0 w : World} {b : Nat} {T : List KV} (ht : TSt w b T) (hlt : w0.heap.size < b) (u v : Value) : TabNew 62 w0 ((w.setCell ⟨w0.heap.size,0,none⟩ u).setCell ⟨w0.heap.size,1,none⟩ v) b T:=by
 obtain ⟨tv,h1,h2,h3⟩:=ht
 have hne : ∀ g,g ≠ w0.heap.size→((w.setCell ⟨w0.heap.size,0,none⟩ u).setCell ⟨w0.heap.size,1,none⟩ v).heap[g]?=w.heap[g]?:=fun g hg=>by
  rw [Below.heap_setCell _ _ _ _ hg,Below.heap_setCell _ _ _ _ hg]
 exact ⟨tv,by rw [hne b (by omega)]; exact h1,h2.kept (fun g hg _=>hne g (by have:=h3 g hg; omega)),Nat.le_of_lt hlt,fun q cs t fz hq _ e=>by have:=h3 q e; have:=heap_lt hq; omega⟩
theorem minBad_snoc : ∀ (l : List Nat) (x : Nat) (r : Nat × Nat),minBad (l++[x]) r=if x < (minBad l r).1 then (x,61) else minBad l r
 | [],_,_=>rfl
 | y :: l,x,r=>by rw [List.cons_append]; unfold minBad; exact minBad_snoc l x _
theorem minBad_take {l : List Nat} {k x : Nat} (h : l[k]?=some x) (r : Nat × Nat) : minBad (l.take (k + 1)) r=if x < (minBad (l.take k) r).1 then (x,61) else minBad (l.take k) r:=by
 have hk:=(List.getElem?_eq_some_iff.1 h).1
 rw [List.take_succ_eq_append_getElem hk,(List.getElem?_eq_some_iff.1 h).2,minBad_snoc]
theorem splitB_sum (c : UInt8) : ∀ (l : List UInt8),sumL (splitB c l)=l.length + 1
 | []=>rfl
 | x :: r=>by
  have ih:=splitB_sum c r
  rw [splitB_eq]
  split
  ·simp [sumL] at ih ⊢; omega
  ·split
   ·rename_i h; exact absurd h (splitB_ne c r)
   ·rename_i h t he; rw [he] at ih; simp [sumL] at ih ⊢; omega
theorem sumL_app (a b : List (List UInt8)) : sumL (a++b)=sumL a + sumL b:=by simp [sumL]
theorem more_len (a : List (List UInt8)) : a.length≤sumL a:=by
 induction a with
 | nil=>simp
 | cons x r ih=>simp [sumL] at ih ⊢; omega
theorem step_bound {st : LS} {a : Nat} {line : List UInt8} (h : ∀ e ∈ st.1,e.text.length + sumL e.more≤a) : ∀ e ∈ (stepL st a line).1,e.text.length + sumL e.more≤a + line.length + 1:=by
 have hw : ∀ e ∈ st.1,e.text.length + sumL e.more≤a + line.length + 1:=fun e he=>by have:=h e he; omega
 unfold stepL
 split
 ·exact hw
 ·split
  ·split
   ·exact hw
   ·unfold addLast
    cases hx : st.1[st.1.length - 1]? with
    | none=>exact hw
    | some x =>
     intro e he
     rcases List.mem_or_eq_of_mem_set he with he | rfl
     ·exact hw e he
     ·have h1:=h x (List.mem_of_getElem? hx)
      show x.text.length + sumL (x.more++[trim line])≤_
      rw [sumL_app]
      have:=trim_len line
      simp [sumL] at h1 ⊢; omega
  ·intro e he
   rcases List.mem_append.1 he with he | he
   ·exact hw e he
   ·rw [List.mem_singleton.1 he]; simp [sumL]; omega
theorem from_bound : ∀ (ls : List (List UInt8)) (a : Nat) (st : LS),(∀ e ∈ st.1,e.text.length + sumL e.more≤a)→∀ e ∈ (linesFrom a ls st).1,e.text.length + sumL e.more≤a + sumL ls
 | [],a,st,h=>fun e he=>by have:=h e he; omega
 | l :: r,a,st,h=>fun e he=>by
  have:=from_bound r (a + l.length + 1) (stepL st a l) (step_bound h) e he
  simp [sumL] at this ⊢; omega
theorem step_len (st : LS) (a : Nat) (line : List UInt8) : (stepL st a line).1.length≤st.1.length + 1∧(stepL st a line).2.length≤st.2.length + 1:=by
 unfold stepL
 split
 ·omega
 ·split
  ·split
   ·simp
   ·unfold addLast
    split <;> simp
  ·simp
theorem from_len : ∀ (ls : List (List UInt8)) (a : Nat) (st : LS),(linesFrom a ls st).1.length≤st.1.length + ls.length∧(linesFrom a ls st).2.length≤st.2.length + ls.length
 | [],a,st=>by simp [linesFrom]
 | l :: r,a,st=>by
  have h1:=from_len r (a + l.length + 1) (stepL st a l)
  have h2:=step_len st a l
  rw [linesFrom,List.length_cons]; omega
theorem lines_len (l : List UInt8) : (linesOf l).1.length≤l.length + 1∧(linesOf l).2.length≤2 * l.length + 1:=by
 have h1:=from_len (splitB 10 l) 0 ([],badK l l.length)
 have h2:=splitB_len 10 l
 have h3:=badK_len l l.length
 unfold linesOf
 simp only [List.length_nil] at h1
 omega
theorem lines_bound (l : List UInt8) : ∀ e ∈ (linesOf l).1,e.text.length + sumL e.more≤l.length + 1:=fun e he=>by
 have:=from_bound (splitB 10 l) 0 ([],badK l l.length) (fun e he=>by simp at he) e he
 rw [splitB_sum] at this; omega
theorem rParse (s : ByteArray) (w : World) : Calls Tryz.prog 18 #[.string s] w (ParseEnd 62 (parseOf s.data.toList) w):=by
 have hbx:=(MapKept.heap_alloc w (.cells #[.int .i64 0,.int .i64 0] 49)).1
 obtain ⟨wb,hwb⟩ : ∃ wb,wb=w.alloc (.cells #[.int .i64 0,.int .i64 0] 49):=⟨_,rfl⟩
 have HWB:=Lib.hid hwb
 have HB0 : Hid (Below w.heap.size w wb):=by rw [hwb]; exact Below.alloc1 _ _
 rw [← hwb] at hbx
 have HBX:=Lib.hid hbx
 clear hwb hbx
 by_cases hbig : 262144 < s.size
 ·have i1 : (262144 : Int) < (s.size : Int):=by omega
  have HP : Hid (parseOf s.data.toList=([],60,262144)):=by show _=_; unfold parseOf; rw [if_pos (by rw [str_len]; exact hbig)]
  obtain ⟨c1,c2,c3,c4⟩:=two_cells HBX.out
  clear hbig
  go_enter Tryz.func18,Tryz.ntmps18
  go_wp2
  exact bodyPost_ret (v:=.tuple #[.pointer none,.agg #[.int .i64 60,.int .i64 262144]]) (by simp [results,Tryz.results18,go_sem]) rfl ⟨Below.alloc1 _ _,Or.inr ⟨by rw [HP.out]; simp,by rw [HP.out]; rfl⟩⟩
 ·have i1 : ¬ (262144 : Int) < (s.size : Int):=by omega
  obtain ⟨fin,hfin⟩ : ∃ fin,fin=parseOf s.data.toList:=⟨_,rfl⟩
  have HP : Hid (fin=runE (linesOf s.data.toList).1 (minBad (linesOf s.data.toList).2 (s.size + 1,0)).1 (minBad (linesOf s.data.toList).2 (s.size + 1,0)).2 []):=by
   show _=_
   rw [hfin]; unfold parseOf; rw [if_neg (by rw [str_len]; exact hbig),str_len]
  rw [← hfin]
  clear hfin
  have HL : Hid (Calls Tryz.prog 46 #[.string s] wb (LinesEndF (linesOf s.data.toList) wb)):=rLines s wb (by omega)
  have HLB:=Lib.hid (lines_bound s.data.toList)
  rw [str_len] at HLB
  have HLL:=Lib.hid (lines_len s.data.toList)
  rw [str_len] at HLL
  generalize linesOf s.data.toList=ls at HP HL HLB HLL
  obtain ⟨ll,bad⟩:=ls
  obtain ⟨hll1,hll2⟩:=HLL.out
  go_enter Tryz.func18,Tryz.ntmps18
  go_wp2_with fail
  rw [← HWB.out]
  go_wp2_with (first | (go_at_call 46; refine HL.out.mono ?_; rintro e w2 ⟨own,ov,bv,es,rfl,hes,hst⟩; refine Hid.out ?_) | fail)
  refine Lib.hid ?_
  obtain ⟨oa,oc,rfl,hoc⟩:=row_form hst.orow
  obtain ⟨ba,bc,rfl,hbc⟩:=row_form hst.brow
  have hesl : es.length=ll.length:=by rw [← hes,List.length_map]
  have hel : es.length≤262146:=by rw [hesl]; have : ll.length≤s.size + 1:=hll1; omega
  have hbdl : bad.length≤600000:=by have : bad.length≤2 * s.size + 1:=hll2; omega
  clear hesl
  have HST:=Lib.hid hst
  have HES:=Lib.hid hes
  have hbl : Hid (∀ (k x : Nat),bad[k]?=some x→∃ g,ba=some ⟨g,0,none⟩∧w2.cell? ⟨g,k,none⟩=some (.int .i64 (x : Int))):=fun k x hx=>by
   have hk:=(List.getElem?_eq_some_iff.1 hx).1
   have hb:=hst.brow
   rcases hb.2 with ⟨_,hn⟩ | ⟨g,cap,cur,he,_⟩
   ·rw [hn] at hk; omega
   ·cases he
    exact ⟨g,rfl,by rw [World.ownsRow.cellAt hb k (by rw [Nat.mul_one]; exact hk),List.getElem?_map,hx]; rfl⟩
  clear hst hes
  have HBC:=Lib.hid hbc
  have HOC:=Lib.hid hoc
  clear hbc hoc
  go_wp2_with fail
  go_loop [6,7,8] (fun a c i=>∃ k : Nat,k≤bad.length∧i=.int .i64 k∧a=.int .i64 ((minBad (bad.take k) (s.size + 1,0)).1 : Int)∧c=.int .i64 ((minBad (bad.take k) (s.size + 1,0)).2 : Int)) (fun _ _ i=>bad.length - (intOf i).toNat)
  case atStart=>exact ⟨0,by omega,rfl,by simp [minBad],by simp [minBad]⟩
  case round =>
   obtain ⟨k,hk,rfl,rfl,rfl⟩:=hrel
   by_cases hlt : k < bad.length
   ·obtain ⟨x,hx⟩ : ∃ x,bad[k]?=some x:=⟨bad[k],List.getElem?_eq_getElem hlt⟩
    obtain ⟨g,rfl,c1⟩:=hbl.out k x hx
    have HM:=Lib.hid (minBad_take hx (s.size + 1,0))
    have j0 : (0 : Int)≤(k : Int):=by omega
    have j1 : (k : Int) < (bad.length : Int):=by omega
    have hbc:=HBC.out
    clear hx
    generalize minBad (bad.take k) (s.size + 1,0)=r at HM
    obtain ⟨r1,r2⟩:=r
    by_cases hxr : x < r1
    ·have j2 : (x : Int) < (r1 : Int):=by omega
     have HM2 : Hid (minBad (bad.take (k + 1)) (s.size + 1,0)=(x,61)):=by show _=_; rw [HM.out,if_pos hxr]
     clear hxr HM
     go_wp2_with fail
     go_round
     case rel=>exact ⟨k + 1,by omega,by go_num,by rw [HM2.out],by rw [HM2.out]; rfl⟩
     case measure=>simp [intOf]; omega
    ·have j2 : ¬ (x : Int) < (r1 : Int):=by omega
     have HM2 : Hid (minBad (bad.take (k + 1)) (s.size + 1,0)=(r1,r2)):=by show _=_; rw [HM.out,if_neg hxr]
     clear hxr HM
     go_wp2_with fail
     go_round
     case rel=>exact ⟨k + 1,by omega,by go_num,by rw [HM2.out],by rw [HM2.out]⟩
     case measure=>simp [intOf]; omega
   ·have j1 : ¬ (k : Int) < (bad.length : Int):=by omega
    rw [List.take_of_length_le (by omega)]
    generalize minBad bad (s.size + 1,0)=r at HP
    obtain ⟨r1,r2⟩:=r
    have hnb:=(MapKept.heap_alloc w2 (.cells #[.slice none 0 0] 62)).1
    have HR0 : Hid (ParR w2 (w2.alloc (.cells #[.slice none 0 0] 62)) w2.heap.size ll 0 r1 r2 [] fin):=⟨Below.alloc1 _ _,⟨_,hnb,Or.inl ⟨rfl,none,0,rfl,fun _=>rfl⟩,fun g hg=>by cases hg⟩,Nat.le_refl _,Good.nil,HP.out.symm⟩
    clear hnb hlt
    go_wp2_with fail
    go_loopw [6,7,10] (fun a c i wr=>∃ (n m k : Nat) (T : List KV),k≤es.length∧a=.int .i64 (n : Int)∧c=.int .i64 (m : Int)∧i=.int .i64 (k : Int)∧Hid (ParR w2 wr w2.heap.size ll k n m T fin)) (fun _ _ i _=>es.length - (intOf i).toNat)
    case atStart=>exact ⟨r1,r2,0,[],by omega,rfl,rfl,rfl,HR0⟩
    case round =>
     clear HR0
     obtain ⟨n,m,q,T,hq,rfl,rfl,rfl,HR⟩:=hrel
     by_cases hlt : q < es.length
     ·obtain ⟨⟨⟨pos,text,more⟩,sv⟩,hx⟩ : ∃ x,es[q]?=some x:=⟨es[q],List.getElem?_eq_getElem hlt⟩
      have hll : ll[q]?=some ⟨pos,text,more⟩:=by rw [← HES.out,List.getElem?_map,hx]; rfl
      obtain ⟨hl3,hl4⟩:=List.getElem?_eq_some_iff.1 hll
      have HEQ : Hid ((if pos < n then (if wrongE T (kvOf ⟨pos,text,more⟩)=0 then runE (ll.drop (q + 1)) n m (insKV T (kvOf ⟨pos,text,more⟩)) else runE (ll.drop (q + 1)) pos (wrongE T (kvOf ⟨pos,text,more⟩)) T) else (T,m,n))=fin):=by
       have h1:=HR.out.eq
       rw [List.drop_eq_getElem_cons hl3,hl4] at h1
       exact h1
      obtain ⟨g,rfl,d0,d1,d2⟩ : ∃ g,oa=some ⟨g,0,none⟩∧wr.cell? ⟨g,q * 3,none⟩=some (.int .i64 (pos : Int))∧wr.cell? ⟨g,q * 3 + 1,none⟩=some (S text)∧wr.cell? ⟨g,q * 3 + 2,none⟩=some sv:=(HST.out.on HR.out.below).at hx
      have HSV : Hid (VReads wr sv (more.map S)):=VReads.of_row ((HST.out.on HR.out.below).lines q _ hx).row
      obtain ⟨sa,sc,rfl,hsc⟩:=HSV.out.form
      rw [List.length_map] at HSV d2 hsc
      have hbd : text.length + sumL more≤s.size + 1:=HLB.out _ (List.mem_of_getElem? hll)
      have hmm:=more_len more
      have hoc:=HOC.out
      have j0 : (0 : Int)≤(q : Int):=by omega
      have j1 : (q : Int) < (es.length : Int):=by omega
      clear hx hll hl3 hl4
      by_cases hp : pos < n
      ·have j2 : (pos : Int) < (n : Int):=by omega
       rw [show (if pos < n then (if wrongE T (kvOf ⟨pos,text,more⟩)=0 then runE (ll.drop (q + 1)) n m (insKV T (kvOf ⟨pos,text,more⟩)) else runE (ll.drop (q + 1)) pos (wrongE T (kvOf ⟨pos,text,more⟩)) T) else (T,m,n))=_ from if_pos hp] at HEQ
       have HEN : Hid (Calls Tryz.prog 47 #[.agg #[.int .i64 (pos : Int),S text,.slice sa more.length sc]] wr (EntryEnd ⟨pos,text,more⟩ wr)):=rEntry (pos : Int) ⟨text.toArray⟩ pos _ more wr HSV.out (by show text.toArray.size + _≤_; simp; omega) (by omega)
       unfold EntryEnd at HEN
       generalize kvOf ⟨pos,text,more⟩=kv at HEQ HEN
       obtain ⟨key,val⟩:=kv
       clear hp
       have HPL : Hid (∀ wx,Below wr.heap.size wr wx→Calls Tryz.prog 48 #[.pointer (some ⟨w2.heap.size,0,none⟩),S key] wx (SearchEnd T key wx)):=fun wx hb=>place_below (rPlace w2.heap.size T ⟨key.toArray⟩ wx (HR.out.tab.tab.on hb) HR.out.good.rise (by have:=HR.out.good.few; omega))
       have hpos:=posOf_le T key
       have hfew:=HR.out.good.few
       have HWR : Hid (∀ c,wrongE T (key,val)=c→c ≠ 0→runE (ll.drop (q + 1)) pos c T=fin):=fun c h1 h2=>by
        have h3:=HEQ.out
        rw [h1,if_neg h2] at h3; exact h3
       have HFIN : Hid (∀ w4 c,Below wr.heap.size wr w4→wrongE T (key,val)=c→c ≠ 0→ParR w2 w4 w2.heap.size ll (q + 1) pos c T fin):=fun w4 c hb h1 h2=>⟨HR.out.below.trans (hb.mono HR.out.below.size),HR.out.tab.on hb,Nat.le_refl _,HR.out.good,HWR.out c h1 h2⟩
       have HD0 : Hid (∀ w4,Below wr.heap.size wr w4→w4.cell? ⟨g,q * 3,none⟩=some (.int .i64 (pos : Int))):=fun w4 hb=>(hb.cell (p:=⟨g,q * 3,none⟩) (cell_lt d0)).trans d0
       cases hh : hasOf T key
       ·have HPN : Hid (∀ wx,Below wr.heap.size wr wx→Calls Tryz.prog 48 #[.pointer (some ⟨w2.heap.size,0,none⟩),S key] wx fun e w'=>e=.returned (.tuple #[.int .i64 (posOf T key : Int),.bool false])∧Below wx.heap.size wx w'):=fun wx hb=>(HPL.out wx hb).mono fun e w' ⟨h1,h2⟩=>⟨by rw [h1,hh],h2⟩
        have HHH:=Lib.hid hh
        clear hh HPL
        by_cases h320 : 320 < key.length
        ·have k1 : (320 : Int) < (key.length : Int):=by omega
         have HW:=Lib.hid (show wrongE T (key,val)=61 by unfold wrongE; rw [if_pos (Or.inl h320)])
         go_wp2_with (first | (go_at_call 47; (with_reducible refine HEN.out.mono ?_); rintro e w3 ⟨rfl,hb3⟩; refine Hid.out ?_) | fail)
         refine Lib.hid ?_
         have HB3:=Lib.hid hb3
         clear hb3
         go_wp2_with fail
         have HB4 : Hid (Below wr.heap.size wr (w3.alloc (.cells #[S key,S val] 66))):=HB3.out.alloc HB3.out.size _
         refine (HPN.out _ HB4.out).mono ?_
         rintro e w5 ⟨rfl,hb5⟩
         have HB5 : Hid (Below wr.heap.size wr w5):=HB4.out.trans (hb5.mono HB4.out.size)
         have HX : Hid (w5.heap[w3.heap.size]?=some (.cells #[S key,S val] 66 (0,0))):=(hb5.block _ (by simp)).trans (MapKept.heap_alloc w3 _).1
         obtain ⟨x1,x2,x3,x4⟩:=two_cells HX.out
         have d0':=HD0.out w5 HB5.out
         obtain ⟨ta,tc,t1,t2,t3⟩:=(HR.out.tab.on HB5.out).tab.cell
         clear hb5
         clear t3
         go_wp2_with fail
         go_roundw
         case rel=>exact ⟨pos,61,q + 1,T,by omega,rfl,rfl,by go_num,HFIN.out w5 61 HB5.out HW.out (by omega)⟩
         case measure=>simp [intOf]; omega
        ·have k1 : ¬ (320 : Int) < (key.length : Int):=by omega
         by_cases hv0 : val=[]
         ·have HW:=Lib.hid (show wrongE T (key,val)=61 by unfold wrongE; rw [if_pos (Or.inr (Or.inl hv0))])
          have k2 : val.isEmpty=true:=by rw [hv0]; rfl
          clear hv0
          go_wp2_with (first | (go_at_call 47; (with_reducible refine HEN.out.mono ?_); rintro e w3 ⟨rfl,hb3⟩; refine Hid.out ?_) | fail)
          refine Lib.hid ?_
          have HB3:=Lib.hid hb3
          clear hb3
          go_wp2_with fail
          have HB4 : Hid (Below wr.heap.size wr (w3.alloc (.cells #[S key,S val] 66))):=HB3.out.alloc HB3.out.size _
          refine (HPN.out _ HB4.out).mono ?_
          rintro e w5 ⟨rfl,hb5⟩
          have HB5 : Hid (Below wr.heap.size wr w5):=HB4.out.trans (hb5.mono HB4.out.size)
          have HX : Hid (w5.heap[w3.heap.size]?=some (.cells #[S key,S val] 66 (0,0))):=(hb5.block _ (by simp)).trans (MapKept.heap_alloc w3 _).1
          obtain ⟨x1,x2,x3,x4⟩:=two_cells HX.out
          have d0':=HD0.out w5 HB5.out
          obtain ⟨ta,tc,t1,t2,t3⟩:=(HR.out.tab.on HB5.out).tab.cell
          clear hb5
          clear t3
          go_wp2_with fail
          go_roundw
          case rel=>exact ⟨pos,61,q + 1,T,by omega,rfl,rfl,by go_num,HFIN.out w5 61 HB5.out HW.out (by omega)⟩
          case measure=>simp [intOf]; omega
         ·have k2 : val.isEmpty=false:=by simpa using hv0
          by_cases h1000 : 1000 < val.length
          ·have k3 : (1000 : Int) < (val.length : Int):=by omega
           have HW:=Lib.hid (show wrongE T (key,val)=61 by unfold wrongE; rw [if_pos (Or.inr (Or.inr h1000))])
           go_wp2_with (first | (go_at_call 47; (with_reducible refine HEN.out.mono ?_); rintro e w3 ⟨rfl,hb3⟩; refine Hid.out ?_) | fail)
           refine Lib.hid ?_
           have HB3:=Lib.hid hb3
           clear hb3
           go_wp2_with fail
           have HB4 : Hid (Below wr.heap.size wr (w3.alloc (.cells #[S key,S val] 66))):=HB3.out.alloc HB3.out.size _
           refine (HPN.out _ HB4.out).mono ?_
           rintro e w5 ⟨rfl,hb5⟩
           have HB5 : Hid (Below wr.heap.size wr w5):=HB4.out.trans (hb5.mono HB4.out.size)
           have HX : Hid (w5.heap[w3.heap.size]?=some (.cells #[S key,S val] 66 (0,0))):=(hb5.block _ (by simp)).trans (MapKept.heap_alloc w3 _).1
           obtain ⟨x1,x2,x3,x4⟩:=two_cells HX.out
           have d0':=HD0.out w5 HB5.out
           obtain ⟨ta,tc,t1,t2,t3⟩:=(HR.out.tab.on HB5.out).tab.cell
           clear hb5
           clear t3
           go_wp2_with fail
           go_roundw
           case rel=>exact ⟨pos,61,q + 1,T,by omega,rfl,rfl,by go_num,HFIN.out w5 61 HB5.out HW.out (by omega)⟩
           case measure=>simp [intOf]; omega
          ·have k3 : ¬ (1000 : Int) < (val.length : Int):=by omega
           by_cases h2000 : 2000≤T.length
           ·have k4 : (2000 : Int)≤(T.length : Int):=by omega
            have HW:=Lib.hid (show wrongE T (key,val)=62 by unfold wrongE; rw [if_neg (fun h=>h.elim h320 (fun h=>h.elim hv0 h1000)),if_neg (by rw [HHH.out]; simp),if_pos h2000])
            go_wp2_with (first | (go_at_call 47; (with_reducible refine HEN.out.mono ?_); rintro e w3 ⟨rfl,hb3⟩; refine Hid.out ?_) | fail)
            refine Lib.hid ?_
            have HB3:=Lib.hid hb3
            clear hb3
            go_wp2_with fail
            have HB4 : Hid (Below wr.heap.size wr (w3.alloc (.cells #[S key,S val] 66))):=HB3.out.alloc HB3.out.size _
            refine (HPN.out _ HB4.out).mono ?_
            rintro e w5 ⟨rfl,hb5⟩
            have HB5 : Hid (Below wr.heap.size wr w5):=HB4.out.trans (hb5.mono HB4.out.size)
            have HX : Hid (w5.heap[w3.heap.size]?=some (.cells #[S key,S val] 66 (0,0))):=(hb5.block _ (by simp)).trans (MapKept.heap_alloc w3 _).1
            obtain ⟨x1,x2,x3,x4⟩:=two_cells HX.out
            have d0':=HD0.out w5 HB5.out
            obtain ⟨ta,tc,t1,t2,t3⟩:=(HR.out.tab.on HB5.out).tab.cell
            clear hb5
            clear t3
            go_wp2_with fail
            go_roundw
            case rel=>exact ⟨pos,62,q + 1,T,by omega,rfl,rfl,by go_num,HFIN.out w5 62 HB5.out HW.out (by omega)⟩
            case measure=>simp [intOf]; omega
           ·have k4 : ¬ (2000 : Int)≤(T.length : Int):=by omega
            have HW:=Lib.hid (show wrongE T (key,val)=0 by unfold wrongE; rw [if_neg (fun h=>h.elim h320 (fun h=>h.elim hv0 h1000)),if_neg (by rw [HHH.out]; simp),if_neg h2000])
            clear h320 hv0 h1000 h2000
            go_wp2_with (first | (go_at_call 47; (with_reducible refine HEN.out.mono ?_); rintro e w3 ⟨rfl,hb3⟩; refine Hid.out ?_) | fail)
            refine Lib.hid ?_
            have HB3:=Lib.hid hb3
            clear hb3
            go_wp2_with fail
            have HB4 : Hid (Below wr.heap.size wr (w3.alloc (.cells #[S key,S val] 66))):=HB3.out.alloc HB3.out.size _
            refine (HPN.out _ HB4.out).mono ?_
            rintro e w5 ⟨rfl,hb5⟩
            have HB5 : Hid (Below wr.heap.size wr w5):=HB4.out.trans (hb5.mono HB4.out.size)
            have HX : Hid (w5.heap[w3.heap.size]?=some (.cells #[S key,S val] 66 (0,0))):=(hb5.block _ (by simp)).trans (MapKept.heap_alloc w3 _).1
            obtain ⟨x1,x2,x3,x4⟩:=two_cells HX.out
            have d0':=HD0.out w5 HB5.out
            obtain ⟨ta,tc,t1,t2,t3⟩:=(HR.out.tab.on HB5.out).tab.cell
            clear hb5
            have T3:=Lib.hid t3
            have TS:=Lib.hid (HR.out.tab.on HB5.out)
            have HIN : Hid (∀ w8,Below w2.heap.size w2 w8→TSt w8 w2.heap.size (insKV T (key,val))→ParR w2 w8 w2.heap.size ll (q + 1) n m (insKV T (key,val)) fin):=fun w8 h1 h2=>⟨h1,h2,Nat.le_refl _,HR.out.good.ins HW.out,by have h3:=HEQ.out; rw [if_pos HW.out] at h3; exact h3⟩
            have HI2 : Hid (insKV T (key,val)=T.take (posOf T key)++(key,val) :: T.drop (posOf T key)):=rfl
            have HB25 : Hid (Below w2.heap.size w2 w5):=HR.out.below.trans (HB5.out.mono HR.out.below.size)
            generalize insKV T (key,val)=T2 at HIN HI2
            generalize posOf T key=ps at hpos HI2
            have p0 : (0 : Int)≤(ps : Int):=by omega
            have p1 : (ps : Int)≤(T.length : Int):=by omega
            have p2 : (ps : Int)≤(tc : Int):=by omega
            have p3 : ps≤tc:=by omega
            have PS:=Lib.hid hpos
            have LT : Hid ((T.take ps).length=ps):=by show _=_; rw [List.length_take]; omega
            have LD : Hid ((T.drop ps).length=T.length - ps):=by show _=_; rw [List.length_drop]
            have C1 : Hid (([] : List KV).length + (T.take ps).length≤1000000):=by show _≤_; rw [LT.out]; simp; omega
            have C2 : Hid (([]++T.take ps).length + [((key,val) : KV)].length≤1000000):=by show _≤_; rw [List.nil_append,LT.out]; simp; omega
            have C3 : Hid ((([]++T.take ps)++[((key,val) : KV)]).length + (T.drop ps).length≤1000000):=by show _≤_; rw [List.nil_append,List.length_append,LT.out,LD.out]; simp; omega
            clear t3
            go_wp2_with (at_builtin; go_must (refine wp_append2 rfl _ _ rfl w5.heap.size (.slice none 0 0) _ [] (T.take ps) rfl rfl (World.ownsRow_nil _ _ _ _) (Rows2.take T3.out PS.out) C1.out (Nat.le_refl _) ?_); intro v6 w6 o6 b6; refine Hid.out ?_)
            refine Lib.hid ?_
            have O6:=Lib.hid o6
            have B6:=Lib.hid b6
            obtain ⟨x1,x2,x3,x4⟩:=two_cells ((b6.block _ (heap_lt HX.out)).trans HX.out)
            clear o6 b6
            go_wp2_with (at_builtin; go_must (refine wp_append2 rfl _ _ rfl w5.heap.size v6 _ ([]++T.take ps) [(key,val)] rfl rfl (O6.out.alloc _) (rows2_one _ (key,val) _) C2.out (Nat.le_trans B6.out.size (Below.alloc1 _ _).size) ?_); intro v7 w7 o7 b7; refine Hid.out ?_)
            refine Lib.hid ?_
            have O7:=Lib.hid o7
            have B7 : Hid (Below w5.heap.size w6 w7):=(Below.alloc1 w6 (.cells #[S key,S val] 66)).mono B6.out.size |>.trans b7
            clear o7 b7
            have B57 : Hid (Below w5.heap.size w5 w7):=B6.out.trans B7.out
            have TS7 : Hid (TSt w7 w2.heap.size T):=TS.out.on B57.out
            have T37:=Lib.hid (T3.out.on B57.out)
            obtain ⟨ta7,tc7,t17,t27,t37⟩:=TS7.out.tab.cell
            have T1E : Hid (w7.cell? ⟨w2.heap.size,0,none⟩=some (.slice ta T.length tc)):=(B57.out.cell (p:=⟨w2.heap.size,0,none⟩) (cell_lt t1)).trans t1
            clear t17 t27 t37
            have t1':=T1E.out
            go_wp2_with (at_builtin; go_must (refine wp_append2 rfl _ _ rfl w5.heap.size v7 _ (([]++T.take ps)++[(key,val)]) (T.drop ps) rfl rfl O7.out (by first | exact Rows2.drop T37.out PS.out | (have hd:=Rows2.drop T37.out PS.out; rw [Option.map_some,Addr.add_lit] at hd; exact hd)) C3.out B57.out.size ?_); intro v8 w8 o8 b8; refine Hid.out ?_)
            all_goals
             refine Lib.hid ?_
             have B58 : Hid (Below w5.heap.size w5 w8):=B57.out.trans b8
             have e8 : (([]++T.take ps)++[(key,val)])++T.drop ps=T2:=by rw [HI2.out]; simp
             rw [e8] at o8
             obtain ⟨va,vc,rfl,_⟩:=row_form o8
             obtain ⟨P1,⟨u,P2⟩,P3⟩:=TS.out.put B58.out o8
             have HFX : Hid (ParR w2 (w8.setCell ⟨w2.heap.size,0,none⟩ (.slice va T2.length vc)) w2.heap.size ll (q + 1) n m T2 fin):=HIN.out _ ((HB25.out.trans (B58.out.mono HB25.out.size)).setCell (Nat.le_refl _) _) P1
             clear o8 b8 P1 e8
             go_wp2_with fail
             go_roundw
             case rel=>exact ⟨n,m,q + 1,T2,by omega,rfl,rfl,by go_num,HFX⟩
             case measure=>simp [intOf]; omega
       ·have HPN : Hid (∀ wx,Below wr.heap.size wr wx→Calls Tryz.prog 48 #[.pointer (some ⟨w2.heap.size,0,none⟩),S key] wx fun e w'=>e=.returned (.tuple #[.int .i64 (posOf T key : Int),.bool true])∧Below wx.heap.size wx w'):=fun wx hb=>(HPL.out wx hb).mono fun e w' ⟨h1,h2⟩=>⟨by rw [h1,hh],h2⟩
        have HHH:=Lib.hid hh
        clear hh HPL
        by_cases h320 : 320 < key.length
        ·have k1 : (320 : Int) < (key.length : Int):=by omega
         have HW:=Lib.hid (show wrongE T (key,val)=61 by unfold wrongE; rw [if_pos (Or.inl h320)])
         go_wp2_with (first | (go_at_call 47; (with_reducible refine HEN.out.mono ?_); rintro e w3 ⟨rfl,hb3⟩; refine Hid.out ?_) | fail)
         refine Lib.hid ?_
         have HB3:=Lib.hid hb3
         clear hb3
         go_wp2_with fail
         have HB4 : Hid (Below wr.heap.size wr (w3.alloc (.cells #[S key,S val] 66))):=HB3.out.alloc HB3.out.size _
         refine (HPN.out _ HB4.out).mono ?_
         rintro e w5 ⟨rfl,hb5⟩
         have HB5 : Hid (Below wr.heap.size wr w5):=HB4.out.trans (hb5.mono HB4.out.size)
         have HX : Hid (w5.heap[w3.heap.size]?=some (.cells #[S key,S val] 66 (0,0))):=(hb5.block _ (by simp)).trans (MapKept.heap_alloc w3 _).1
         obtain ⟨x1,x2,x3,x4⟩:=two_cells HX.out
         have d0':=HD0.out w5 HB5.out
         obtain ⟨ta,tc,t1,t2,t3⟩:=(HR.out.tab.on HB5.out).tab.cell
         clear hb5
         clear t3
         go_wp2_with fail
         go_roundw
         case rel=>exact ⟨pos,61,q + 1,T,by omega,rfl,rfl,by go_num,HFIN.out w5 61 HB5.out HW.out (by omega)⟩
         case measure=>simp [intOf]; omega
        ·have k1 : ¬ (320 : Int) < (key.length : Int):=by omega
         by_cases hv0 : val=[]
         ·have HW:=Lib.hid (show wrongE T (key,val)=61 by unfold wrongE; rw [if_pos (Or.inr (Or.inl hv0))])
          have k2 : val.isEmpty=true:=by rw [hv0]; rfl
          clear hv0
          go_wp2_with (first | (go_at_call 47; (with_reducible refine HEN.out.mono ?_); rintro e w3 ⟨rfl,hb3⟩; refine Hid.out ?_) | fail)
          refine Lib.hid ?_
          have HB3:=Lib.hid hb3
          clear hb3
          go_wp2_with fail
          have HB4 : Hid (Below wr.heap.size wr (w3.alloc (.cells #[S key,S val] 66))):=HB3.out.alloc HB3.out.size _
          refine (HPN.out _ HB4.out).mono ?_
          rintro e w5 ⟨rfl,hb5⟩
          have HB5 : Hid (Below wr.heap.size wr w5):=HB4.out.trans (hb5.mono HB4.out.size)
          have HX : Hid (w5.heap[w3.heap.size]?=some (.cells #[S key,S val] 66 (0,0))):=(hb5.block _ (by simp)).trans (MapKept.heap_alloc w3 _).1
          obtain ⟨x1,x2,x3,x4⟩:=two_cells HX.out
          have d0':=HD0.out w5 HB5.out
          obtain ⟨ta,tc,t1,t2,t3⟩:=(HR.out.tab.on HB5.out).tab.cell
          clear hb5
          clear t3
          go_wp2_with fail
          go_roundw
          case rel=>exact ⟨pos,61,q + 1,T,by omega,rfl,rfl,by go_num,HFIN.out w5 61 HB5.out HW.out (by omega)⟩
          case measure=>simp [intOf]; omega
         ·have k2 : val.isEmpty=false:=by simpa using hv0
          by_cases h1000 : 1000 < val.length
          ·have k3 : (1000 : Int) < (val.length : Int):=by omega
           have HW:=Lib.hid (show wrongE T (key,val)=61 by unfold wrongE; rw [if_pos (Or.inr (Or.inr h1000))])
           go_wp2_with (first | (go_at_call 47; (with_reducible refine HEN.out.mono ?_); rintro e w3 ⟨rfl,hb3⟩; refine Hid.out ?_) | fail)
           refine Lib.hid ?_
           have HB3:=Lib.hid hb3
           clear hb3
           go_wp2_with fail
           have HB4 : Hid (Below wr.heap.size wr (w3.alloc (.cells #[S key,S val] 66))):=HB3.out.alloc HB3.out.size _
           refine (HPN.out _ HB4.out).mono ?_
           rintro e w5 ⟨rfl,hb5⟩
           have HB5 : Hid (Below wr.heap.size wr w5):=HB4.out.trans (hb5.mono HB4.out.size)
           have HX : Hid (w5.heap[w3.heap.size]?=some (.cells #[S key,S val] 66 (0,0))):=(hb5.block _ (by simp)).trans (MapKept.heap_alloc w3 _).1
           obtain ⟨x1,x2,x3,x4⟩:=two_cells HX.out
           have d0':=HD0.out w5 HB5.out
           obtain ⟨ta,tc,t1,t2,t3⟩:=(HR.out.tab.on HB5.out).tab.cell
           clear hb5
           clear t3
           go_wp2_with fail
           go_roundw
           case rel=>exact ⟨pos,61,q + 1,T,by omega,rfl,rfl,by go_num,HFIN.out w5 61 HB5.out HW.out (by omega)⟩
           case measure=>simp [intOf]; omega
          ·have k3 : ¬ (1000 : Int) < (val.length : Int):=by omega
           have HW:=Lib.hid (show wrongE T (key,val)=63 by unfold wrongE; rw [if_neg (fun h=>h.elim h320 (fun h=>h.elim hv0 h1000)),if_pos HHH.out])
           go_wp2_with (first | (go_at_call 47; (with_reducible refine HEN.out.mono ?_); rintro e w3 ⟨rfl,hb3⟩; refine Hid.out ?_) | fail)
           refine Lib.hid ?_
           have HB3:=Lib.hid hb3
           clear hb3
           go_wp2_with fail
           have HB4 : Hid (Below wr.heap.size wr (w3.alloc (.cells #[S key,S val] 66))):=HB3.out.alloc HB3.out.size _
           refine (HPN.out _ HB4.out).mono ?_
           rintro e w5 ⟨rfl,hb5⟩
           have HB5 : Hid (Below wr.heap.size wr w5):=HB4.out.trans (hb5.mono HB4.out.size)
           have HX : Hid (w5.heap[w3.heap.size]?=some (.cells #[S key,S val] 66 (0,0))):=(hb5.block _ (by simp)).trans (MapKept.heap_alloc w3 _).1
           obtain ⟨x1,x2,x3,x4⟩:=two_cells HX.out
           have d0':=HD0.out w5 HB5.out
           obtain ⟨ta,tc,t1,t2,t3⟩:=(HR.out.tab.on HB5.out).tab.cell
           clear hb5
           clear t3
           go_wp2_with fail
           go_roundw
           case rel=>exact ⟨pos,63,q + 1,T,by omega,rfl,rfl,by go_num,HFIN.out w5 63 HB5.out HW.out (by omega)⟩
           case measure=>simp [intOf]; omega
      ·have j2 : ¬ (pos : Int) < (n : Int):=by omega
       rw [show (if pos < n then (if wrongE T (kvOf ⟨pos,text,more⟩)=0 then runE (ll.drop (q + 1)) n m (insKV T (kvOf ⟨pos,text,more⟩)) else runE (ll.drop (q + 1)) pos (wrongE T (kvOf ⟨pos,text,more⟩)) T) else (T,m,n))=_ from if_neg hp] at HEQ
       clear hp
       have HBL : Hid (w.heap.size < w2.heap.size):=Nat.lt_of_lt_of_le (heap_lt HBX.out) HST.out.below.size
       have HBXR : Hid (wr.heap[w.heap.size]?=some (.cells #[.int .i64 0,.int .i64 0] 49 (0,0))):=(HR.out.below.block _ HBL.out).trans ((HST.out.below.block _ (heap_lt HBX.out)).trans HBX.out)
       obtain ⟨y1,y2,y3,y4⟩:=two_cells HBXR.out
       have HBF : Hid (Below w.heap.size w wr):=(HB0.out.trans (HST.out.below.mono HB0.out.size)).trans (HR.out.below.mono (Nat.le_trans HB0.out.size HST.out.below.size))
       have HTS:=Lib.hid HR.out.tab
       by_cases hm : m=0
       ·have k1 : ((m : Int) != 0)=false:=by rw [hm]; rfl
        have HM:=Lib.hid hm
        clear hm
        go_wp2_with fail
        obtain ⟨z1,z2,_,_⟩:=two_cells (set_two HBXR.out (.int .i64 0) (.int .i64 0))
        exact bodyPost_ret (v:=.tuple #[.pointer (some ⟨w2.heap.size,0,none⟩),.agg #[.int .i64 0,.int .i64 0]]) (by simp [results,Tryz.results18,go_sem,z1,z2]) rfl ⟨(HBF.out.setCell (Nat.le_refl _) _).setCell (Nat.le_refl _) _,Or.inl ⟨by rw [← HEQ.out]; exact HM.out,_,rfl,by rw [← HEQ.out]; exact HTS.out.boxed HBL.out _ _⟩⟩
       ·have k1 : ((m : Int) != 0)=true:=by rw [bne_iff_ne]; omega
        have HM:=Lib.hid hm
        clear hm
        go_wp2_with fail
        obtain ⟨z1,z2,_,_⟩:=two_cells (set_two HBXR.out (.int .i64 (m : Int)) (.int .i64 (n : Int)))
        exact bodyPost_ret (v:=.tuple #[.pointer none,.agg #[.int .i64 (m : Int),.int .i64 (n : Int)]]) (by simp [results,Tryz.results18,go_sem,z1,z2]) rfl ⟨(HBF.out.setCell (Nat.le_refl _) _).setCell (Nat.le_refl _) _,Or.inr ⟨by rw [← HEQ.out]; exact HM.out,by rw [← HEQ.out]⟩⟩
     ·have j1 : ¬ (q : Int) < (es.length : Int):=by omega
      have HEQ : Hid ((T,m,n)=fin):=by
       have h1:=HR.out.eq
       rw [List.drop_eq_nil_of_le (by rw [← HES.out,List.length_map]; omega)] at h1
       exact h1
      have HBL : Hid (w.heap.size < w2.heap.size):=Nat.lt_of_lt_of_le (heap_lt HBX.out) HST.out.below.size
      have HBXR : Hid (wr.heap[w.heap.size]?=some (.cells #[.int .i64 0,.int .i64 0] 49 (0,0))):=(HR.out.below.block _ HBL.out).trans ((HST.out.below.block _ (heap_lt HBX.out)).trans HBX.out)
      obtain ⟨y1,y2,y3,y4⟩:=two_cells HBXR.out
      have HBF : Hid (Below w.heap.size w wr):=(HB0.out.trans (HST.out.below.mono HB0.out.size)).trans (HR.out.below.mono (Nat.le_trans HB0.out.size HST.out.below.size))
      have HTS:=Lib.hid HR.out.tab
      by_cases hm : m=0
      ·have k1 : ((m : Int) != 0)=false:=by rw [hm]; rfl
       have HM:=Lib.hid hm
       clear hm
       go_wp2_with fail
       obtain ⟨z1,z2,_,_⟩:=two_cells (set_two HBXR.out (.int .i64 0) (.int .i64 0))
       exact bodyPost_ret (v:=.tuple #[.pointer (some ⟨w2.heap.size,0,none⟩),.agg #[.int .i64 0,.int .i64 0]]) (by simp [results,Tryz.results18,go_sem,z1,z2]) rfl ⟨(HBF.out.setCell (Nat.le_refl _) _).setCell (Nat.le_refl _) _,Or.inl ⟨by rw [← HEQ.out]; exact HM.out,_,rfl,by rw [← HEQ.out]; exact HTS.out.boxed HBL.out _ _⟩⟩
      ·have k1 : ((m : Int) != 0)=true:=by rw [bne_iff_ne]; omega
       have HM:=Lib.hid hm
       clear hm
       go_wp2_with fail
       obtain ⟨z1,z2,_,_⟩:=two_cells (set_two HBXR.out (.int .i64 (m : Int)) (.int .i64 (n : Int)))
       exact bodyPost_ret (v:=.tuple #[.pointer none,.agg #[.int .i64 (m : Int),.int .i64 (n : Int)]]) (by simp [results,Tryz.results18,go_sem,z1,z2]) rfl ⟨(HBF.out.setCell (Nat.le_refl _) _).setCell (Nat.le_refl _) _,Or.inr ⟨by rw [← HEQ.out]; exact HM.out,by rw [← HEQ.out]⟩⟩
end Go.Proofs.YtghnopkgcgfcpaaGreatDoor.Table
