/-
  MERGED by mergefill.py: TabPrs, TabSame, TabSam2, TabPar.
-/
import Derived.Test.YtghnopkgcgfcpaaGreatDoorTabPTabMg
set_option maxHeartbeats 16000000
set_option maxRecDepth 100000
namespace Go.Proofs.YtghnopkgcgfcpaaGreatDoor.Table
open Go.RowKit Base
theorem pParseIn (HIX : IdxOk) (s : ByteArray) (w : World) (hm : MaxOk w) (hsz : s.size≤262144) : Calls Tryz.prog 14 #[.string s] w (PrsEnd (parseP s.data.toList) w):=by
 have i1 : ¬ (262144 : Int) < (s.size : Int):=by omega
 obtain ⟨bad,hbad⟩ : ∃ bad,bad=badF s.data.toList:=⟨_,rfl⟩
 obtain ⟨ls,hls⟩ : ∃ ls,ls=splitB 10 s.data.toList:=⟨_,rfl⟩
 have HBADC : Hid (∀ w1,Calls Tryz.prog 33 #[.string s] w1 fun e w'=>e=.returned (.agg #[.int .i64 (bad.1 : Int),.int .i64 (bad.2 : Int)])∧Below w1.heap.size w1 w'):=fun w1=>by rw [hbad]; exact pBad s w1 (by omega)
 have i1' : decide ((262144 : Int) < (s.size : Int))=false:=decide_eq_false i1
 have HSPL : Hid (∀ w1,MaxOk w1→Calls Tryz.prog 34 #[.string s,.string ⟨#[10]⟩] w1 (SplitE ls w1)):=fun w1 h=>by rw [hls]; exact pSplit s w1 (by omega) h
 obtain ⟨res,hres⟩ : ∃ res,res=parseP s.data.toList:=⟨_,rfl⟩
 obtain ⟨fin,hfin⟩ : ∃ fin,fin=runP 0 ls [] none:=⟨_,rfl⟩
 have HR1 : Hid (∀ f,fin=.inl f→res=.inl (firstF bad f)):=fun f hf=>by
  rw [hres]; unfold parseP
  rw [← hls,← hfin,hf,← hbad]
 have HR2 : Hid (∀ E cur f,fin=.inr (E,cur)→endP E cur=.inl f→res=.inl (firstF bad f)):=fun E cur f hf he=>by
  rw [hres]; unfold parseP
  rw [← hls,← hfin,hf,← hbad]
  show (match endP E cur with | .inl f=>_ | .inr E2=>_)=_
  rw [he]
 have HR3 : Hid (∀ E cur E2,fin=.inr (E,cur)→endP E cur=.inr E2→res=if bad.1=0 then .inr E2 else .inl bad):=fun E cur E2 hf he=>by
  rw [hres]; unfold parseP
  rw [← hls,← hfin,hf,← hbad]
  show (match endP E cur with | .inl f=>_ | .inr E2=>_)=_
  rw [he]
 rw [← hres]
 have HM:=Lib.hid hm
 have HLL : Hid (ls.length≤262145∧sumL ls=s.size + 1):=by
  have h1:=splitB_len 10 s.data.toList
  have h2:=splitB_sum 10 s.data.toList
  rw [str_len] at h1 h2
  rw [hls]
  exact ⟨by omega,h2⟩
 have HFI:=Lib.hid hfin
 clear hbad hls hres hm hfin
 have hmm:=@run_makeMap Tryz.prog
 go_enter Tryz.func14,Tryz.ntmps14
 go_wp2
 refine wp_scope_fwd fun F hF=>?_
 have HF:=Lib.hid hF
 clear hF
 go_wp2_with (first | (go_at_call 33; refine (HBADC.out _).mono ?_; rintro e w1 ⟨rfl,hb1⟩; refine Hid.out ?_) | fail)
 refine Lib.hid ?_
 have HB1:=Lib.hid hb1
 have zw : w.heap.size + 1≤w1.heap.size:=by have:=hb1.size; simpa using this
 have HBW1 : Hid (Below w.heap.size w w1):=(Below.alloc1 _ _).trans (hb1.mono (by simp))
 clear hb1
 have HM4 : Hid (∀ o1 o2 o3 o4 : Obj,MaxOk ((((w1.alloc o1).alloc o2).alloc o3).alloc o4)):=fun o1 o2 o3 o4=>HM.out.on (HBW1.out.trans (((((Below.refl w1.heap.size w1).alloc (Nat.le_refl _) _).alloc (by simp) _).alloc (by simp; omega) _).alloc (by simp; omega) _ |>.mono (by omega)))
 clear zw
 go_wp2_with (first | (go_at_call 34; refine (HSPL.out _ (HM4.out _ _ _ _)).mono ?_; rintro e w5 ⟨gl,lc,cur9,rfl,hc9,hlc,hcl,hb5⟩; refine Hid.out ?_) | fail)
 refine Lib.hid ?_
 have HPL:=Lib.hid (pl_start HB1.out hb5 hc9)
 have HCL:=Lib.hid hcl
 have hll1:=HLL.out.1
 clear hc9 hcl hb5 HM4 hmm
 have HL0 : Hid (LoopI w w5 w.heap.size w1.heap.size (w1.heap.size + 1 + 1 + 1) (w1.heap.size + 1 + 1) (w1.heap.size + 1) gl bad cur9 ls (s.size + 1) fin 0 0 [] none):=⟨HPL.out,HFI.out.symm,Nat.zero_le _,(fun e he=>by cases he),by rw [List.drop_zero,HLL.out.2]; simp⟩
 generalize w1.heap.size=n1 at *
 have HMC : Hid (∀ wr k E cur (l : List UInt8),PL w wr w.heap.size n1 (n1 + 1 + 1 + 1) (n1 + 1 + 1) (n1 + 1) gl bad cur9 E cur→ls[k]?=some l→wr.cell? ⟨gl,k,none⟩=some (S l)):=fun wr k E cur l h hl=>by
  rw [cell_of_row wr gl k _ _ _ h.h3]; exact HCL.out k l hl
 clear HPL
 go_wp2_with fail
 go_loopw [7,21] (fun a i wr=>∃ (k A : Nat) (E : List KV) (cur : Option Ent),k≤ls.length∧a=.int .i64 (A : Int)∧i=.int .i64 (k : Int)∧Hid (LoopI w wr w.heap.size n1 (n1 + 1 + 1 + 1) (n1 + 1 + 1) (n1 + 1) gl bad cur9 ls (s.size + 1) fin k A E cur)) (fun _ i _=>ls.length - (intOf i).toNat)
 case atStart=>exact ⟨0,0,[],none,by omega,rfl,rfl,HL0⟩
 case round =>
  clear HL0 HFI
  obtain ⟨k,A,E,cur,hk,rfl,rfl,HI⟩:=hrel
  obtain ⟨hkl,hvl,hAN⟩:=HI.out.bounds
  have hEl:=HI.out.el
  by_cases hlt : k < ls.length
  ·obtain ⟨l,hl⟩ : ∃ l,ls[k]?=some l:=⟨ls[k],List.getElem?_eq_getElem hlt⟩
   have hc:=HMC.out wr k E cur l HI.out.pl hl
   obtain ⟨_,hsum⟩:=HI.out.cons hl
   have HLK:=Lib.hid hl
   obtain ⟨line,hline⟩ : ∃ line : ByteArray,line.data.toList=l:=⟨⟨l.toArray⟩,rfl⟩
   have hc2 : wr.cell? ⟨gl,k,none⟩=some (.string line):=by rw [hc,← hline]
   have hlsz : line.size=l.length:=by rw [← str_len,hline]
   have HLN:=Lib.hid hline
   have j0 : (0 : Int)≤(k : Int):=by omega
   have j1 : (k : Int) < (ls.length : Int):=by omega
   have HPS : Hid (∀ wx,Calls Tryz.prog 35 #[.string line] wx fun e w'=>e=.returned (.bool (skipB l))∧Below wx.heap.size wx w'):=fun wx=>by
    have:=pPassed line wx
    rw [hline] at this; exact this
   have HLZ:=Lib.hid hlsz
   have hl9 : line.size + A + 1≤262145:=by omega
   clear hc hl hline hlsz hsum
   cases hs : skipB l
   ·have HSK:=Lib.hid hs
    rw [hs] at HPS
    have hl0 : 0 < line.size:=by
     rcases Nat.eq_zero_or_pos line.size with h | h
     ·have : l=[]:=by rw [← HLN.out]; exact List.eq_nil_of_length_eq_zero (by rw [str_len]; exact h)
      rw [this] at hs; cases hs
     ·exact h
    have n1' : (0 : Int) < (line.size : Int):=by omega
    have HHD : Hid (headIs isBl l=isBl line[0]):=by show _=_; rw [← HLN.out]; exact head_at isBl line hl0
    have HBK : Hid (∀ w1,Calls Tryz.prog 36 #[.int .u8 (line[0].toNat : Int)] w1 fun e w'=>e=.returned (.bool (isBl line[0]))∧w1=w'):=fun w1=>pBlank line[0] w1
    clear hs
    go_wp2_with (first | (go_at_call 35; refine (HPS.out _).mono ?_; rintro e w6 ⟨rfl,hb6⟩; refine Hid.out ?_) | fail)
    refine Lib.hid ?_
    have HP6:=Lib.hid (HI.out.pl.on hb6)
    clear hb6 hc2
    cases hb : isBl line[0]
    ·rw [hb] at HBK HHD
     clear hb
     have HEND : Hid (Calls Tryz.prog 37 #[.pointer (some ⟨n1 + 1 + 1,0,none⟩)] w6 (EndEnd w.heap.size w6 (n1 + 1 + 1) (n1 + 1) E cur.isSome (posC cur) (keyC cur) (valC cur))):=pEnd w.heap.size w6 (n1 + 1 + 1) (n1 + 1) E cur.isSome (posC cur) (keyC cur) (valC cur) HP6.out.rst (by omega) (by omega) (by omega)
     have HSPLIT : Hid ((∃ f1 f2 : Nat,f1 ≠ 0∧endP E cur=.inl (f1,f2)∧Calls Tryz.prog 37 #[.pointer (some ⟨n1 + 1 + 1,0,none⟩)] w6 fun e w'=>e=.returned (.agg #[.int .i64 (f1 : Int),.int .i64 (f2 : Int)])∧PL w w' w.heap.size n1 (n1 + 1 + 1 + 1) (n1 + 1 + 1) (n1 + 1) gl bad cur9 E cur) ∨
       ∃ E2 : List KV,E2.length≤E.length + 1∧endP E cur=.inr E2∧Calls Tryz.prog 37 #[.pointer (some ⟨n1 + 1 + 1,0,none⟩)] w6 fun e w'=>e=.returned (.agg #[.int .i64 0,.int .i64 0])∧PL w w' w.heap.size n1 (n1 + 1 + 1 + 1) (n1 + 1 + 1) (n1 + 1) gl bad cur9 E2 cur):=by
      have h1:=HEND.out
      cases cur with
      | none=>exact Or.inr ⟨E,by omega,rfl,h1.mono fun e w' ⟨q1,q2⟩=>by
        rcases q2 with ⟨_,q3,q4⟩ | ⟨q3,_⟩ | ⟨q3,_⟩
        ·exact ⟨q3,HP6.out.step q1 q4⟩
        ·cases q3
        ·cases q3⟩
      | some ent =>
       by_cases hw : wrongP E (kvOf ent).1 (kvOf ent).2=0
       ·exact Or.inr ⟨E++[kvOf ent],by simp,endP_yes hw,h1.mono fun e w' ⟨q1,q2⟩=>by
         rcases q2 with ⟨q3,_⟩ | ⟨_,q3,_⟩ | ⟨_,_,q3,q4⟩
         ·cases q3
         ·exact absurd hw q3
         ·exact ⟨q3,HP6.out.step q1 q4⟩⟩
       ·exact Or.inl ⟨_,_,hw,endP_no hw,h1.mono fun e w' ⟨q1,q2⟩=>by
         rcases q2 with ⟨q3,_⟩ | ⟨_,_,q3,q4⟩ | ⟨_,q3,_⟩
         ·cases q3
         ·exact ⟨q3,HP6.out.step q1 q4⟩
         ·exact absurd q3 hw⟩
     clear HEND
     rcases HSPLIT.out with ⟨f1,f2,hf,he,hc29⟩ | ⟨E2,hE2,he,hc29⟩
     ·have HC29:=Lib.hid hc29
      have HEQ:=Lib.hid he
      clear he hc29 HSPLIT
      have HRF:=Lib.hid (HR1.out _ (HI.out.wrong HLK.out HSK.out HHD.out HEQ.out))
      have k1 : ((f1 : Int) != 0)=true:=by rw [bne_iff_ne]; omega
      go_wp2_with (first | (go_at_call 36; refine (HBK.out _).mono ?_; rintro e w7 ⟨rfl,rfl⟩) | (go_at_call 37; refine HC29.out.mono ?_; rintro e w8 ⟨rfl,p8⟩; refine Hid.out ?_) | fail)
      refine Lib.hid ?_
      have HP8:=Lib.hid p8
      obtain ⟨fa,fb,fc,fd⟩:=two_cells p8.h2
      have T0 : Hid (box27 ((w8.setCell ⟨n1 + 1 + 1 + 1,0,none⟩ (.int .i64 (f1 : Int))).setCell ⟨n1 + 1 + 1 + 1,1,none⟩ (.int .i64 (f2 : Int))) w.heap.size (0,0)):=(box_other HP8.out.ne.2.1).trans HP8.out.h0
      have T1 : Hid (((w8.setCell ⟨n1 + 1 + 1 + 1,0,none⟩ (.int .i64 (f1 : Int))).setCell ⟨n1 + 1 + 1 + 1,1,none⟩ (.int .i64 (f2 : Int))).heap[n1]?=some (.cells #[.int .i64 (bad.1 : Int),.int .i64 (bad.2 : Int)] 49 (0,0))):=(box_other HP8.out.ne.2.2.1).trans HP8.out.h1
      have T2 : Hid (((w8.setCell ⟨n1 + 1 + 1 + 1,0,none⟩ (.int .i64 (f1 : Int))).setCell ⟨n1 + 1 + 1 + 1,1,none⟩ (.int .i64 (f2 : Int))).heap[n1 + 1 + 1 + 1]?=some (.cells #[.int .i64 (f1 : Int),.int .i64 (f2 : Int)] 49 (0,0))):=box_same HP8.out.h2 ((f1,f2) : Nat × Nat)
      have TB : Hid (Below w.heap.size w ((w8.setCell ⟨n1 + 1 + 1 + 1,0,none⟩ (.int .i64 (f1 : Int))).setCell ⟨n1 + 1 + 1 + 1,1,none⟩ (.int .i64 (f2 : Int)))):=(HP8.out.below.setCell HP8.out.ne.2.2.2.2.2 _).setCell HP8.out.ne.2.2.2.2.2 _
      clear p8
      go_wp2_with fail
      clear fa fb fc fd
      obtain ⟨ya,yb,yc,yd⟩:=two_cells T1.out
      obtain ⟨za,zb,zc,zd⟩:=two_cells T2.out
      have HPF : Hid (∀ wx,Calls Tryz.prog 41 #[.agg #[.int .i64 (bad.1 : Int),.int .i64 (bad.2 : Int)],.agg #[.int .i64 (f1 : Int),.int .i64 (f2 : Int)]] wx fun e w'=>e=.returned (.agg #[.int .i64 ((firstF bad ((f1,f2) : Nat × Nat)).1 : Int),.int .i64 ((firstF bad ((f1,f2) : Nat × Nat)).2 : Int)])∧Below wx.heap.size wx w'):=fun wx=>pFirst bad ((f1,f2) : Nat × Nat) wx
      go_step3
      refine ⟨_,by rw [HF.out]; rfl,?_⟩
      clear HF
      go_wp2_with (first | (go_at_call 41; refine (HPF.out _).mono ?_; rintro e w9 ⟨rfl,hb9⟩; refine Hid.out ?_) | fail)
      refine Lib.hid ?_
      have T9:=Lib.hid (T0.out.on hb9)
      have TB9:=Lib.hid (TB.out.trans (hb9.mono TB.out.size))
      obtain ⟨xa,xb,xc,xd⟩:=two_cells T9.out
      clear hb9 ya yb yc yd za zb zc zd
      go_wp2_with fail
      obtain ⟨va,vb,_,_⟩:=two_cells (set_two T9.out (.int .i64 ((firstF bad ((f1,f2) : Nat × Nat)).1 : Int)) (.int .i64 ((firstF bad ((f1,f2) : Nat × Nat)).2 : Int)))
      exact bodyPost_ret (v:=.tuple #[.pointer none,.agg #[.int .i64 ((firstF bad ((f1,f2) : Nat × Nat)).1 : Int),.int .i64 ((firstF bad ((f1,f2) : Nat × Nat)).2 : Int)]]) (by simp [results,Tryz.results14,go_sem,va,vb]) rfl ⟨(TB9.out.setCell (Nat.le_refl _) _).setCell (Nat.le_refl _) _,by rw [HRF.out]; rfl⟩
     ·have HC29:=Lib.hid hc29
      have HEQ:=Lib.hid he
      clear he hc29 HSPLIT
      go_wp2_with (first | (go_at_call 36; refine (HBK.out _).mono ?_; rintro e w7 ⟨rfl,rfl⟩) | (go_at_call 37; refine HC29.out.mono ?_; rintro e w8 ⟨rfl,p8⟩; refine Hid.out ?_) | fail)
      refine Lib.hid ?_
      have HP8:=Lib.hid p8
      have HPF8:=Lib.hid p8.fault
      obtain ⟨fa,fb,fc,fd⟩:=two_cells p8.h2
      have HBG : Hid (∀ W,PL w W w.heap.size n1 (n1 + 1 + 1 + 1) (n1 + 1 + 1) (n1 + 1) gl bad cur9 E2 cur→Calls Tryz.prog 38 #[.pointer (some ⟨n1 + 1 + 1,0,none⟩),.int .i64 (A : Int),.string line] W fun e w'=>e=.returned (.tuple #[])∧PL w w' w.heap.size n1 (n1 + 1 + 1 + 1) (n1 + 1 + 1) (n1 + 1) gl bad cur9 E2 (some ⟨A,l,[]⟩)):=fun W hp=>by
       have h1:=pBegin HIX w.heap.size W (n1 + 1 + 1) (n1 + 1) E2 cur.isSome (posC cur : Int) (keyC cur) (valC cur) A line hp.rst (by omega)
       refine h1.mono fun e w' ⟨k1,k2,k3⟩=>⟨k1,hp.step k3 ?_⟩
       rw [HLN.out] at k2
       exact k2
      clear p8
      go_wp2_with (first | (go_at_call 38; refine (HBG.out _ HPF8.out).mono ?_; rintro e w10 ⟨rfl,p10⟩; refine Hid.out ?_) | fail)
      refine Lib.hid ?_
      have HN : Hid (LoopI w w10 w.heap.size n1 (n1 + 1 + 1 + 1) (n1 + 1 + 1) (n1 + 1) gl bad cur9 ls (s.size + 1) fin (k + 1) (A + l.length + 1) E2 (some ⟨A,l,[]⟩)):=HI.out.next HLK.out HSK.out HHD.out HEQ.out hE2 p10
      clear p10 fa fb fc fd
      go_wp2_with fail
      go_roundw
      case rel=>exact ⟨k + 1,A + l.length + 1,E2,_,by omega,by rw [HLZ.out]; go_num,by go_num,HN⟩
      case measure=>simp [intOf]; omega
    ·rw [hb] at HBK HHD
     clear hb
     cases cur with
     | none =>
      have HRF:=Lib.hid (HR1.out _ (HI.out.orphan HLK.out HSK.out HHD.out))
      have g2 : w6.cell? ⟨n1 + 1 + 1,2,none⟩=some (.bool false):=by obtain ⟨ev,vv,hx⟩:=HP6.out.rst; exact hx.cells.2.2.1
      obtain ⟨fa,fb,fc,fd⟩:=two_cells HP6.out.h2
      have T0 : Hid (box27 ((w6.setCell ⟨n1 + 1 + 1 + 1,0,none⟩ (.int .i64 61)).setCell ⟨n1 + 1 + 1 + 1,1,none⟩ (.int .i64 (A : Int))) w.heap.size (0,0)):=(box_other HP6.out.ne.2.1).trans HP6.out.h0
      have T1 : Hid (((w6.setCell ⟨n1 + 1 + 1 + 1,0,none⟩ (.int .i64 61)).setCell ⟨n1 + 1 + 1 + 1,1,none⟩ (.int .i64 (A : Int))).heap[n1]?=some (.cells #[.int .i64 (bad.1 : Int),.int .i64 (bad.2 : Int)] 49 (0,0))):=(box_other HP6.out.ne.2.2.1).trans HP6.out.h1
      have T2 : Hid (((w6.setCell ⟨n1 + 1 + 1 + 1,0,none⟩ (.int .i64 61)).setCell ⟨n1 + 1 + 1 + 1,1,none⟩ (.int .i64 (A : Int))).heap[n1 + 1 + 1 + 1]?=some (.cells #[.int .i64 61,.int .i64 (A : Int)] 49 (0,0))):=box_same HP6.out.h2 ((61,A) : Nat × Nat)
      have TB : Hid (Below w.heap.size w ((w6.setCell ⟨n1 + 1 + 1 + 1,0,none⟩ (.int .i64 61)).setCell ⟨n1 + 1 + 1 + 1,1,none⟩ (.int .i64 (A : Int)))):=(HP6.out.below.setCell HP6.out.ne.2.2.2.2.2 _).setCell HP6.out.ne.2.2.2.2.2 _
      go_wp2_with (first | (go_at_call 36; refine (HBK.out _).mono ?_; rintro e w7 ⟨rfl,rfl⟩) | fail)
      clear fa fb fc fd g2
      obtain ⟨ya,yb,yc,yd⟩:=two_cells T1.out
      obtain ⟨za,zb,zc,zd⟩:=two_cells T2.out
      have HPF : Hid (∀ wx,Calls Tryz.prog 41 #[.agg #[.int .i64 (bad.1 : Int),.int .i64 (bad.2 : Int)],.agg #[.int .i64 61,.int .i64 (A : Int)]] wx fun e w'=>e=.returned (.agg #[.int .i64 ((firstF bad ((61,A) : Nat × Nat)).1 : Int),.int .i64 ((firstF bad ((61,A) : Nat × Nat)).2 : Int)])∧Below wx.heap.size wx w'):=fun wx=>pFirst bad ((61,A) : Nat × Nat) wx
      go_step3
      refine ⟨_,by rw [HF.out]; rfl,?_⟩
      clear HF
      go_wp2_with (first | (go_at_call 41; refine (HPF.out _).mono ?_; rintro e w9 ⟨rfl,hb9⟩; refine Hid.out ?_) | fail)
      refine Lib.hid ?_
      have T9:=Lib.hid (T0.out.on hb9)
      have TB9:=Lib.hid (TB.out.trans (hb9.mono TB.out.size))
      obtain ⟨xa,xb,xc,xd⟩:=two_cells T9.out
      clear hb9 ya yb yc yd za zb zc zd
      go_wp2_with fail
      obtain ⟨va,vb,_,_⟩:=two_cells (set_two T9.out (.int .i64 ((firstF bad ((61,A) : Nat × Nat)).1 : Int)) (.int .i64 ((firstF bad ((61,A) : Nat × Nat)).2 : Int)))
      exact bodyPost_ret (v:=.tuple #[.pointer none,.agg #[.int .i64 ((firstF bad ((61,A) : Nat × Nat)).1 : Int),.int .i64 ((firstF bad ((61,A) : Nat × Nat)).2 : Int)]]) (by simp [results,Tryz.results14,go_sem,va,vb]) rfl ⟨(TB9.out.setCell (Nat.le_refl _) _).setCell (Nat.le_refl _) _,by rw [HRF.out]; rfl⟩
     | some ent =>
      have g2 : w6.cell? ⟨n1 + 1 + 1,2,none⟩=some (.bool true):=by obtain ⟨ev,vv,hx⟩:=HP6.out.rst; exact hx.cells.2.2.1
      have HAD : Hid (Calls Tryz.prog 39 #[.pointer (some ⟨n1 + 1 + 1,0,none⟩),.string line] w6 fun e w'=>e=.returned (.tuple #[])∧PL w w' w.heap.size n1 (n1 + 1 + 1 + 1) (n1 + 1 + 1) (n1 + 1) gl bad cur9 E (some { ent with more:=ent.more++[trim l] })):=by
       have h1:=pAdd w.heap.size w6 (n1 + 1 + 1) (n1 + 1) E true (posC (some ent) : Int) (keyC (some ent)) (valC (some ent)) line HP6.out.rst (by omega) (by omega)
       refine h1.mono fun e w' ⟨k1,k2,k3⟩=>⟨k1,HP6.out.step k3 ?_⟩
       rw [HLN.out] at k2
       have k4:=kv_more ent (trim l)
       show RSt _ _ _ _ _ _ _ (kvOf { ent with more:=ent.more++[trim l] }).1 (kvOf { ent with more:=ent.more++[trim l] }).2
       rw [k4]; exact k2
      go_wp2_with (first | (go_at_call 36; refine (HBK.out _).mono ?_; rintro e w7 ⟨rfl,rfl⟩) | (go_at_call 39; refine HAD.out.mono ?_; rintro e w8 ⟨rfl,p8⟩; refine Hid.out ?_) | fail)
      refine Lib.hid ?_
      have HN : Hid (LoopI w w8 w.heap.size n1 (n1 + 1 + 1 + 1) (n1 + 1 + 1) (n1 + 1) gl bad cur9 ls (s.size + 1) fin (k + 1) (A + l.length + 1) E (some { ent with more:=ent.more++[trim l] })):=HI.out.more HLK.out HSK.out HHD.out p8
      clear p8 g2
      go_wp2_with fail
      go_roundw
      case rel=>exact ⟨k + 1,A + l.length + 1,E,_,by omega,by rw [HLZ.out]; go_num,by go_num,HN⟩
      case measure=>simp [intOf]; omega
   ·have HSK:=Lib.hid hs
    rw [hs] at HPS
    clear hs
    go_wp2_with (first | (go_at_call 35; refine (HPS.out _).mono ?_; rintro e w6 ⟨rfl,hb6⟩; refine Hid.out ?_) | fail)
    refine Lib.hid ?_
    have HP6:=Lib.hid (HI.out.pl.on hb6)
    have HN : Hid (LoopI w w6 w.heap.size n1 (n1 + 1 + 1 + 1) (n1 + 1 + 1) (n1 + 1) gl bad cur9 ls (s.size + 1) fin (k + 1) (A + l.length + 1) E cur):=HI.out.pass HLK.out HSK.out HP6.out
    clear hb6 hc2
    go_wp2_with fail
    go_roundw
    case rel=>exact ⟨k + 1,A + l.length + 1,E,cur,by omega,by rw [HLZ.out]; go_num,by go_num,HN⟩
    case measure=>simp [intOf]; omega
  ·have j1 : ¬ (k : Int) < (ls.length : Int):=by omega
   have HFE : Hid (fin=.inr (E,cur)):=by
    have h1:=HI.out.eq
    rw [List.drop_eq_nil_of_le (by omega)] at h1
    exact h1.symm
   have HP0:=Lib.hid HI.out.pl
   clear HMC
   have HEND : Hid (Calls Tryz.prog 37 #[.pointer (some ⟨n1 + 1 + 1,0,none⟩)] wr (EndEnd w.heap.size wr (n1 + 1 + 1) (n1 + 1) E cur.isSome (posC cur) (keyC cur) (valC cur))):=pEnd w.heap.size wr (n1 + 1 + 1) (n1 + 1) E cur.isSome (posC cur) (keyC cur) (valC cur) HP0.out.rst (by omega) (by omega) (by omega)
   have HSPLIT : Hid ((∃ f1 f2 : Nat,f1 ≠ 0∧endP E cur=.inl (f1,f2)∧Calls Tryz.prog 37 #[.pointer (some ⟨n1 + 1 + 1,0,none⟩)] wr fun e w'=>e=.returned (.agg #[.int .i64 (f1 : Int),.int .i64 (f2 : Int)])∧PL w w' w.heap.size n1 (n1 + 1 + 1 + 1) (n1 + 1 + 1) (n1 + 1) gl bad cur9 E cur) ∨
     ∃ E2 : List KV,E2.length≤E.length + 1∧endP E cur=.inr E2∧Calls Tryz.prog 37 #[.pointer (some ⟨n1 + 1 + 1,0,none⟩)] wr fun e w'=>e=.returned (.agg #[.int .i64 0,.int .i64 0])∧PL w w' w.heap.size n1 (n1 + 1 + 1 + 1) (n1 + 1 + 1) (n1 + 1) gl bad cur9 E2 cur):=by
    have h1:=HEND.out
    cases cur with
    | none=>exact Or.inr ⟨E,by omega,rfl,h1.mono fun e w' ⟨q1,q2⟩=>by
      rcases q2 with ⟨_,q3,q4⟩ | ⟨q3,_⟩ | ⟨q3,_⟩
      ·exact ⟨q3,HP0.out.step q1 q4⟩
      ·cases q3
      ·cases q3⟩
    | some ent =>
     by_cases hw : wrongP E (kvOf ent).1 (kvOf ent).2=0
     ·exact Or.inr ⟨E++[kvOf ent],by simp,endP_yes hw,h1.mono fun e w' ⟨q1,q2⟩=>by
       rcases q2 with ⟨q3,_⟩ | ⟨_,q3,_⟩ | ⟨_,_,q3,q4⟩
       ·cases q3
       ·exact absurd hw q3
       ·exact ⟨q3,HP0.out.step q1 q4⟩⟩
     ·exact Or.inl ⟨_,_,hw,endP_no hw,h1.mono fun e w' ⟨q1,q2⟩=>by
       rcases q2 with ⟨q3,_⟩ | ⟨_,_,q3,q4⟩ | ⟨_,q3,_⟩
       ·cases q3
       ·exact ⟨q3,HP0.out.step q1 q4⟩
       ·exact absurd q3 hw⟩
   clear HEND
   rcases HSPLIT.out with ⟨f1,f2,hf,he,hc29⟩ | ⟨E2,hE2,he,hc29⟩
   ·have HC29:=Lib.hid hc29
    have HEQ:=Lib.hid he
    clear he hc29 HSPLIT
    have HRF:=Lib.hid (HR2.out E cur _ HFE.out HEQ.out)
    have k1 : ((f1 : Int) != 0)=true:=by rw [bne_iff_ne]; omega
    go_wp2_with (first | (go_at_call 37; refine HC29.out.mono ?_; rintro e w8 ⟨rfl,p8⟩; refine Hid.out ?_) | fail)
    refine Lib.hid ?_
    have HP8:=Lib.hid p8
    obtain ⟨fa,fb,fc,fd⟩:=two_cells p8.h2
    have T0 : Hid (box27 ((w8.setCell ⟨n1 + 1 + 1 + 1,0,none⟩ (.int .i64 (f1 : Int))).setCell ⟨n1 + 1 + 1 + 1,1,none⟩ (.int .i64 (f2 : Int))) w.heap.size (0,0)):=(box_other HP8.out.ne.2.1).trans HP8.out.h0
    have T1 : Hid (((w8.setCell ⟨n1 + 1 + 1 + 1,0,none⟩ (.int .i64 (f1 : Int))).setCell ⟨n1 + 1 + 1 + 1,1,none⟩ (.int .i64 (f2 : Int))).heap[n1]?=some (.cells #[.int .i64 (bad.1 : Int),.int .i64 (bad.2 : Int)] 49 (0,0))):=(box_other HP8.out.ne.2.2.1).trans HP8.out.h1
    have T2 : Hid (((w8.setCell ⟨n1 + 1 + 1 + 1,0,none⟩ (.int .i64 (f1 : Int))).setCell ⟨n1 + 1 + 1 + 1,1,none⟩ (.int .i64 (f2 : Int))).heap[n1 + 1 + 1 + 1]?=some (.cells #[.int .i64 (f1 : Int),.int .i64 (f2 : Int)] 49 (0,0))):=box_same HP8.out.h2 ((f1,f2) : Nat × Nat)
    have TB : Hid (Below w.heap.size w ((w8.setCell ⟨n1 + 1 + 1 + 1,0,none⟩ (.int .i64 (f1 : Int))).setCell ⟨n1 + 1 + 1 + 1,1,none⟩ (.int .i64 (f2 : Int)))):=(HP8.out.below.setCell HP8.out.ne.2.2.2.2.2 _).setCell HP8.out.ne.2.2.2.2.2 _
    clear p8
    go_wp2_with fail
    clear fa fb fc fd
    obtain ⟨ya,yb,yc,yd⟩:=two_cells T1.out
    obtain ⟨za,zb,zc,zd⟩:=two_cells T2.out
    have HPF : Hid (∀ wx,Calls Tryz.prog 41 #[.agg #[.int .i64 (bad.1 : Int),.int .i64 (bad.2 : Int)],.agg #[.int .i64 (f1 : Int),.int .i64 (f2 : Int)]] wx fun e w'=>e=.returned (.agg #[.int .i64 ((firstF bad ((f1,f2) : Nat × Nat)).1 : Int),.int .i64 ((firstF bad ((f1,f2) : Nat × Nat)).2 : Int)])∧Below wx.heap.size wx w'):=fun wx=>pFirst bad ((f1,f2) : Nat × Nat) wx
    go_step3
    refine ⟨_,by rw [HF.out]; rfl,?_⟩
    clear HF
    go_wp2_with (first | (go_at_call 41; refine (HPF.out _).mono ?_; rintro e w9 ⟨rfl,hb9⟩; refine Hid.out ?_) | fail)
    refine Lib.hid ?_
    have T9:=Lib.hid (T0.out.on hb9)
    have TB9:=Lib.hid (TB.out.trans (hb9.mono TB.out.size))
    obtain ⟨xa,xb,xc,xd⟩:=two_cells T9.out
    clear hb9 ya yb yc yd za zb zc zd
    go_wp2_with fail
    obtain ⟨va,vb,_,_⟩:=two_cells (set_two T9.out (.int .i64 ((firstF bad ((f1,f2) : Nat × Nat)).1 : Int)) (.int .i64 ((firstF bad ((f1,f2) : Nat × Nat)).2 : Int)))
    exact bodyPost_ret (v:=.tuple #[.pointer none,.agg #[.int .i64 ((firstF bad ((f1,f2) : Nat × Nat)).1 : Int),.int .i64 ((firstF bad ((f1,f2) : Nat × Nat)).2 : Int)]]) (by simp [results,Tryz.results14,go_sem,va,vb]) rfl ⟨(TB9.out.setCell (Nat.le_refl _) _).setCell (Nat.le_refl _) _,by rw [HRF.out]; rfl⟩
   ·have HC29:=Lib.hid hc29
    have HEQ:=Lib.hid he
    have HRR:=Lib.hid (HR3.out E cur E2 HFE.out he)
    clear he hc29 HSPLIT
    by_cases hb0 : bad.1=0
    ·have HRF : Hid (res=.inr E2):=by show _=_; rw [HRR.out,if_pos hb0]
     have k1 : ((bad.1 : Int) != 0)=false:=by rw [hb0]; rfl
     clear hb0
     go_wp2_with (first | (go_at_call 37; refine HC29.out.mono ?_; rintro e w8 ⟨rfl,p8⟩; refine Hid.out ?_) | fail)
     refine Lib.hid ?_
     have HPF8:=Lib.hid p8.fault
     obtain ⟨fa,fb,fc,fd⟩:=two_cells p8.h2
     obtain ⟨ya,yb,yc,yd⟩:=two_cells p8.h1
     have HTB:=Lib.hid (fun W (hp : PL w W w.heap.size n1 (n1 + 1 + 1 + 1) (n1 + 1 + 1) (n1 + 1) gl bad cur9 E2 cur)=>pTable w.heap.size W (n1 + 1 + 1) (n1 + 1) E2 cur.isSome (posC cur : Int) (keyC cur) (valC cur) hp.rst (by omega))
     clear p8
     go_wp2_with (first | (go_at_call 40; refine (HTB.out _ HPF8.out).mono ?_; rintro e w10 ⟨tb,T,sv,rfl,t1,t2,t3,t4,t5,t6,t7⟩; refine Hid.out ?_) | fail)
     refine Lib.hid ?_
     have T9:=Lib.hid (HPF8.out.h0.keep t7.keep)
     obtain ⟨xa,xb,xc,xd⟩:=two_cells T9.out
     have HNE : Hid (tb ≠ w.heap.size∧sv.ownBlock ≠ some w.heap.size):=⟨by have:=heap_lt HPF8.out.h0; omega,t5 _ _ _ _ HPF8.out.h0 (by decide)⟩
     have HT3:=Lib.hid t3
     have HT4:=Lib.hid t4
     have HT7:=Lib.hid (HPF8.out.below.trans t7.below)
     have HT6 : Hid (w.heap.size≤tb):=Nat.le_trans HPF8.out.below.size t6
     have HT5 : Hid (∀ (q : Nat) (cs : Array Value) (t : TypeId) (fz : Nat × Nat),w.heap[q]?=some (.cells cs t fz)→t ≠ 132→sv.ownBlock ≠ some q):=fun q cs t fz hq ht=>t5 q cs t fz ((HPF8.out.below.block q (heap_lt hq)).trans hq) ht
     have HT1:=Lib.hid t1
     have HT2:=Lib.hid t2
     clear t1 t2 t3 t4 t5 t6 t7 fa fb fc fd ya yb yc yd
     go_wp2_with fail
     rw [Exit.fwd_ret]
     obtain ⟨va,vb,_,_⟩:=two_cells (set_two T9.out (.int .i64 0) (.int .i64 0))
     exact bodyPost_ret (v:=.tuple #[.pointer (some ⟨tb,0,none⟩),.agg #[.int .i64 0,.int .i64 0]]) (by simp [results,Tryz.results14,go_sem,va,vb]) rfl ⟨(HT7.out.setCell (Nat.le_refl _) _).setCell (Nat.le_refl _) _,by
      rw [HRF.out]
      exact ⟨tb,T,rfl,HT1.out,HT2.out,sv,(box_other HNE.out.1).trans HT3.out,HT4.out.kept (fun b hb _=>box_other (fun e=>HNE.out.2 (by rw [hb,e]))),HT6.out,HT5.out⟩⟩
    ·have HRF : Hid (res=.inl (firstF bad ((0,0) : Nat × Nat))):=by show _=_; rw [HRR.out,if_neg hb0]; unfold firstF; rw [if_pos (Or.inl rfl)]
     have k1 : ((bad.1 : Int) != 0)=true:=by rw [bne_iff_ne]; omega
     clear hb0
     go_wp2_with (first | (go_at_call 37; refine HC29.out.mono ?_; rintro e w8 ⟨rfl,p8⟩; refine Hid.out ?_) | fail)
     refine Lib.hid ?_
     have HP8:=Lib.hid p8
     obtain ⟨fa,fb,fc,fd⟩:=two_cells p8.h2
     obtain ⟨ya,yb,yc,yd⟩:=two_cells p8.h1
     have T0 : Hid (box27 ((w8.setCell ⟨n1 + 1 + 1 + 1,0,none⟩ (.int .i64 0)).setCell ⟨n1 + 1 + 1 + 1,1,none⟩ (.int .i64 0)) w.heap.size (0,0)):=(box_other HP8.out.ne.2.1).trans HP8.out.h0
     have T1 : Hid (((w8.setCell ⟨n1 + 1 + 1 + 1,0,none⟩ (.int .i64 0)).setCell ⟨n1 + 1 + 1 + 1,1,none⟩ (.int .i64 0)).heap[n1]?=some (.cells #[.int .i64 (bad.1 : Int),.int .i64 (bad.2 : Int)] 49 (0,0))):=(box_other HP8.out.ne.2.2.1).trans HP8.out.h1
     have T2 : Hid (((w8.setCell ⟨n1 + 1 + 1 + 1,0,none⟩ (.int .i64 0)).setCell ⟨n1 + 1 + 1 + 1,1,none⟩ (.int .i64 0)).heap[n1 + 1 + 1 + 1]?=some (.cells #[.int .i64 0,.int .i64 0] 49 (0,0))):=box_same HP8.out.h2 ((0,0) : Nat × Nat)
     have TB : Hid (Below w.heap.size w ((w8.setCell ⟨n1 + 1 + 1 + 1,0,none⟩ (.int .i64 0)).setCell ⟨n1 + 1 + 1 + 1,1,none⟩ (.int .i64 0))):=(HP8.out.below.setCell HP8.out.ne.2.2.2.2.2 _).setCell HP8.out.ne.2.2.2.2.2 _
     clear p8
     go_wp2_with fail
     clear fa fb fc fd ya yb yc yd
     obtain ⟨ya,yb,yc,yd⟩:=two_cells T1.out
     obtain ⟨za,zb,zc,zd⟩:=two_cells T2.out
     have HPF : Hid (∀ wx,Calls Tryz.prog 41 #[.agg #[.int .i64 (bad.1 : Int),.int .i64 (bad.2 : Int)],.agg #[.int .i64 0,.int .i64 0]] wx fun e w'=>e=.returned (.agg #[.int .i64 ((firstF bad ((0,0) : Nat × Nat)).1 : Int),.int .i64 ((firstF bad ((0,0) : Nat × Nat)).2 : Int)])∧Below wx.heap.size wx w'):=fun wx=>pFirst bad ((0,0) : Nat × Nat) wx
     go_step3
     refine ⟨_,by rw [HF.out]; rfl,?_⟩
     clear HF
     go_wp2_with (first | (go_at_call 41; refine (HPF.out _).mono ?_; rintro e w9 ⟨rfl,hb9⟩; refine Hid.out ?_) | fail)
     refine Lib.hid ?_
     have T9:=Lib.hid (T0.out.on hb9)
     have TB9:=Lib.hid (TB.out.trans (hb9.mono TB.out.size))
     obtain ⟨xa,xb,xc,xd⟩:=two_cells T9.out
     clear hb9 ya yb yc yd za zb zc zd
     go_wp2_with fail
     obtain ⟨va,vb,_,_⟩:=two_cells (set_two T9.out (.int .i64 ((firstF bad ((0,0) : Nat × Nat)).1 : Int)) (.int .i64 ((firstF bad ((0,0) : Nat × Nat)).2 : Int)))
     exact bodyPost_ret (v:=.tuple #[.pointer none,.agg #[.int .i64 ((firstF bad ((0,0) : Nat × Nat)).1 : Int),.int .i64 ((firstF bad ((0,0) : Nat × Nat)).2 : Int)]]) (by simp [results,Tryz.results14,go_sem,va,vb]) rfl ⟨(TB9.out.setCell (Nat.le_refl _) _).setCell (Nat.le_refl _) _,by rw [HRF.out]; rfl⟩
end Go.Proofs.YtghnopkgcgfcpaaGreatDoor.Table
namespace Go.Proofs.YtghnopkgcgfcpaaGreatDoor.Table
open Go.RowKit Base
def procE : List KV→List Ent→(Nat × Nat) ⊕ List KV
 | E,[]=>.inr E
 | E,e :: r=>if wrongP E (kvOf e).1 (kvOf e).2=0 then procE (E++[kvOf e]) r else .inl (wrongP E (kvOf e).1 (kvOf e).2,e.pos)
def runEnd (r : RunR) : (Nat × Nat) ⊕ List KV:=match r with
 | .inl f=>.inl f
 | .inr (E,cur)=>endP E cur
theorem addLast_snoc (pre : List Ent) (e : Ent) (p : List UInt8) : addLast (pre++[e]) p=pre++[{ e with more:=e.more++[p] }]:=by
 unfold addLast
 have h : (pre++[e]).length - 1=pre.length:=by simp
 rw [h]
 have h2 : (pre++[e])[pre.length]?=some e:=by simp
 rw [h2]
 show (pre++[e]).set pre.length _=_
 rw [List.set_append_right _ _ (Nat.le_refl _)]
 simp
theorem endP_proc (E : List KV) (e : Ent) : endP E (some e)=procE E [e]:=by
 show (if _ then _ else _)=_
 unfold procE
 split <;> rfl
theorem run_some : ∀ (ls : List (List UInt8)) (a : Nat) (pre : List Ent) (e : Ent) (bd : List Nat) (E : List KV),
  ∃ tl,(linesFrom a ls (pre++[e],bd))=(pre++tl,bd)∧runEnd (runP a ls E (some e))=procE E tl
 | [],a,pre,e,bd,E=>⟨[e],rfl,endP_proc E e⟩
 | l :: r,a,pre,e,bd,E=>by
  rw [linesFrom,runP_cons]
  unfold stepL
  by_cases hs : skipB l=true
  ·rw [if_pos hs,if_pos hs]
   exact run_some r (a + l.length + 1) pre e bd E
  ·rw [if_neg hs,if_neg hs]
   by_cases hb : headIs isBl l=true
   ·rw [if_pos hb,if_pos hb,if_neg (by simp),addLast_snoc]
    exact run_some r (a + l.length + 1) pre _ bd E
   ·rw [if_neg hb,if_neg hb]
    obtain ⟨tl,h1,h2⟩:=run_some r (a + l.length + 1) (pre++[e]) ⟨a,l,[]⟩ bd (E++[kvOf e])
    refine ⟨e :: tl,by rw [h1,List.append_assoc]; rfl,?_⟩
    by_cases hw : wrongP E (kvOf e).1 (kvOf e).2=0
    ·rw [endP_yes hw]
     show runEnd (runP (a + l.length + 1) r (E++[kvOf e]) (some ⟨a,l,[]⟩))=_
     rw [h2]
     conv=>rhs; rw [procE]
     rw [if_pos hw]
    ·rw [endP_no hw]
     show (Sum.inl _ : (Nat × Nat) ⊕ List KV)=_
     rw [procE,if_neg hw]
theorem from_pos : ∀ (ls : List (List UInt8)) (a : Nat) (es : List Ent) (bd : List Nat),∃ tl or,(linesFrom a ls (es,bd)).2=bd++or∧(linesFrom a ls (es,bd)).1.map Ent.pos=es.map Ent.pos++tl∧(∀ x ∈ tl,a≤x)∧(∀ x ∈ or,a≤x)∧tl.Pairwise (· < ·)∧or.Pairwise (· < ·)∧(∀ x ∈ tl,x < a + sumL ls)∧∀ x ∈ or,x < a + sumL ls
 | [],a,es,bd=>⟨[],[],by simp [linesFrom]⟩
 | l :: r,a,es,bd=>by
  have hsum : sumL (l :: r)=l.length + 1 + sumL r:=by simp [sumL]
  have step : ∀ (es2 : List Ent) (bd2 : List Nat) (t1 o1 : List Nat),stepL (es,bd) a l=(es2,bd2)→bd2=bd++o1→es2.map Ent.pos=es.map Ent.pos++t1→(t1=[]∨t1=[a])→(o1=[]∨o1=[a]) →
    ∃ tl or,(linesFrom a (l :: r) (es,bd)).2=bd++or∧(linesFrom a (l :: r) (es,bd)).1.map Ent.pos=es.map Ent.pos++tl∧(∀ x ∈ tl,a≤x)∧(∀ x ∈ or,a≤x)∧tl.Pairwise (· < ·)∧or.Pairwise (· < ·)∧(∀ x ∈ tl,x < a + sumL (l :: r))∧∀ x ∈ or,x < a + sumL (l :: r):=by
   intro es2 bd2 t1 o1 h1 h2 h3 h4 h5
   obtain ⟨tl,or,k1,k2,k3,k4,k5,k6,k7,k8⟩:=from_pos r (a + l.length + 1) es2 bd2
   rw [linesFrom,h1]
   refine ⟨t1++tl,o1++or,by rw [k1,h2,List.append_assoc],by rw [k2,h3,List.append_assoc],?_,?_,?_,?_,?_,?_⟩
   ·intro x hx
    rcases List.mem_append.1 hx with hx | hx
    ·rcases h4 with rfl | rfl
     ·simp at hx
     ·simp at hx; omega
    ·have:=k3 x hx; omega
   ·intro x hx
    rcases List.mem_append.1 hx with hx | hx
    ·rcases h5 with rfl | rfl
     ·simp at hx
     ·simp at hx; omega
    ·have:=k4 x hx; omega
   ·rcases h4 with rfl | rfl
    ·exact k5
    ·exact List.pairwise_cons.2 ⟨fun x hx=>by have:=k3 x hx; omega,k5⟩
   ·rcases h5 with rfl | rfl
    ·exact k6
    ·exact List.pairwise_cons.2 ⟨fun x hx=>by have:=k4 x hx; omega,k6⟩
   ·intro x hx
    rcases List.mem_append.1 hx with hx | hx
    ·rcases h4 with rfl | rfl
     ·simp at hx
     ·simp at hx; omega
    ·have:=k7 x hx; omega
   ·intro x hx
    rcases List.mem_append.1 hx with hx | hx
    ·rcases h5 with rfl | rfl
     ·simp at hx
     ·simp at hx; omega
    ·have:=k8 x hx; omega
  by_cases hs : skipB l=true
  ·exact step es bd [] [] (by unfold stepL; rw [if_pos hs]) (by simp) (by simp) (Or.inl rfl) (Or.inl rfl)
  ·by_cases hb : headIs isBl l=true
   ·by_cases h0 : es=[]
    ·exact step es (bd++[a]) [] [a] (by unfold stepL; rw [if_neg hs,if_pos hb,if_pos h0]) rfl (by simp) (Or.inl rfl) (Or.inr rfl)
    ·refine step (addLast es (trim l)) bd [] [] (by unfold stepL; rw [if_neg hs,if_pos hb,if_neg h0]) (by simp) ?_ (Or.inl rfl) (Or.inl rfl)
     obtain ⟨q,c,rfl⟩ : ∃ q c,es=q++[c]:=⟨es.dropLast,es.getLast h0,(List.dropLast_concat_getLast h0).symm⟩
     rw [addLast_snoc]; simp
   ·exact step (es++[⟨a,l,[]⟩]) bd [a] [] (by unfold stepL; rw [if_neg hs,if_neg hb]) (by simp) (by simp) (Or.inr rfl) (Or.inl rfl)
theorem run_none : ∀ (ls : List (List UInt8)) (a : Nat) (bd : List Nat),
  (∃ tl,linesFrom a ls ([],bd)=(tl,bd)∧runEnd (runP a ls [] none)=procE [] tl) ∨
  (∃ p or,a≤p∧(linesFrom a ls ([],bd)).2=bd++p :: or∧runP a ls [] none=.inl (61,p)∧(∀ e ∈ (linesFrom a ls ([],bd)).1,p < e.pos)∧(∀ x ∈ or,p < x)∧p < a + sumL ls)
 | [],a,bd=>Or.inl ⟨[],rfl,rfl⟩
 | l :: r,a,bd=>by
  have hsum : sumL (l :: r)=l.length + 1 + sumL r:=by simp [sumL]
  rw [linesFrom,runP_cons]
  unfold stepL
  by_cases hs : skipB l=true
  ·rw [if_pos hs,if_pos hs]
   rcases run_none r (a + l.length + 1) bd with h | ⟨p,or,h0,h1,h2,h3,h4,h5⟩
   ·exact Or.inl h
   ·exact Or.inr ⟨p,or,by omega,h1,h2,h3,h4,by omega⟩
  ·rw [if_neg hs,if_neg hs]
   by_cases hb : headIs isBl l=true
   ·rw [if_pos hb,if_pos hb,if_pos rfl]
    obtain ⟨tl,or,k1,k2,k3,k4,k5,k6,k7,k8⟩:=from_pos r (a + l.length + 1) [] (bd++[a])
    refine Or.inr ⟨a,or,Nat.le_refl _,by rw [k1,List.append_assoc]; rfl,rfl,fun e he=>?_,fun x hx=>by have:=k4 x hx; omega,by omega⟩
    have : e.pos ∈ (linesFrom (a + l.length + 1) r ([],bd++[a])).1.map Ent.pos:=List.mem_map.2 ⟨e,he,rfl⟩
    rw [k2] at this
    have:=k3 e.pos (by simpa using this)
    omega
   ·rw [if_neg hb,if_neg hb]
    obtain ⟨tl,h1,h2⟩:=run_some r (a + l.length + 1) [] ⟨a,l,[]⟩ bd []
    exact Or.inl ⟨tl,h1,h2⟩
end Go.Proofs.YtghnopkgcgfcpaaGreatDoor.Table
namespace Go.Proofs.YtghnopkgcgfcpaaGreatDoor.Table
open Go.RowKit Base
theorem hasOf_iff {T : List KV} (hr : Rising T) {key : List UInt8} : hasOf T key=true ↔ key ∈ T.map Prod.fst:=by
 constructor
 ·intro h
  unfold hasOf at h
  cases hp : T[posOf T key]? with
  | none=>rw [hp] at h; cases h
  | some p=>rw [hp] at h; exact List.mem_map.2 ⟨p,List.mem_of_getElem? hp,by simpa using h⟩
 ·intro h
  obtain ⟨p,hp,rfl⟩:=List.mem_map.1 h
  cases hh : hasOf T p.1
  ·have hm : p ∈ T.take (posOf T p.1)++T.drop (posOf T p.1):=by rw [List.take_append_drop]; exact hp
   rcases List.mem_append.1 hm with h | h
   ·exact absurd (take_under p h) (List.lt_irrefl _)
   ·exact absurd (drop_over hr hh p h) (List.lt_irrefl _)
  ·rfl
theorem wrong_same {T E : List KV} (hg : Good T) (hp : T.Perm E) (x : KV) : wrongP E x.1 x.2=wrongE T x:=by
 have h1 : (x.1 ∈ E.map Prod.fst) ↔ hasOf T x.1=true:=by rw [hasOf_iff hg.rise]; exact ((hp.map Prod.fst).mem_iff).symm
 have h2 : E.length=T.length:=hp.length_eq.symm
 have h3:=hg.few
 unfold wrongP wrongE
 by_cases a : 320 < x.1.length∨x.2=[]∨1000 < x.2.length
 ·rw [if_pos a,if_pos a]
 ·rw [if_neg a,if_neg a]
  by_cases b : hasOf T x.1=true
  ·rw [if_pos (h1.2 b),if_pos b]
  ·rw [if_neg (fun h=>b (h1.1 h)),if_neg b]
   by_cases c : 2000≤T.length
   ·rw [if_pos (by omega),if_pos c]
   ·rw [if_neg (by omega),if_neg c]
theorem ins_perm {T E : List KV} (hp : T.Perm E) (x : KV) : (insKV T x).Perm (E++[x]):=by
 unfold insKV
 refine List.perm_middle.trans ?_
 rw [List.take_append_drop]
 exact (hp.cons x).trans (List.perm_append_singleton x E).symm
theorem proc_pos : ∀ (es : List Ent) (E : List KV) (f : Nat × Nat),procE E es=.inl f→f.1 ≠ 0∧∃ e ∈ es,f.2=e.pos
 | [],E,f,h=>by cases h
 | e :: r,E,f,h=>by
  rw [procE] at h
  split at h
  ·obtain ⟨h1,q,hq,h2⟩:=proc_pos r _ f h
   exact ⟨h1,q,List.mem_cons_of_mem _ hq,h2⟩
  ·rename_i hw
   cases h
   exact ⟨hw,e,List.mem_cons_self,rfl⟩
theorem run_stop {es : List Ent} {a c : Nat} {T : List KV} (h : ∀ e ∈ es,a≤e.pos) : runE es a c T=(T,c,a):=by
 cases es with
 | nil=>rfl
 | cons e r =>
  have:=h e List.mem_cons_self
  rw [runE,if_neg (by omega)]
theorem run_proc : ∀ (es : List Ent) (a c : Nat) (E T : List KV),Good T→T.Perm E→(es.map Ent.pos).Pairwise (· < ·) →
  (∀ f,procE E es=.inl f→(f.2 < a→(runE es a c T).2=f)∧(a≤f.2→(runE es a c T).2=(c,a))) ∧
  (∀ E',procE E es=.inr E'→(runE es a c T).2=(c,a)∧((∀ e ∈ es,e.pos < a)→Good (runE es a c T).1∧(runE es a c T).1.Perm E'))
 | [],a,c,E,T,hg,hp,_=>⟨fun f h=>(by cases h),fun E' h=>(by cases h; exact ⟨rfl,fun _=>⟨hg,hp⟩⟩)⟩
 | e :: r,a,c,E,T,hg,hp,hs=>by
  rw [List.map_cons,List.pairwise_cons] at hs
  have hlater : ∀ q ∈ r,e.pos < q.pos:=fun q hq=>hs.1 _ (List.mem_map.2 ⟨q,hq,rfl⟩)
  have hws:=wrong_same hg hp (kvOf e)
  have hpos:=proc_pos (e :: r) E
  rw [procE] at hpos ⊢
  rw [runE]
  by_cases hlt : e.pos < a
  ·rw [if_pos hlt]
   by_cases hw : wrongP E (kvOf e).1 (kvOf e).2=0
   ·rw [if_pos hw]
    rw [if_pos (hws ▸ hw)]
    obtain ⟨h1,h2⟩:=run_proc r a c (E++[kvOf e]) (insKV T (kvOf e)) (hg.ins (hws ▸ hw)) (ins_perm hp _) hs.2
    exact ⟨h1,fun E' h=>⟨(h2 E' h).1,fun hh=>(h2 E' h).2 fun q hq=>hh q (List.mem_cons_of_mem _ hq)⟩⟩
   ·rw [if_neg hw]
    rw [if_neg (hws ▸ hw),run_stop (fun q hq=>Nat.le_of_lt (hlater q hq)),← hws]
    refine ⟨fun f h=>?_,fun E' h=>by cases h⟩
    cases h
    exact ⟨fun _=>rfl,fun h=>absurd hlt (Nat.not_lt.2 h)⟩
  ·rw [if_neg hlt]
   refine ⟨fun f h=>⟨fun h2=>?_,fun _=>rfl⟩,fun E' h=>⟨rfl,fun h2=>absurd (h2 e List.mem_cons_self) hlt⟩⟩
   obtain ⟨_,q,hq,h3⟩:=hpos f h
   rcases List.mem_cons.1 hq with rfl | hq
   ·omega
   ·have:=hlater q hq; omega
theorem minBad_app : ∀ (l m : List Nat) (r : Nat × Nat),minBad (l++m) r=minBad m (minBad l r)
 | [],m,r=>rfl
 | x :: l,m,r=>by rw [List.cons_append,minBad,minBad,minBad_app l m]
theorem minBad_ge : ∀ (l : List Nat) (r : Nat × Nat),(∀ x ∈ l,r.1≤x)→minBad l r=r
 | [],r,_=>rfl
 | x :: l,r,h=>by
  have:=h x List.mem_cons_self
  rw [minBad,if_neg (by omega)]
  exact minBad_ge l r fun y hy=>h y (List.mem_cons_of_mem _ hy)
theorem minBad_head {p : Nat} {l : List Nat} (r : Nat × Nat) (h : ∀ x ∈ l,p≤x) : minBad (p :: l) r=if p < r.1 then (p,61) else r:=by
 rw [minBad]
 split
 ·exact minBad_ge l _ h
 ·exact minBad_ge l _ fun x hx=>by have:=h x hx; omega
theorem bad_min (l : List UInt8) : (badF l=(0,0)∧minBad (badK l l.length) (l.length + 1,0)=(l.length + 1,0))∨∃ i,i < l.length + 1∧badF l=(61,i)∧minBad (badK l l.length) (l.length + 1,0)=(i,61):=by
 have hpw : (badK l l.length).Pairwise (· < ·):=List.Pairwise.filter _ List.pairwise_lt_range
 have hmem : ∀ x ∈ badK l l.length,x < l.length:=fun x hx=>List.mem_range.1 (List.mem_filter.1 hx).1
 unfold badF
 cases h : badK l l.length with
 | nil=>exact Or.inl ⟨rfl,rfl⟩
 | cons i t =>
  rw [h] at hpw hmem
  have hi:=hmem i List.mem_cons_self
  refine Or.inr ⟨i,by omega,rfl,?_⟩
  rw [minBad_head _ (fun x hx=>Nat.le_of_lt ((List.pairwise_cons.1 hpw).1 x hx)),if_pos (show i < l.length + 1 by omega)]
theorem parseP_end (l : List UInt8) : parseP l=match runEnd (runP 0 (splitB 10 l) [] none) with
  | .inl f=>.inl (firstF (badF l) f)
  | .inr E2=>if (badF l).1=0 then .inr E2 else .inl (badF l):=by
 unfold parseP runEnd
 cases runP 0 (splitB 10 l) [] none with
 | inl f=>rfl
 | inr r=>obtain ⟨E,cur⟩:=r; rfl
theorem parse_same (l : List UInt8) (hl : l.length≤262144) :
  (∀ f,parseP l=.inl f→f.1 ≠ 0∧(parseOf l).2=f)∧(∀ E,parseP l=.inr E→(parseOf l).2.1=0∧Good (parseOf l).1∧(parseOf l).1.Perm E):=by
 have hsum : sumL (splitB 10 l)=l.length + 1:=splitB_sum 10 l
 have hof : parseOf l=runE (linesOf l).1 (minBad (linesOf l).2 (l.length + 1,0)).1 (minBad (linesOf l).2 (l.length + 1,0)).2 []:=by
  unfold parseOf; rw [if_neg (by omega)]
 rw [hof,parseP_end]
 unfold linesOf
 rcases run_none (splitB 10 l) 0 (badK l l.length) with ⟨tl,h1,h2⟩ | ⟨p,or,_,h1,h2,h3,h4,h5⟩
 ·rw [h1,h2]
  obtain ⟨t2,o2,k1,k2,k3,k4,k5,k6,k7,k8⟩:=from_pos (splitB 10 l) 0 [] (badK l l.length)
  rw [h1] at k2
  have hpw : (tl.map Ent.pos).Pairwise (· < ·):=by
   have : tl.map Ent.pos=t2:=by simpa using k2
   rw [this]; exact k5
  have hlt : ∀ e ∈ tl,e.pos < l.length + 1:=fun e he=>by
   have : e.pos ∈ t2:=by
    have : tl.map Ent.pos=t2:=by simpa using k2
    rw [← this]; exact List.mem_map.2 ⟨e,he,rfl⟩
   have:=k7 _ this; omega
  dsimp only
  rcases bad_min l with ⟨hb,hm⟩ | ⟨i,hi,hb,hm⟩
  ·rw [hb,hm]
   obtain ⟨r1,r2⟩:=run_proc tl (l.length + 1) 0 [] [] Good.nil (List.Perm.refl _) hpw
   cases hp : procE [] tl with
   | inl f =>
    obtain ⟨hf,e,he,hfe⟩:=proc_pos tl [] f hp
    refine ⟨fun g hg=>?_,fun E hE=>by cases hE⟩
    cases hg
    have : firstF (0,0) f=f:=by unfold firstF; rw [if_neg (by simp [hf])]
    rw [this]
    exact ⟨hf,(r1 f hp).1 (hfe ▸ hlt e he)⟩
   | inr E2 =>
    refine ⟨fun g hg=>(by cases hg),fun E hE=>?_⟩
    cases hE
    have q:=r2 _ hp
    exact ⟨by rw [q.1],(q.2 hlt).1,(q.2 hlt).2⟩
  ·rw [hb,hm]
   obtain ⟨r1,r2⟩:=run_proc tl i 61 [] [] Good.nil (List.Perm.refl _) hpw
   cases hp : procE [] tl with
   | inl f =>
    obtain ⟨hf,e,he,hfe⟩:=proc_pos tl [] f hp
    refine ⟨fun g hg=>?_,fun E hE=>by cases hE⟩
    cases hg
    unfold firstF
    by_cases hif : i≤f.2
    ·rw [if_pos (Or.inr ⟨by simp,hif⟩)]
     exact ⟨by simp,(r1 f hp).2 hif⟩
    ·rw [if_neg (by simp [hf,hif])]
     exact ⟨hf,(r1 f hp).1 (by omega)⟩
   | inr E2 =>
    refine ⟨fun g hg=>?_,fun E hE=>by cases hE⟩
    cases hg
    exact ⟨by simp,(r2 _ hp).1⟩
 ·rw [h1,h2]
  rw [minBad_app]
  dsimp only [runEnd]
  refine ⟨fun g hg=>?_,fun E hE=>by cases hE⟩
  cases hg
  rcases bad_min l with ⟨hb,hm⟩ | ⟨i,hi,hb,hm⟩
  ·rw [hb,hm,minBad_head _ (fun x hx=>Nat.le_of_lt (h4 x hx)),if_pos (show p < (l.length + 1,0).1 by show p < l.length + 1; omega)]
   rw [run_stop (fun e he=>Nat.le_of_lt (h3 e he))]
   exact ⟨by simp [firstF],rfl⟩
  ·rw [hb,hm,minBad_head _ (fun x hx=>Nat.le_of_lt (h4 x hx))]
   unfold firstF
   by_cases hip : i≤p
   ·rw [if_neg (show ¬ p < (i,61).1 by show ¬ p < i; omega),run_stop (fun e he=>by have:=h3 e he; show i≤e.pos; omega),if_pos (Or.inr ⟨by simp,hip⟩)]
    exact ⟨by simp,rfl⟩
   ·rw [if_pos (show p < (i,61).1 by show p < i; omega),run_stop (fun e he=>Nat.le_of_lt (h3 e he)),if_neg (by simp [hip])]
    exact ⟨by simp,rfl⟩
theorem sorted_one : ∀ (T U : List KV),T.Perm U→SortedK T→Rising U→T=U
 | [],U,hp,_,_=>hp.nil_eq
 | x :: T,[],hp,_,_=>absurd hp.length_eq (by simp)
 | x :: T,y :: U,hp,hs,hr=>by
  unfold SortedK at hs
  unfold Rising at hr
  rw [List.pairwise_cons] at hs hr
  have hxy : x=y:=by
   have hx : x ∈ y :: U:=hp.subset List.mem_cons_self
   have hy : y ∈ x :: T:=hp.symm.subset List.mem_cons_self
   rcases List.mem_cons.1 hx with h | h
   ·exact h
   ·rcases List.mem_cons.1 hy with h2 | h2
    ·exact h2.symm
    ·exact absurd (hr.1 x h) (hs.1 y h2)
  subst hxy
  rw [sorted_one T U (List.Perm.cons_inv hp) hs.2 hr.2]
end Go.Proofs.YtghnopkgcgfcpaaGreatDoor.Table
set_option maxHeartbeats 16000000
set_option maxRecDepth 100000
namespace Go.Proofs.YtghnopkgcgfcpaaGreatDoor.Table
open Go.RowKit Base
theorem parse_good (l : List UInt8) (h : (parseOf l).2.1=0) : Good (parseOf l).1:=by
 by_cases hl : l.length≤262144
 ·obtain ⟨h1,h2⟩:=parse_same l hl
  cases hp : parseP l with
  | inl f =>
   obtain ⟨h3,h4⟩:=h1 f hp
   rw [h4] at h; exact absurd h h3
  | inr E=>exact (h2 E hp).2.1
 ·unfold parseOf at h
  rw [if_pos (by omega)] at h
  exact absurd h (by decide)
theorem pParseBig (s : ByteArray) (w : World) (hbig : 262144 < s.size) : Calls Tryz.prog 14 #[.string s] w (fun e w'=>Below w.heap.size w w'∧e=.returned (.tuple #[.pointer none,fltV (60,262144)])):=by
 have i1 : (262144 : Int) < (s.size : Int):=by omega
 clear hbig
 go_enter Tryz.func14,Tryz.ntmps14
 go_wp2
 refine wp_scope_fwd fun F hF=>?_
 have HF:=Lib.hid hF
 clear hF
 go_wp2
 rw [Exit.fwd_ret]
 exact bodyPost_ret (v:=.tuple #[.pointer none,.agg #[.int .i64 60,.int .i64 262144]]) (by simp [results,Tryz.results14,go_sem]) rfl ⟨Below.alloc1 _ _,rfl⟩
theorem pParse (HIX : IdxOk) (s : ByteArray) (w : World) (hm : MaxOk w) : Calls Tryz.prog 14 #[.string s] w (ParseEnd 105 (parseOf s.data.toList) w):=by
 by_cases hbig : 262144 < s.size
 ·refine (pParseBig s w hbig).mono fun e w' h=>⟨h.1,Or.inr ?_⟩
  have : parseOf s.data.toList=([],60,262144):=by unfold parseOf; rw [if_pos (by rw [str_len]; exact hbig)]
  rw [this]
  exact ⟨by decide,h.2⟩
 ·refine (pParseIn HIX s w hm (by omega)).mono fun e w' h=>⟨h.1,?_⟩
  obtain ⟨h1,h2⟩:=parse_same s.data.toList (by rw [str_len]; omega)
  obtain ⟨_,h⟩:=h
  cases hp : parseP s.data.toList with
  | inl f =>
   rw [hp] at h
   obtain ⟨h3,h4⟩:=h1 f hp
   rw [h4]
   exact Or.inr ⟨h3,h⟩
  | inr E =>
   rw [hp] at h
   obtain ⟨b,T,he,hT,hS,hat⟩:=h
   obtain ⟨h3,h4,h5⟩:=h2 E hp
   rw [sorted_one T _ (hT.trans h5.symm) hS h4.rise] at hat
   exact Or.inl ⟨h3,b,he,hat⟩
end Go.Proofs.YtghnopkgcgfcpaaGreatDoor.Table
