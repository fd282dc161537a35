/-
  MERGED by mergefill.py: PthQuo, PthLoc, PthHost, PthBox.
-/
import Derived.Test.YtghnopkgcgfcpaaGreatDoorPthSmMg
set_option maxHeartbeats 16000000
set_option maxRecDepth 100000
namespace Go.Proofs.YtghnopkgcgfcpaaGreatDoor.Path
open Go.RowKit Base
def stepQ (s : ByteArray) (k : Nat) : Nat:=if hasB s k 92=true then k + 1 else k
theorem stepQ_ge (s : ByteArray) (k : Nat) : k≤stepQ s k:=by unfold stepQ; split <;> omega
theorem stepQ_le (s : ByteArray) (k : Nat) (h : k≤s.size) : stepQ s k≤s.size:=by
 unfold stepQ; split
 ·rename_i h; have:=hasB_lt h; omega
 ·exact h
def quo (s : ByteArray) (k : Nat) (acc : List UInt8) : Bool × Nat × List UInt8 :=
 if hasB s k 34=true then (!acc.isEmpty,k + 1,acc) else
 if _h : stepQ s k < s.size then
  if shownC (s.data.toList.getD (stepQ s k) 0)=true then quo s (stepQ s k + 1) (acc++[s.data.toList.getD (stepQ s k) 0]) else (false,stepQ s k,acc)
 else (false,stepQ s k,acc)
termination_by s.size - k
decreasing_by have:=stepQ_ge s k; omega
def strQ (r : Bool × Nat × List UInt8) : List UInt8:=if r.1 then r.2.2 else []
theorem quo_eq (s : ByteArray) (k : Nat) (acc : List UInt8) : quo s k acc=if hasB s k 34=true then (!acc.isEmpty,k + 1,acc) else
  if stepQ s k < s.size then
   if shownC (s.data.toList.getD (stepQ s k) 0)=true then quo s (stepQ s k + 1) (acc++[s.data.toList.getD (stepQ s k) 0]) else (false,stepQ s k,acc)
  else (false,stepQ s k,acc):=by
 rw [quo]
 split
 ·rfl
 ·split <;> rfl
theorem ite_yes {c : Prop} [Decidable c] {a b : Prop} (h : c) (x : a) : if c then a else b:=by rw [if_pos h]; exact x
theorem oper_append {o : Oper} {a : Act} {w : World} {K : Act→World→Prop} {Q : Exit→Act→World→Prop} (s x : Operand)
  (ho : o.op=.call { callee:=.builtin .append,args:=#[s,x],argTypes:=#[86,86] })
  (B : Nat) (v y : Value) (xs l : List UInt8) (hs : a.eval s=v) (hx : a.eval x=y) (hown : Owns w B v xs) (hr : Reads w y l) (hlim : xs.length + l.length≤200000000000000) (hB : B≤w.heap.size)
  (h : ∀ v' w',Owns w' B v' (xs++l)→Below B w w'→K (a.put o.dst v') w') : Oper.wp Tryz.prog o a w K Q:=by
 obtain ⟨v',w',hr,h2,h3⟩:=run_append_reads w B o.type v y xs l hown hr hlim hB
 unfold Oper.wp execOp
 simp only [ho,resolve,invoke,builtin,Sem.run_bind,Sem.run_pure,Result.andThen_ok,List.map_toArray,List.map_cons,List.map_nil,hs,hx,hr]
 exact h v' w' h2 h3
theorem RdAt.onB {w w' : World} {g k B : Nat} {s : ByteArray} (h : RdAt w g s k) (hb : Below B w w') (hg : g < B) : RdAt w' g s k:=by
 unfold RdAt; rw [hb.block g hg]; exact h
theorem keepX_onB {w0 w w' : World} {g : Nat} (h : KeepX g w0 w) (hb : Below w0.heap.size w w') : KeepX g w0 w' :=
 ⟨hb.os.trans h.os,hb.tape.trans h.tape,hb.output.trans h.output,Nat.le_trans h.size hb.size,fun k hk hne=>(hb.block k hk).trans (h.block k hk hne)⟩
theorem Below.drewN' (w : World) (n : Nat) : Below w.heap.size w (w.drewN n):=⟨rfl,rfl,rfl,Nat.le_refl _,fun _ _=>rfl⟩
theorem Owns.keepX {w1 w2 : World} {g B : Nat} {v : Value} {l : List UInt8} (h : Owns w1 B v l) (q : KeepX g w1 w2) (hg : g < B) : Owns w2 B v l :=
 h.keptB fun b hb hlt=>q.block b hlt (by have:=(h.ge b hb).1; omega)
def RdB (W : World) (B g : Nat) (s : ByteArray) (k : Nat) (w' : World) : Prop:=Below B W w'∧w'.cell? ⟨g,0,none⟩=some (.string s)∧w'.cell? ⟨g,1,none⟩=some (.int .i64 (k : Int))
theorem rdb_start {W : World} {B g k : Nat} {s : ByteArray} (h : RdAt W g s k) : RdB W B g s k W.drew:=⟨(Below.refl _ _).drew,h.cells.1,h.cells.2.1⟩
theorem rdb_keep {W w1 w2 : World} {B g k : Nat} {s : ByteArray} (h : RdB W B g s k w1) (hg : g < B) (hb : Below B w1 w2) : RdB W B g s k w2 :=
 ⟨h.1.trans hb,(hb.cell (p:=⟨g,0,none⟩) hg).trans h.2.1,(hb.cell (p:=⟨g,1,none⟩) hg).trans h.2.2⟩
set_option linter.unusedSimpArgs false in
theorem pQuoted (g k : Nat) (s : ByteArray) (w : World) (h : RdAt w g s k) (hk : k≤s.size) (hs : s.size≤140737488355328) :
  Calls Tryz.prog 166 #[.pointer (some ⟨g,0,none⟩)] w fun e w'=>e=.returned (.tuple #[.string ⟨(strQ (quo s k [])).toArray⟩,.bool (quo s k []).1])∧RdAt w' g s (quo s k []).2.1∧KeepX g w w':=by
 have HR:=Lib.hid h
 obtain ⟨x0,x1,x2⟩:=h.cells
 generalize hD : quo s k []=D
 have HD:=Lib.hid hD
 have hgB:=h.lt
 clear h hD
 go_enter Tryz.func166,Tryz.ntmps166
 go_wp2
 refine wp_scope_fwd fun F hF=>?_
 have HF:=Lib.hid hF
 clear hF
 go_wp2
 go_loopg [4] (s.size - k) (fun n s4 wx=>∃ i acc,i + n=s.size∧k + acc.length≤i∧Owns wx w.heap.size s4 acc∧RdAt wx g s i∧KeepX g w wx∧quo s i acc=D)
 case atStart=>exact ⟨k,[],by omega,Nat.le_refl _,owns_nil _ _,HR.out,KeepX.refl _ _,HD.out⟩
 case round =>
  obtain ⟨i,acc,hin,hki,hown,hr,hkx,hd⟩:=hrel
  have HO:=Lib.hid hown
  have HR2:=Lib.hid hr
  have HK:=Lib.hid hkx
  have HDS:=Lib.hid ((quo_eq s i acc).symm.trans hd)
  have hsz:=hkx.size
  obtain ⟨A,c,rfl⟩:=hown.reads.form
  obtain ⟨n,hn⟩ : ∃ n,n=acc.length:=⟨_,rfl⟩
  rw [← hn] at HO ⊢
  have HN:=Lib.hid hn
  have hni : k + n≤i:=by omega
  clear hn
  clear hd hkx hown
  have C1 : Hid (Calls Tryz.prog 63 #[.pointer (some ⟨g,0,none⟩),.int .u8 34] wr fun e w'=>e=.returned (.bool (hasB s i 34))∧RdAt w' g s (if hasB s i 34=true then i + 1 else i)∧KeepX g wr w') :=
   pHas g i s 34 wr hr (by omega) (by omega)
  clear hr
  generalize hasB s i 34=hb at C1 HDS
  cases hb with
  | true =>
   have HT : Hid ((!acc.isEmpty,i + 1,acc)=D):=HDS.out
   clear HDS
   go_wp2_with (first | (go_at_call 63; refine C1.out.mono ?_; rintro ee w2 ⟨rfl,h2,q2⟩; refine Hid.out ?_) | fail)
   refine Lib.hid ?_
   have HR3 : Hid (RdAt w2 g s (i + 1)):=h2
   have HQ2:=Lib.hid q2
   have HOw:=Lib.hid (Owns.keepX HO.out q2 hgB)
   clear h2 q2
   have hcv:=conv_reads HOw.out.reads
   by_cases h0 : n=0
   ·have e0 : acc=[]:=List.eq_nil_of_length_eq_zero (by rw [← HN.out]; exact h0)
    have HF0 : Hid (strQ D=[]∧D.1=false∧D.2.1=i + 1):=by
     rw [← HT.out,e0]; exact ⟨rfl,rfl,rfl⟩
    clear hcv
    subst h0
    go_wp2
    go_step3
    refine ⟨_,by rw [HF.out]; rfl,?_⟩
    clear HF
    go_wp2
    rw [Exit.noGoto_ret]
    go_ret2
    exact ⟨by rw [HF0.out.1,HF0.out.2.1]; rfl,by rw [HF0.out.2.2]; exact HR3.out,HK.out.trans HQ2.out⟩
   ·have HF0 : Hid (strQ D=acc∧D.1=true∧D.2.1=i + 1):=by
     have : acc.isEmpty=false:=by
      cases hx : acc with
      | nil=>exfalso; apply h0; rw [HN.out,hx]; rfl
      | cons x y=>rfl
     rw [← HT.out,this]; exact ⟨rfl,rfl,rfl⟩
    have q1 : ((n : Int) == 0)=false:=by rw [beq_eq_false_iff_ne]; omega
    go_wp2
    rw [Exit.fwd_ret]
    go_ret2
    exact ⟨by rw [HF0.out.1,HF0.out.2.1]; rfl,by rw [HF0.out.2.2]; exact HR3.out,HK.out.trans HQ2.out⟩
  | false =>
   obtain ⟨m,hm⟩ : ∃ m,m=stepQ s i:=⟨_,rfl⟩
   have hmi : i≤m:=by rw [hm]; exact stepQ_ge s i
   have hms : m≤s.size:=by rw [hm]; exact stepQ_le s i (by omega)
   have C2 : Hid (∀ w1,RdAt w1 g s i→Calls Tryz.prog 63 #[.pointer (some ⟨g,0,none⟩),.int .u8 92] w1 fun e w'=>(∃ b,e=.returned (.bool b))∧RdAt w' g s m∧KeepX g w1 w') :=
    fun w1 h1=>(pHas g i s 92 w1 h1 (by omega) (by omega)).mono fun e w' h=>⟨⟨_,h.1⟩,by rw [hm]; exact h.2.1,h.2.2⟩
   rw [← hm] at HDS
   clear hm
   go_wp2_with (first | (go_at_call 63; refine C1.out.mono ?_; rintro ee w2 ⟨rfl,h2,q2⟩; refine Hid.out ?_) | fail)
   refine Lib.hid ?_
   have HR3 : Hid (RdAt w2 g s i):=h2
   have HOw:=Lib.hid (Owns.keepX HO.out q2 hgB)
   have HQ2:=Lib.hid q2
   clear h2 q2
   go_wp2_with (first | (go_at_call 63; refine (C2.out _ HR3.out).mono ?_; rintro ee w3 ⟨⟨bb,rfl⟩,h3,q3⟩; refine Hid.out ?_) | fail)
   refine Lib.hid ?_
   have HR4 : Hid (RdAt w3 g s m):=h3
   have HOw2:=Lib.hid (Owns.keepX HOw.out q3 hgB)
   have HQ3:=Lib.hid q3
   obtain ⟨y0,y1,y2⟩:=h3.cells
   have hsz3:=q3.size
   have hsz2:=HQ2.out.size
   clear h3 q3
   have i0 : (0 : Int)≤(m : Int):=by omega
   by_cases hlt : m < s.size
   ·have q1 : ((m : Int) == (s.size : Int))=false:=by rw [beq_eq_false_iff_ne]; omega
    have HS:=Lib.hid (fun w1=>pShown s[m] w1)
    rw [if_pos hlt,str_get s m hlt] at HDS
    have hcb:=s[m].toNat_lt
    generalize hsh : shownC s[m]=sh at HS HDS
    cases sh with
    | false =>
     have HT : Hid ((false,m,acc)=D):=by have e:=HDS.out; simp only [Bool.false_eq_true,if_false] at e; exact e
     have HF0 : Hid (strQ D=[]∧D.1=false∧D.2.1=m):=by rw [← HT.out]; exact ⟨rfl,rfl,rfl⟩
     clear hsh
     go_wp2
     go_quiet ((go_at_call 197; exact Calls.quiet_of_same ((HS.out _).mono fun _ _ h=>⟨h.1,h.2.symm⟩)))
     go_wp2
     go_step3
     refine ⟨_,by rw [HF.out]; rfl,?_⟩
     clear HF
     go_wp2
     rw [Exit.noGoto_ret]
     go_ret2
     exact ⟨by rw [HF0.out.1,HF0.out.2.1]; rfl,by rw [HF0.out.2.2]; exact HR4.out.drewN _,HK.out.trans (HQ2.out.trans (HQ3.out.trans (KeepX.drewN _)))⟩
    | true =>
     have HT : Hid (quo s (m + 1) (acc++[s[m]])=D):=by have e:=HDS.out; simp only [Bool.false_eq_true,if_false,if_true] at e; exact e
     obtain ⟨z,hz⟩ : ∃ z : Int,z=((s[m]).toNat : Int):=⟨_,rfl⟩
     have HZ:=Lib.hid hz
     clear hsh hz
     go_wp2
     go_quiet ((go_at_call 197; exact Calls.quiet_of_same ((HS.out _).mono fun _ _ h=>⟨h.1,h.2.symm⟩)))
     go_wp2
     obtain ⟨W,hW⟩ : ∃ W,W=w3.drewN nq:=⟨_,rfl⟩
     rw [← hW]
     have HR5 : Hid (RdAt W g s m):=by rw [hW]; exact HR4.out.drewN _
     have HO5 : Hid (Owns W w.heap.size (.slice A n c) acc):=by rw [hW]; exact HOw2.out.on ((Below.refl _ _).trans (by exact Below.drewN' w3 nq))
     have HK5 : Hid (KeepX g w W):=by rw [hW]; exact HK.out.trans (HQ2.out.trans (HQ3.out.trans (KeepX.drewN _)))
     have hszW : w.heap.size≤W.heap.size:=HK5.out.size
     clear hW
     refine wp_region_noPanic ?_
     refine wp_region_held_drew (S:=(fun w'=>Below w.heap.size W w'∧w'.cell? ⟨g,0,none⟩=some (.string s)∧w'.cell? ⟨g,1,none⟩=some (.int .i64 (m : Int)))) (by kernel_rfl) (rdb_start HR5.out) (fun hHeld=>?_)
     refine wpAnyH_take (i:=0) (v:=?vq1) rfl (by kernel_rfl) (by kernel_rfl) (by kernel_rfl) (fun _ _ _ h=>h) (Or.inl ⟨by rfl,?hyq1⟩) (by assumption) ?restq1
     case hyq1=>(intro w hSw; (try dsimp only at hSw); go_simp; try with_reducible rfl)
     (try simp only [Act.put,List.getElem_toArray,List.getElem_cons_succ,List.getElem_cons_zero,List.setIfInBounds_toArray,List.set_cons_zero,List.set_cons_succ])
     refine wpAnyH_take (i:=1) (v:=?vq2) rfl (by kernel_rfl) (by kernel_rfl) (by kernel_rfl) (fun _ _ _ h=>h) (Or.inl ⟨by rfl,?hyq2⟩) (by assumption) ?restq2
     case hyq2=>(intro w hSw; (try dsimp only at hSw); go_simp; try with_reducible rfl)
     (try simp only [Act.put,List.getElem_toArray,List.getElem_cons_succ,List.getElem_cons_zero,List.setIfInBounds_toArray,List.set_cons_zero,List.set_cons_succ])
     refine wpAnyH_take (i:=2) (v:=?vq3) rfl (by kernel_rfl) (by kernel_rfl) (by kernel_rfl) (fun _ _ _ h=>h) (Or.inl ⟨by rfl,?hyq3⟩) (by assumption) ?restq3
     case hyq3=>(intro w hSw; (try dsimp only at hSw); go_simp; try with_reducible rfl)
     (try simp only [Act.put,List.getElem_toArray,List.getElem_cons_succ,List.getElem_cons_zero,List.setIfInBounds_toArray,List.set_cons_zero,List.set_cons_succ])
     refine wpAnyH_take (i:=3) (v:=?vq4) rfl (by kernel_rfl) (by kernel_rfl) (by kernel_rfl) (fun _ _ _ h=>h) (Or.inl ⟨by rfl,?hyq4⟩) (by assumption) ?restq4
     case hyq4=>(intro w hSw; (try dsimp only at hSw); go_simp; try with_reducible rfl)
     (try simp only [Act.put,List.getElem_toArray,List.getElem_cons_succ,List.getElem_cons_zero,List.setIfInBounds_toArray,List.set_cons_zero,List.set_cons_succ])
     refine wpAnyH_take (i:=4) (v:=?vq5) rfl (by kernel_rfl) (by kernel_rfl) (by kernel_rfl) (fun _ _ _ h=>h) (Or.inl ⟨by rfl,?hyq5⟩) (by assumption) ?restq5
     case hyq5=>(intro w hSw; (try dsimp only at hSw); go_simp; try with_reducible rfl)
     (try simp only [Act.put,List.getElem_toArray,List.getElem_cons_succ,List.getElem_cons_zero,List.setIfInBounds_toArray,List.set_cons_zero,List.set_cons_succ])
     refine wpAnyH_take (i:=5) (v:=?vq6) rfl (by kernel_rfl) (by kernel_rfl) (by kernel_rfl) (fun _ _ _ h=>h) (Or.inl ⟨by rfl,?hyq6⟩) (by assumption) ?restq6
     case hyq6=>(intro w hSw; (try dsimp only at hSw); go_simp; try with_reducible rfl)
     (try simp only [Act.put,List.getElem_toArray,List.getElem_cons_succ,List.getElem_cons_zero,List.setIfInBounds_toArray,List.set_cons_zero,List.set_cons_succ])
     refine wpAnyH_take (i:=6) (v:=?vq7) rfl (by kernel_rfl) (by kernel_rfl) (by kernel_rfl) (fun _ _ _ h=>h) (Or.inl ⟨by rfl,?hyq7⟩) (by assumption) ?restq7
     case hyq7=>(intro w hSw; (try dsimp only at hSw); go_simp; try with_reducible rfl)
     (try simp only [Act.put,List.getElem_toArray,List.getElem_cons_succ,List.getElem_cons_zero,List.setIfInBounds_toArray,List.set_cons_zero,List.set_cons_succ])
     refine wpAnyH_take (i:=7) (v:=?vq8) rfl (by kernel_rfl) (by kernel_rfl) (by kernel_rfl) (fun _ _ _ h=>h) (Or.inl ⟨by rfl,?hyq8⟩) (by assumption) ?restq8
     case hyq8=>(intro w hSw; (try dsimp only at hSw); go_simp; try with_reducible rfl)
     (try simp only [Act.put,List.getElem_toArray,List.getElem_cons_succ,List.getElem_cons_zero,List.setIfInBounds_toArray,List.set_cons_zero,List.set_cons_succ])
     refine wpAnyH_take (i:=8) (v:=?vq9) rfl (by kernel_rfl) (by kernel_rfl) (by kernel_rfl) (fun _ _ _ h=>h) (Or.inl ⟨by rfl,?hyq9⟩) (by assumption) ?restq9
     case hyq9=>(intro w hSw; (try dsimp only at hSw); go_simp; try with_reducible rfl)
     (try simp only [Act.put,List.getElem_toArray,List.getElem_cons_succ,List.getElem_cons_zero,List.setIfInBounds_toArray,List.set_cons_zero,List.set_cons_succ])
     refine wpAnyH_take (i:=9) (v:=?vq10) rfl (by kernel_rfl) (by kernel_rfl) (by kernel_rfl) (fun _ _ _ h=>h) (Or.inl ⟨by rfl,?hyq10⟩) (by assumption) ?restq10
     case hyq10=>(intro w hSw; (try dsimp only at hSw); go_simp; try with_reducible rfl)
     (try simp only [Act.put,List.getElem_toArray,List.getElem_cons_succ,List.getElem_cons_zero,List.setIfInBounds_toArray,List.set_cons_zero,List.set_cons_succ])
     refine wpAnyH_ready (rs:=[10]) (by kernel_rfl) (by simp) ?_
     refine AllReadyH.cons rfl (fun K hK=>?_) AllReadyH.nil
     go_simp
     refine hK.out _ _ (rdb_keep (by assumption) hgB (show Below w.heap.size W.drew (W.drew.alloc _) from (Below.alloc1 _ _).mono hszW)) (fun hHeld=>?_)
     clear hK K
     (try simp only [Act.put,List.getElem_toArray,List.getElem_cons_succ,List.getElem_cons_zero,List.setIfInBounds_toArray,List.set_cons_zero,List.set_cons_succ])
     refine wpAnyH_ready (rs:=[11]) (by kernel_rfl) (by simp) ?_
     refine AllReadyH.cons rfl (fun K hK=>?_) AllReadyH.nil
     refine ite_yes (by rfl) ?_
     refine oper_append (.tmp 33) (.tmp 43) rfl w.heap.size (.slice A n c) _ acc [s[m]] rfl rfl (HO5.out.on ((Below.alloc1 W _).drew)) ((reads_one W 5 _ s[m] rfl).drew) (by have:=HN.out; simp; omega) (Nat.le_trans hszW (Below.alloc1 W _).size) (fun v7 w7 o7 b7=>?_)
     refine hK.out _ _ (rdb_keep (by assumption) hgB b7) (fun hHeld=>?_)
     clear hK K
     (try simp only [Act.put,List.getElem_toArray,List.getElem_cons_succ,List.getElem_cons_zero,List.setIfInBounds_toArray,List.set_cons_zero,List.set_cons_succ])
     refine wpAnyH_take (i:=12) (v:=?vr1) rfl (by kernel_rfl) (by kernel_rfl) (by kernel_rfl) (fun _ _ _ h=>h) (Or.inl ⟨by rfl,?hyr1⟩) (by assumption) ?restr1
     case hyr1=>(intro w hSw; (try dsimp only at hSw); go_simp; try with_reducible rfl)
     (try simp only [Act.put,List.getElem_toArray,List.getElem_cons_succ,List.getElem_cons_zero,List.setIfInBounds_toArray,List.set_cons_zero,List.set_cons_succ])
     refine wpAnyH_done (by kernel_rfl) ?_ _
     refine NoPanic.normal ?_
     have HB7:=Lib.hid hHeld.1
     have HR7:=Lib.hid (HR5.out.onB HB7.out hgB)
     obtain ⟨z0,z1,z2⟩:=HR7.out.cells
     have HK7:=Lib.hid (keepX_onB HK5.out HB7.out)
     have HO7:=Lib.hid o7
     clear b7 o7 hHeld
     go_wp2
     go_roundg (s.size - (m + 1))
     case measure=>omega
     case rel=>exact ⟨m + 1,acc++[s[m]],by omega,by rw [List.length_append,← HN.out]; simp; omega,Owns.keepX HO7.out (KeepX.set g _ 1 _) hgB,HR7.out.set (m + 1),HK7.out.trans (KeepX.set g _ 1 _),HT.out⟩
   ·have q1 : ((m : Int) == (s.size : Int))=true:=by rw [beq_iff_eq]; omega
    have HT : Hid ((false,m,acc)=D):=by have e:=HDS.out; rw [if_neg (by decide),if_neg hlt] at e; exact e
    have HF0 : Hid (strQ D=[]∧D.1=false∧D.2.1=m):=by rw [← HT.out]; exact ⟨rfl,rfl,rfl⟩
    go_wp2
    go_quiet (fail)
    go_wp2
    go_step3
    refine ⟨_,by rw [HF.out]; rfl,?_⟩
    clear HF
    go_wp2
    rw [Exit.noGoto_ret]
    go_ret2
    exact ⟨by rw [HF0.out.1,HF0.out.2.1]; rfl,by rw [HF0.out.2.2]; exact HR4.out.drewN _,HK.out.trans (HQ2.out.trans (HQ3.out.trans (KeepX.drewN _)))⟩
end Go.Proofs.YtghnopkgcgfcpaaGreatDoor.Path
set_option maxHeartbeats 16000000
set_option maxRecDepth 100000
namespace Go.Proofs.YtghnopkgcgfcpaaGreatDoor.Path
open Go.RowKit Base
theorem dots_le (q : UInt8→Bool) (ok : List UInt8→Bool) (s : ByteArray) : ∀ n k,s.size - k≤n→k≤s.size→(dots q ok s k).2≤s.size∧k≤(dots q ok s k).2:=by
 intro n
 induction n with
 | zero =>
  intro k hn hk
  have hb : ¬ hasB s (k + rowN q s k) 46=true:=fun h=>by have:=hasB_lt h; omega
  have hr:=row_le q s k hk
  rw [dots_eq,if_neg hb]
  split <;> exact ⟨hr,Nat.le_add_right _ _⟩
 | succ n ih =>
  intro k hn hk
  have hr:=row_le q s k hk
  rw [dots_eq]
  split
  ·split
   ·rename_i hb
    have:=hasB_lt hb
    have:=ih (k + rowN q s k + 1) (by omega) (by omega)
    exact ⟨this.1,by omega⟩
   ·exact ⟨hr,Nat.le_add_right _ _⟩
  ·exact ⟨hr,Nat.le_add_right _ _⟩
theorem quo_le (s : ByteArray) : ∀ n k acc,s.size - k≤n→k≤s.size→(quo s k acc).2.1≤s.size∧k≤(quo s k acc).2.1:=by
 intro n
 induction n with
 | zero =>
  intro k acc hn hk
  have hb : ¬ hasB s k 34=true:=fun h=>by have:=hasB_lt h; omega
  have h1:=stepQ_ge s k
  have h2:=stepQ_le s k hk
  rw [quo_eq,if_neg hb,if_neg (by omega)]
  exact ⟨h2,h1⟩
 | succ n ih =>
  intro k acc hn hk
  have h1:=stepQ_ge s k
  have h2:=stepQ_le s k hk
  rw [quo_eq]
  split
  ·rename_i hb
   have:=hasB_lt hb
   exact ⟨this,Nat.le_succ _⟩
  ·split
   ·split
    ·have:=ih (stepQ s k + 1) (acc++[s.data.toList.getD (stepQ s k) 0]) (by omega) (by omega)
     exact ⟨this.1,by omega⟩
    ·exact ⟨h2,h1⟩
   ·exact ⟨h2,h1⟩
def loc (s : ByteArray) (k : Nat) : Bool × Nat × ByteArray :=
 if hasB s k 34=true then ((quo s (k + 1) []).1,(quo s (k + 1) []).2.1,⟨(strQ (quo s (k + 1) [])).toArray⟩)
 else ((dots atomC someB s k).1,(dots atomC someB s k).2,strOf s k (dots atomC someB s k))
theorem loc_le (s : ByteArray) (k : Nat) (hk : k≤s.size) : (loc s k).2.1≤s.size∧k≤(loc s k).2.1:=by
 unfold loc
 split
 ·rename_i h
  have:=hasB_lt h
  have:=quo_le s _ (k + 1) [] (Nat.le_refl _) (by omega)
  exact ⟨this.1,Nat.le_trans (Nat.le_succ k) this.2⟩
 ·exact dots_le atomC someB s _ k (Nat.le_refl _) hk
def LocEnd (g : Nat) (s : ByteArray) (w : World) (r : Bool × Nat × ByteArray) (e : Ending) (w' : World) : Prop:=e=.returned (.tuple #[.string r.2.2,.bool r.1])∧RdAt w' g s r.2.1∧KeepX g w w'
theorem pLocal (g k : Nat) (s : ByteArray) (w : World) (h : RdAt w g s k) (hk : k≤s.size) (hs : s.size≤140737488355328) :
  Calls Tryz.prog 122 #[.pointer (some ⟨g,0,none⟩)] w (LocEnd g s w (loc s k)):=by
 have C1 : Hid (Calls Tryz.prog 63 #[.pointer (some ⟨g,0,none⟩),.int .u8 34] w fun e w'=>e=.returned (.bool (hasB s k 34))∧RdAt w' g s (if hasB s k 34=true then k + 1 else k)∧KeepX g w w') :=
  pHas g k s 34 w h hk (by omega)
 have HLT : Hid (hasB s k 34=true→k < s.size):=hasB_lt
 have HD : Hid (loc s k=if hasB s k 34=true then ((quo s (k + 1) []).1,(quo s (k + 1) []).2.1,⟨(strQ (quo s (k + 1) [])).toArray⟩)
  else ((dots atomC someB s k).1,(dots atomC someB s k).2,strOf s k (dots atomC someB s k))):=rfl
 generalize loc s k=D at HD
 generalize hasB s k 34=hb at C1 HD HLT
 clear h
 cases hb with
 | true =>
  have hlt : k < s.size:=HLT.out rfl
  have HT : Hid (D=((quo s (k + 1) []).1,(quo s (k + 1) []).2.1,⟨(strQ (quo s (k + 1) [])).toArray⟩)):=HD.out
  clear HD HLT
  go_enter Tryz.func122,Tryz.ntmps122
  go_wp2_with (first | (go_at_call 63; refine C1.out.mono ?_; rintro ee w1 ⟨rfl,h1,q1⟩; refine Hid.out ?_) | fail)
  refine Lib.hid ?_
  have h1 : RdAt w1 g s (k + 1):=h1
  have HR1:=Lib.hid h1
  have HQ1:=Lib.hid q1
  have C2:=Lib.hid (pQuoted g (k + 1) s w1 h1 (by omega) hs)
  clear h1 q1
  generalize quo s (k + 1) []=q at C2 HT
  go_wp2_with (first | (go_at_call 166; refine C2.out.mono ?_; rintro ee w2 ⟨rfl,h2,q2⟩; refine Hid.out ?_) | fail)
  refine Lib.hid ?_
  have HR2:=Lib.hid h2
  have HQ2:=Lib.hid q2
  clear h2 q2
  go_wp2
  go_ret2
  rw [HT.out]
  exact ⟨rfl,HR2.out,HQ1.out.trans HQ2.out⟩
 | false =>
  have HT : Hid (D=((dots atomC someB s k).1,(dots atomC someB s k).2,strOf s k (dots atomC someB s k))):=HD.out
  clear HD HLT
  go_enter Tryz.func122,Tryz.ntmps122
  go_wp2_with (first | (go_at_call 63; refine C1.out.mono ?_; rintro ee w1 ⟨rfl,h1,q1⟩; refine Hid.out ?_) | fail)
  refine Lib.hid ?_
  have h1 : RdAt w1 g s k:=h1
  have HQ1:=Lib.hid q1
  have C2:=Lib.hid (pAtoms g k s w1 h1 hk hs)
  clear h1 q1
  generalize dots atomC someB s k=q at C2 HT
  generalize strOf s k q=z at C2 HT
  go_wp2_with (first | (go_at_call 123; refine C2.out.mono ?_; rintro ee w2 ⟨rfl,h2,q2⟩; refine Hid.out ?_) | fail)
  refine Lib.hid ?_
  have HR2:=Lib.hid h2
  have HQ2:=Lib.hid q2
  clear h2 q2
  go_wp2
  go_ret2
  rw [HT.out]
  exact ⟨rfl,HR2.out,HQ1.out.trans HQ2.out⟩
end Go.Proofs.YtghnopkgcgfcpaaGreatDoor.Path
set_option maxHeartbeats 16000000
set_option maxRecDepth 100000
namespace Go.Proofs.YtghnopkgcgfcpaaGreatDoor.Path
open Go.RowKit Base
structure LitOk (w0 : World) (L : ByteArray→Nat→Bool × Nat × ByteArray) : Prop where
 le : ∀ s k,k≤s.size→(L s k).2.1≤s.size∧k≤(L s k).2.1
 call : ∀ (g k : Nat) (s : ByteArray) (w : World),w0.heap.size≤g→Below w0.heap.size w0 w→RdAt w g s k→k≤s.size→s.size≤140737488355328→Calls Tryz.prog 64 #[.pointer (some ⟨g,0,none⟩)] w (LocEnd g s w (L s k))
def hst (L : ByteArray→Nat→Bool × Nat × ByteArray) (s : ByteArray) (k : Nat) : Bool × Nat × Bool × ByteArray :=
 if hasB s k 91=true then ((L s (k + 1)).1,(L s (k + 1)).2.1,(L s (k + 1)).1,(L s (k + 1)).2.2)
 else ((dots nameC labelB s k).1,(dots nameC labelB s k).2,false,domOf s k (dots nameC labelB s k))
theorem hst_le {w0 : World} {L : ByteArray→Nat→Bool × Nat × ByteArray} (hL : LitOk w0 L) (s : ByteArray) (k : Nat) (hk : k≤s.size) : (hst L s k).2.1≤s.size∧k≤(hst L s k).2.1:=by
 unfold hst
 split
 ·rename_i h
  have:=hasB_lt h
  have:=hL.le s (k + 1) (by omega)
  exact ⟨this.1,Nat.le_trans (Nat.le_succ k) this.2⟩
 ·exact dots_le nameC labelB s _ k (Nat.le_refl _) hk
def HostEnd (g : Nat) (s : ByteArray) (w : World) (r : Bool × Nat × Bool × ByteArray) (e : Ending) (w' : World) : Prop:=e=.returned (.tuple #[.string r.2.2.2,.bool r.2.2.1,.bool r.1])∧RdAt w' g s r.2.1∧KeepX g w w'
theorem pHost {w0 : World} {L : ByteArray→Nat→Bool × Nat × ByteArray} (hL : LitOk w0 L) (g k : Nat) (s : ByteArray) (w : World) (hg0 : w0.heap.size≤g) (hE : Below w0.heap.size w0 w) (h : RdAt w g s k) (hk : k≤s.size) (hs : s.size≤140737488355328) :
  Calls Tryz.prog 32 #[.pointer (some ⟨g,0,none⟩)] w (HostEnd g s w (hst L s k)):=by
 have C1 : Hid (Calls Tryz.prog 63 #[.pointer (some ⟨g,0,none⟩),.int .u8 91] w fun e w'=>e=.returned (.bool (hasB s k 91))∧RdAt w' g s (if hasB s k 91=true then k + 1 else k)∧KeepX g w w') :=
  pHas g k s 91 w h hk (by omega)
 have HLT : Hid (hasB s k 91=true→k < s.size):=hasB_lt
 have HLi:=Lib.hid hL
 have HG0 : Hid (w0.heap.size≤g):=hg0
 have HE0 : Hid (∀ w',KeepX g w w'→Below w0.heap.size w0 w'):=fun w' hk=>hE.trans (hk.below hg0 (heap_lt h))
 have HD : Hid (hst L s k=if hasB s k 91=true then ((L s (k + 1)).1,(L s (k + 1)).2.1,(L s (k + 1)).1,(L s (k + 1)).2.2)
  else ((dots nameC labelB s k).1,(dots nameC labelB s k).2,false,domOf s k (dots nameC labelB s k))):=rfl
 generalize hst L s k=D at HD
 generalize hasB s k 91=hb at C1 HD HLT
 clear h hL hE hg0
 cases hb with
 | true =>
  have hlt : k < s.size:=HLT.out rfl
  have HT : Hid (D=((L s (k + 1)).1,(L s (k + 1)).2.1,(L s (k + 1)).1,(L s (k + 1)).2.2)):=HD.out
  clear HD HLT
  go_enter Tryz.func32,Tryz.ntmps32
  go_wp2_with (first | (go_at_call 63; refine C1.out.mono ?_; rintro ee w1 ⟨rfl,h1,q1⟩; refine Hid.out ?_) | fail)
  refine Lib.hid ?_
  have h1 : RdAt w1 g s (k + 1):=h1
  have HR1:=Lib.hid h1
  have HQ1:=Lib.hid q1
  have C2:=Lib.hid (HLi.out.call g (k + 1) s w1 HG0.out (HE0.out _ q1) h1 (by omega) hs)
  clear h1 q1
  generalize L s (k + 1)=q at C2 HT
  go_wp2_with (first | (go_at_call 64; refine C2.out.mono ?_; rintro ee w2 ⟨rfl,h2,q2⟩; refine Hid.out ?_) | fail)
  refine Lib.hid ?_
  have HR2:=Lib.hid h2
  have HQ2:=Lib.hid q2
  clear h2 q2
  go_wp2
  go_ret3
  rw [HT.out]
  exact ⟨rfl,HR2.out,HQ1.out.trans HQ2.out⟩
 | false =>
  have HT : Hid (D=((dots nameC labelB s k).1,(dots nameC labelB s k).2,false,domOf s k (dots nameC labelB s k))):=HD.out
  clear HD HLT
  go_enter Tryz.func32,Tryz.ntmps32
  go_wp2_with (first | (go_at_call 63; refine C1.out.mono ?_; rintro ee w1 ⟨rfl,h1,q1⟩; refine Hid.out ?_) | fail)
  refine Lib.hid ?_
  have h1 : RdAt w1 g s k:=h1
  have HQ1:=Lib.hid q1
  have C2:=Lib.hid (pDomain g k s w1 h1 hk hs)
  clear h1 q1
  generalize dots nameC labelB s k=q at C2 HT
  generalize domOf s k q=z at C2 HT
  go_wp2_with (first | (go_at_call 65; refine C2.out.mono ?_; rintro ee w2 ⟨rfl,h2,q2⟩; refine Hid.out ?_) | fail)
  refine Lib.hid ?_
  have HR2:=Lib.hid h2
  have HQ2:=Lib.hid q2
  clear h2 q2
  go_wp2
  go_ret3
  rw [HT.out]
  exact ⟨rfl,HR2.out,HQ1.out.trans HQ2.out⟩
end Go.Proofs.YtghnopkgcgfcpaaGreatDoor.Path
namespace Go.Proofs.YtghnopkgcgfcpaaGreatDoor.Path
open Go.RowKit Base
theorem quo_ascii (s : ByteArray) : ∀ n k acc,s.size - k≤n→k≤s.size→(quo s k acc).1=true→∀ j,k≤j→j < (quo s k acc).2.1→(s.data.toList.getD j 0).toNat < 128:=by
 intro n
 induction n with
 | zero =>
  intro k acc hn hk
  have hb : ¬ hasB s k 34=true:=fun h=>by have:=hasB_lt h; omega
  have h1:=stepQ_ge s k
  rw [quo_eq,if_neg hb,if_neg (by omega)]
  intro h; cases h
 | succ n ih =>
  intro k acc hn hk
  have h1:=stepQ_ge s k
  have h2:=stepQ_le s k hk
  rw [quo_eq]
  split
  ·rename_i hb
   intro _ j hj hd
   have : j=k:=by simp only at hd; omega
   rw [this,hasB_at hb]; decide
  ·split
   ·rename_i hlt
    split
    ·rename_i hsh
     intro h j hj hd
     by_cases e1 : stepQ s k + 1≤j
     ·exact ih _ _ (by omega) (by omega) h j e1 hd
     ·by_cases e2 : j=stepQ s k
      ·have:=of_decide_eq_true hsh
       rw [e2]; omega
      ·by_cases hb : hasB s k 92=true
       ·have e3 : stepQ s k=k + 1:=by unfold stepQ; rw [if_pos hb]
        have : j=k:=by omega
        rw [this,hasB_at hb]; decide
       ·have e3 : stepQ s k=k:=by unfold stepQ; rw [if_neg hb]
        omega
    ·intro h; cases h
   ·intro h; cases h
theorem atomC_ascii (c : UInt8) (h : atomC c=true) : c.toNat < 128:=by
 unfold atomC at h
 rw [Bool.or_eq_true] at h
 rcases h with h | h
 ·exact ldC_ascii h
 ·have h:=of_decide_eq_true h
  obtain ⟨o,ho⟩:=Int.eq_ofNat_of_zero_le h
  have:=(Lib.indexByte_some ho).1
  have hm:=List.mem_of_getElem? this
  have : ∀ x ∈ marksB,x.toNat < 128:=by decide
  exact this c hm
theorem loc_ascii (s : ByteArray) (k : Nat) (hk : k≤s.size) (h : (loc s k).1=true) : ∀ j,k≤j→j < (loc s k).2.1→(s.data.toList.getD j 0).toNat < 128:=by
 unfold loc at h ⊢
 split at h
 ·rename_i hb
  rw [if_pos hb]
  have hlt:=hasB_lt hb
  intro j hj hd
  by_cases e : j=k
  ·rw [e,hasB_at hb]; decide
  ·exact quo_ascii s _ (k + 1) [] (Nat.le_refl _) (by omega) h j (by omega) hd
 ·rename_i hb
  rw [if_neg hb]
  exact dots_ascii atomC someB atomC_ascii s _ k (Nat.le_refl _) hk
structure PV where
 null : Bool
 loc : ByteArray
 dom : ByteArray
 lit : Bool
def PV.zero : PV:=⟨false,⟨#[]⟩,⟨#[]⟩,false⟩
def PV.cells (p : PV) : List Value:=[.bool p.null,.string p.loc,.string p.dom,.bool p.lit]
def PV.val (p : PV) : Value:=.agg p.cells.toArray
def PathAt (w : World) (b : Nat) (p : PV) : Prop:=w.heap[b]?=some (.cells p.cells.toArray 26 (0,0))
theorem PathAt.kept {w w' : World} {b g : Nat} {p : PV} (h : PathAt w b p) (hk : KeepX g w w') (hne : b ≠ g) : PathAt w' b p:=(hk.block b (heap_lt h) hne).trans h
def postB : List UInt8:=[112,111,115,116,109,97,115,116,101,114]
def mbx (L : ByteArray→Nat→Bool × Nat × ByteArray) (s : ByteArray) (k : Nat) : Bool × Nat × PV :=
 if (loc s k).1 then
  if hasB s (loc s k).2.1 64=true then
   ((hst L s ((loc s k).2.1 + 1)).1,(hst L s ((loc s k).2.1 + 1)).2.1,if (hst L s ((loc s k).2.1 + 1)).1 then ⟨false,(loc s k).2.2,(hst L s ((loc s k).2.1 + 1)).2.2.2,(hst L s ((loc s k).2.1 + 1)).2.2.1⟩ else PV.zero)
  else if Lib.equalFold (s.extract k (loc s k).2.1).data.toList postB then (true,(loc s k).2.1,⟨false,⟨postB.toArray⟩,⟨#[]⟩,false⟩) else (false,(loc s k).2.1,PV.zero)
 else (false,(loc s k).2.1,PV.zero)
def BoxEnd (g : Nat) (s : ByteArray) (w : World) (r : Bool × Nat × PV) (e : Ending) (w' : World) : Prop:=e=.returned (.tuple #[r.2.2.val,.bool r.1])∧RdAt w' g s r.2.1∧KeepX g w w'
theorem results_path {w : World} {fn : Func} {tmps : Array Value} {i j b : Nat} {p : PV} {v : Value} (hr : fn.results=#[ResultVar.cell i 26,ResultVar.tmp j]) (h1 : tmps.getD i undef=.pointer (some ⟨b,0,none⟩)) (h2 : tmps.getD j undef=v) (hat : PathAt w b p) :
  (results fn tmps).run Tryz.prog w=.ok (.tuple #[p.val,v]) w:=by
 have hl:=run_loadVar_row (P:=Tryz.prog) w b 26 26 p.cells.toArray (0,0) _ hat Tryz.underlying26 rfl (by kernel_rfl)
 unfold results
 rw [hr]
 rw [Array.getD_eq_getD_getElem?] at h1 h2
 simp [h1,h2,hl,asAddr,PV.val]
theorem rd_keptK {w w' : World} {g b k : Nat} {s : ByteArray} (h : RdAt w g s k) (q : KeepX b w w') (hne : g ≠ b) : RdAt w' g s k:=(q.block g (heap_lt h) hne).trans h
theorem keepX_above {w0 w w' : World} {g b : Nat} (h : KeepX g w0 w) (q : KeepX b w w') (hb : w0.heap.size≤b) : KeepX g w0 w' :=
 ⟨q.os.trans h.os,q.tape.trans h.tape,q.output.trans h.output,Nat.le_trans h.size q.size,fun k hk hne=>(q.block k (Nat.lt_of_lt_of_le hk h.size) (by omega)).trans (h.block k hk hne)⟩
theorem keepX_four (w : World) (b : Nat) (x y z u : Value) : KeepX b w ((((w.setCell ⟨b,0,none⟩ x).setCell ⟨b,1,none⟩ y).setCell ⟨b,2,none⟩ z).setCell ⟨b,3,none⟩ u) :=
 (KeepX.set b _ 0 x).trans ((KeepX.set b _ 1 y).trans ((KeepX.set b _ 2 z).trans (KeepX.set b _ 3 u)))
theorem path_four {w : World} {b : Nat} {p : PV} (h : PathAt w b p) (q : PV) : PathAt ((((w.setCell ⟨b,0,none⟩ (.bool q.null)).setCell ⟨b,1,none⟩ (.string q.loc)).setCell ⟨b,2,none⟩ (.string q.dom)).setCell ⟨b,3,none⟩ (.bool q.lit)) b q :=
 set_four h _ _ _ _
theorem path_one {w : World} {b : Nat} {p : PV} (h : PathAt w b p) (l : ByteArray) : PathAt (w.setCell ⟨b,1,none⟩ (.string l)) b ⟨p.null,l,p.dom,p.lit⟩:=by
 unfold PathAt; rw [heap_setCell_any w b 1 _ _ _ _ h]; rfl
theorem ext_le3 {s : ByteArray} (hs : s.size≤4000000000) (k m : Nat) : (s.extract k m).size < 4294967281:=by
 rw [ByteArray.size_extract]; omega
theorem post_ascii : ∀ (j : Nat) (b : UInt8),(⟨postB.toArray⟩ : ByteArray).data.toList[j]?=some b→b.toNat < 128:=by
 intro j b h
 have hm:=List.mem_of_getElem? h
 have : ∀ x ∈ postB,x.toNat < 128:=by decide
 exact this b hm
def pathO : Obj:=Obj.cells #[Value.bool false,Value.string ⟨#[]⟩,Value.string ⟨#[]⟩,Value.bool false] 26
theorem two_boxes (w : World) : Below w.heap.size w ((w.alloc pathO).alloc pathO)∧PathAt ((w.alloc pathO).alloc pathO) w.heap.size PV.zero∧PathAt ((w.alloc pathO).alloc pathO) (w.heap.size + 1) PV.zero:=by
 have h1:=(MapKept.heap_alloc w pathO).1
 have h2:=(MapKept.heap_alloc (w.alloc pathO) pathO).1
 have e : (w.alloc pathO).heap.size=w.heap.size + 1:=by simp
 rw [e] at h2
 exact ⟨(Below.alloc1 w _).trans ((Below.alloc1 _ _).mono (Below.alloc1 w _).size),((Below.alloc1 _ _).block _ (heap_lt h1)).trans h1,h2⟩
end Go.Proofs.YtghnopkgcgfcpaaGreatDoor.Path
