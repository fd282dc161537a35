/-
  MERGED by mergefill.py: CidrPRight.
-/
import Derived.Test.YtghnopkgcgfcpaaGreatDoorCidrG2Mg
import Derived.Deep.RegionHeld3
set_option maxHeartbeats 16000000
set_option maxRecDepth 100000
namespace Go.Proofs.YtghnopkgcgfcpaaGreatDoor.Cidr
open Go.RowKit Base
theorem run_eqlA (x y : List UInt8) (hx : x.length=16) (hy : y.length=16) (w : World) : (binOp .eql 68 (.agg (x.map B8).toArray) (.agg (y.map B8).toArray)).run Tryz.prog w=.ok (.bool (decide (x=y))) w:=by
 have h16:=run_eqAddr 9998 x y hx hy w
 go_simp
theorem guard23 : Tryz.prog.eqGuardType Tryz.prog.depth 68=false:=by kernel_rfl
theorem exec_eqlA {ρ : Operand→Value} {o : Oper} {s t : Operand} {r : TypeId} {x y : List UInt8} (ho : o.op=.binOp .eql 68 s t r) (hs : ρ s=.agg (x.map B8).toArray) (ht : ρ t=.agg (y.map B8).toArray) (hx : x.length=16) (hy : y.length=16) (w : World) :
  (execOp ρ o).run Tryz.prog w=.ok (.value (.bool (decide (x=y)))) w:=by
 unfold execOp
 simp only [ho,hs,ht,Sem.run_bind,run_eqGuard_agg w _ _ _ _ _ _ guard23,Result.andThen_ok,run_eqlA x y hx hy w,Sem.run_pure]
structure RS (w : World) (n : NetM) (w' : World) : Prop where
 bel : Below w.heap.size w w'
 at_ : NetAt w' w.heap.size n
 bits : w'.cell? ⟨w.heap.size,1,none⟩=some (.int .i64 n.bits)
 six : w'.cell? ⟨w.heap.size,0,none⟩=some (.bool n.six)
 rng : w'.rangeAt w.heap.size 2 (n.a.map B8)
theorem RS.mk' {w w' : World} {n : NetM} (h : Below w.heap.size w w') (h2 : NetAt w' w.heap.size n) : RS w n w':=⟨h,h2,h2.bits,h2.six,h2.range⟩
theorem RS.keep {w w1 w2 : World} {n : NetM} (h : RS w n w1) (hb : Below w1.heap.size w1 w2) : RS w n w2:=RS.mk' (h.bel.trans (hb.mono h.bel.size)) (h.at_.on hb)
set_option linter.unusedSimpArgs false in
theorem pRight (n : NetM) (ha : n.a.length=16) (w : World) : Calls Tryz.prog 134 #[netV n] w (AnsB (rightN n) w):=by
 have HA:=Lib.hid ha
 obtain ⟨R,hR⟩ : ∃ R,R=rightN n:=⟨_,rfl⟩
 rw [← hR]
 unfold rightN at hR
 have HS23:=Lib.hid (size23_of ha)
 have HST : Hid (RS w n (w.alloc (.cells (netC n) 70)).drew):=RS.mk' ((Below.alloc1 w _).drew) (NetAt.new w n)
 have HM:=Lib.hid (pMost n.six)
 have hle : sizeN n.six≤128:=by unfold sizeN; split <;> omega
 generalize sizeN n.six=sz at hR HM hle
 by_cases hl : 0≤n.bits
 ·by_cases hu : n.bits≤sz
  ·obtain ⟨m,hm⟩:=Int.eq_ofNat_of_zero_le hl
   rw [decide_eq_true ⟨hl,hu⟩,Bool.true_and,hm,Int.toNat_natCast,← first_right n.a ha m] at hR
   have HR:=Lib.hid hR
   have HF:=Lib.hid (pFirst n.a ha m (by omega))
   have HFL : Hid ((firstA n.a m).length=16):=by show _=_; rw [firstA_len,ha]
   have HMM:=Lib.hid hm
   rw [hm] at hu
   clear hR hl hm
   have hl : (0 : Int)≤(m : Int):=by omega
   go_enter Tryz.func134,Tryz.ntmps134
   go_wp2
   refine wp_region_noPanic ?_
   refine wp_region_held_drew (S:=(RS w n)) (by kernel_rfl) HST.out (fun hHeld=>?_)
   refine wpAnyH_take (i:=0) (v:=?vc1) rfl (by kernel_rfl) (by kernel_rfl) (by kernel_rfl) (fun _ _ _ h=>h) (Or.inl ⟨by rfl,?hyc1⟩) (by assumption) ?restc1
   case hyc1=>(intro w hSw; (try dsimp only at hSw); have hB1:=hSw.bits; rw [HMM.out] at hB1; have hB2:=hSw.six; go_simp; try with_reducible rfl)
   (try simp only [Act.put,List.getElem_toArray,List.getElem_cons_succ,List.getElem_cons_zero,List.setIfInBounds_toArray,List.set_cons_zero,List.set_cons_succ])
   refine wpAnyH_take (i:=1) (v:=?vc2) rfl (by kernel_rfl) (by kernel_rfl) (by kernel_rfl) (fun _ _ _ h=>h) (Or.inl ⟨by rfl,?hyc2⟩) (by assumption) ?restc2
   case hyc2=>(intro w hSw; (try dsimp only at hSw); have hB1:=hSw.bits; rw [HMM.out] at hB1; have hB2:=hSw.six; go_simp; try with_reducible rfl)
   (try simp only [Act.put,List.getElem_toArray,List.getElem_cons_succ,List.getElem_cons_zero,List.setIfInBounds_toArray,List.set_cons_zero,List.set_cons_succ])
   refine wpAnyH_take (i:=2) (v:=?vc3) rfl (by kernel_rfl) (by kernel_rfl) (by kernel_rfl) (fun _ _ _ h=>h) (Or.inl ⟨by rfl,?hyc3⟩) (by assumption) ?restc3
   case hyc3=>(intro w hSw; (try dsimp only at hSw); have hB1:=hSw.bits; rw [HMM.out] at hB1; have hB2:=hSw.six; go_simp; try with_reducible rfl)
   (try simp only [Act.put,List.getElem_toArray,List.getElem_cons_succ,List.getElem_cons_zero,List.setIfInBounds_toArray,List.set_cons_zero,List.set_cons_succ])
   refine wpAnyH_take (i:=3) (v:=?vc4) rfl (by kernel_rfl) (by kernel_rfl) (by kernel_rfl) (fun _ _ _ h=>h) (Or.inl ⟨by rfl,?hyc4⟩) (by assumption) ?restc4
   case hyc4=>(intro w hSw; (try dsimp only at hSw); have hB1:=hSw.bits; rw [HMM.out] at hB1; have hB2:=hSw.six; go_simp; try with_reducible rfl)
   (try simp only [Act.put,List.getElem_toArray,List.getElem_cons_succ,List.getElem_cons_zero,List.setIfInBounds_toArray,List.set_cons_zero,List.set_cons_succ])
   refine wpAnyH_take (i:=4) (v:=?vc5) rfl (by kernel_rfl) (by kernel_rfl) (by kernel_rfl) (fun _ _ _ h=>h) (Or.inl ⟨by rfl,?hyc5⟩) (by assumption) ?restc5
   case hyc5=>(intro w hSw; (try dsimp only at hSw); have hB1:=hSw.bits; rw [HMM.out] at hB1; have hB2:=hSw.six; go_simp; try with_reducible rfl)
   (try simp only [Act.put,List.getElem_toArray,List.getElem_cons_succ,List.getElem_cons_zero,List.setIfInBounds_toArray,List.set_cons_zero,List.set_cons_succ])
   refine wpAnyH_take (i:=5) (v:=?vc6) rfl (by kernel_rfl) (by kernel_rfl) (by kernel_rfl) (fun _ _ _ h=>h) (Or.inl ⟨by rfl,?hyc6⟩) (by assumption) ?restc6
   case hyc6=>(intro w hSw; (try dsimp only at hSw); have hB1:=hSw.bits; rw [HMM.out] at hB1; have hB2:=hSw.six; go_simp; try with_reducible rfl)
   (try simp only [Act.put,List.getElem_toArray,List.getElem_cons_succ,List.getElem_cons_zero,List.setIfInBounds_toArray,List.set_cons_zero,List.set_cons_succ])
   refine wpAnyH_take (i:=6) (v:=?vc7) rfl (by kernel_rfl) (by kernel_rfl) (by kernel_rfl) (fun _ _ _ h=>h) (Or.inl ⟨by rfl,?hyc7⟩) (by assumption) ?restc7
   case hyc7=>(intro w hSw; (try dsimp only at hSw); have hB1:=hSw.bits; rw [HMM.out] at hB1; have hB2:=hSw.six; go_simp; try with_reducible rfl)
   (try simp only [Act.put,List.getElem_toArray,List.getElem_cons_succ,List.getElem_cons_zero,List.setIfInBounds_toArray,List.set_cons_zero,List.set_cons_succ])
   refine wpAnyH_take (i:=7) (v:=?vc8) rfl (by kernel_rfl) (by kernel_rfl) (by kernel_rfl) (fun _ _ _ h=>h) (Or.inl ⟨by rfl,?hyc8⟩) (by assumption) ?restc8
   case hyc8=>(intro w hSw; (try dsimp only at hSw); have hB1:=hSw.bits; rw [HMM.out] at hB1; have hB2:=hSw.six; go_simp; try with_reducible rfl)
   (try simp only [Act.put,List.getElem_toArray,List.getElem_cons_succ,List.getElem_cons_zero,List.setIfInBounds_toArray,List.set_cons_zero,List.set_cons_succ])
   refine wpAnyH_ready (rs:=[8]) (by kernel_rfl) (by simp) ?_
   refine AllReadyH.cons rfl (fun K hK=>?_) AllReadyH.nil
   go_simp
   go_wp2_with (go_at_call 133; refine (HM.out _).mono ?_; rintro e wn1 ⟨rfl,rfl⟩)
   refine hK.out _ _ (by assumption) (fun hHeld=>?_)
   clear hK K
   (try simp only [Act.put,List.getElem_toArray,List.getElem_cons_succ,List.getElem_cons_zero,List.setIfInBounds_toArray,List.set_cons_zero,List.set_cons_succ])
   refine wpAnyH_take (i:=9) (v:=?vc10) rfl (by kernel_rfl) (by kernel_rfl) (by kernel_rfl) (fun _ _ _ h=>h) (Or.inl ⟨by rfl,?hyc10⟩) (by assumption) ?restc10
   case hyc10=>(intro w hSw; (try dsimp only at hSw); have hB1:=hSw.bits; rw [HMM.out] at hB1; have hB2:=hSw.six; go_simp; try with_reducible rfl)
   (try simp only [Act.put,List.getElem_toArray,List.getElem_cons_succ,List.getElem_cons_zero,List.setIfInBounds_toArray,List.set_cons_zero,List.set_cons_succ])
   refine wpAnyH_take (i:=10) (v:=?vc11) rfl (by kernel_rfl) (by kernel_rfl) (by kernel_rfl) (fun _ _ _ h=>h) (Or.inl ⟨by rfl,?hyc11⟩) (by assumption) ?restc11
   case hyc11=>(intro w hSw; (try dsimp only at hSw); have hB1:=hSw.bits; rw [HMM.out] at hB1; have hB2:=hSw.six; go_simp; try with_reducible rfl)
   (try simp only [Act.put,List.getElem_toArray,List.getElem_cons_succ,List.getElem_cons_zero,List.setIfInBounds_toArray,List.set_cons_zero,List.set_cons_succ])
   refine wpAnyH_take (i:=11) (v:=?vc12) rfl (by kernel_rfl) (by kernel_rfl) (by kernel_rfl) (fun _ _ _ h=>h) (Or.inl ⟨by rfl,?hyc12⟩) (by assumption) ?restc12
   case hyc12=>(intro w hSw; (try dsimp only at hSw); have hB1:=hSw.bits; rw [HMM.out] at hB1; have hB2:=hSw.six; go_simp; try with_reducible rfl)
   (try simp only [Act.put,List.getElem_toArray,List.getElem_cons_succ,List.getElem_cons_zero,List.setIfInBounds_toArray,List.set_cons_zero,List.set_cons_succ])
   refine wpAnyH_take (i:=12) (v:=?vc13) rfl (by kernel_rfl) (by kernel_rfl) (by kernel_rfl) (fun _ _ _ h=>h) (Or.inl ⟨by rfl,?hyc13⟩) (by assumption) ?restc13
   case hyc13=>(intro w hSw; (try dsimp only at hSw); have hB1:=hSw.bits; rw [HMM.out] at hB1; have hB2:=hSw.six; go_simp; try with_reducible rfl)
   (try simp only [Act.put,List.getElem_toArray,List.getElem_cons_succ,List.getElem_cons_zero,List.setIfInBounds_toArray,List.set_cons_zero,List.set_cons_succ])
   refine wpAnyH_take (i:=13) rfl (by kernel_rfl) (by kernel_rfl) (by kernel_rfl) (fun _ _ _ h=>h) (yieldsIf_load_mid (by rfl) 68 (.tmp 15) rfl w.heap.size 2 (by kernel_rfl) (n.a.map B8) _ (fun w' h=>h.rng) Tryz.underlying68 rfl HS23.out) (by assumption) ?_
   (try simp only [Act.put,List.getElem_toArray,List.getElem_cons_succ,List.getElem_cons_zero,List.setIfInBounds_toArray,List.set_cons_zero,List.set_cons_succ])
   refine wpAnyH_take (i:=14) (v:=?vc15) rfl (by kernel_rfl) (by kernel_rfl) (by kernel_rfl) (fun _ _ _ h=>h) (Or.inl ⟨by rfl,?hyc15⟩) (by assumption) ?restc15
   case hyc15=>(intro w hSw; (try dsimp only at hSw); have hB1:=hSw.bits; rw [HMM.out] at hB1; have hB2:=hSw.six; go_simp; try with_reducible rfl)
   (try simp only [Act.put,List.getElem_toArray,List.getElem_cons_succ,List.getElem_cons_zero,List.setIfInBounds_toArray,List.set_cons_zero,List.set_cons_succ])
   refine wpAnyH_take (i:=15) (v:=?vc16) rfl (by kernel_rfl) (by kernel_rfl) (by kernel_rfl) (fun _ _ _ h=>h) (Or.inl ⟨by rfl,?hyc16⟩) (by assumption) ?restc16
   case hyc16=>(intro w hSw; (try dsimp only at hSw); have hB1:=hSw.bits; rw [HMM.out] at hB1; have hB2:=hSw.six; go_simp; try with_reducible rfl)
   (try simp only [Act.put,List.getElem_toArray,List.getElem_cons_succ,List.getElem_cons_zero,List.setIfInBounds_toArray,List.set_cons_zero,List.set_cons_succ])
   refine wpAnyH_take (i:=17) (v:=?vc17) rfl (by kernel_rfl) (by kernel_rfl) (by kernel_rfl) (fun _ _ _ h=>h) (Or.inl ⟨by rfl,?hyc17⟩) (by assumption) ?restc17
   case hyc17=>(intro w hSw; (try dsimp only at hSw); have hB1:=hSw.bits; rw [HMM.out] at hB1; have hB2:=hSw.six; go_simp; try with_reducible rfl)
   (try simp only [Act.put,List.getElem_toArray,List.getElem_cons_succ,List.getElem_cons_zero,List.setIfInBounds_toArray,List.set_cons_zero,List.set_cons_succ])
   refine wpAnyH_take (i:=18) rfl (by kernel_rfl) (by kernel_rfl) (by kernel_rfl) (fun _ _ _ h=>h) (yieldsIf_load_mid (by rfl) 68 (.tmp 20) rfl w.heap.size 2 (by kernel_rfl) (n.a.map B8) _ (fun w' h=>h.rng) Tryz.underlying68 rfl HS23.out) (by assumption) ?_
   (try simp only [Act.put,List.getElem_toArray,List.getElem_cons_succ,List.getElem_cons_zero,List.setIfInBounds_toArray,List.set_cons_zero,List.set_cons_succ])
   refine wpAnyH_ready (rs:=[16]) (by kernel_rfl) (by simp) ?_
   refine AllReadyH.cons rfl (fun K hK=>?_) AllReadyH.nil
   go_simp
   go_wp2_with (go_at_call 178; refine (HF.out _).mono ?_; rintro e wn2 ⟨rfl,hb2⟩)
   refine hK.out _ _ ((by assumption : RS w n _).keep hb2) (fun hHeld=>?_)
   clear hK K
   (try simp only [Act.put,List.getElem_toArray,List.getElem_cons_succ,List.getElem_cons_zero,List.setIfInBounds_toArray,List.set_cons_zero,List.set_cons_succ])
   refine wpAnyH_take (i:=19) rfl (by kernel_rfl) (by kernel_rfl) (by kernel_rfl) (fun _ _ _ h=>h) (Or.inl ⟨by rfl,fun w' _=>exec_eqlA rfl rfl rfl HFL.out HA.out w'⟩) (by assumption) ?_
   (try simp only [Act.put,List.getElem_toArray,List.getElem_cons_succ,List.getElem_cons_zero,List.setIfInBounds_toArray,List.set_cons_zero,List.set_cons_succ])
   refine wpAnyH_take (i:=20) (v:=?vc21) rfl (by kernel_rfl) (by kernel_rfl) (by kernel_rfl) (fun _ _ _ h=>h) (Or.inl ⟨by rfl,?hyc21⟩) (by assumption) ?restc21
   case hyc21=>(intro w hSw; (try dsimp only at hSw); have hB1:=hSw.bits; rw [HMM.out] at hB1; have hB2:=hSw.six; go_simp; try with_reducible rfl)
   (try simp only [Act.put,List.getElem_toArray,List.getElem_cons_succ,List.getElem_cons_zero,List.setIfInBounds_toArray,List.set_cons_zero,List.set_cons_succ])
   refine wpAnyH_take (i:=21) (v:=?vc22) rfl (by kernel_rfl) (by kernel_rfl) (by kernel_rfl) (fun _ _ _ h=>h) (Or.inl ⟨by rfl,?hyc22⟩) (by assumption) ?restc22
   case hyc22=>(intro w hSw; (try dsimp only at hSw); have hB1:=hSw.bits; rw [HMM.out] at hB1; have hB2:=hSw.six; go_simp; try with_reducible rfl)
   (try simp only [Act.put,List.getElem_toArray,List.getElem_cons_succ,List.getElem_cons_zero,List.setIfInBounds_toArray,List.set_cons_zero,List.set_cons_succ])
   refine wpAnyH_done (by kernel_rfl) ?_ _
   refine NoPanic.normal ?_
   have hf:=(by assumption : RS w n wn2)
   go_wp2
   go_ret
   exact ⟨ret_bool HR.out.symm,hf.bel⟩
  ·rw [decide_eq_false (fun h=>hu h.2),Bool.false_and] at hR
   have HR:=Lib.hid hR
   clear hR
   go_enter Tryz.func134,Tryz.ntmps134
   go_wp2
   refine wp_region_noPanic ?_
   refine wp_region_held_drew (S:=(RS w n)) (by kernel_rfl) HST.out (fun hHeld=>?_)
   refine wpAnyH_take (i:=0) (v:=?vb1) rfl (by kernel_rfl) (by kernel_rfl) (by kernel_rfl) (fun _ _ _ h=>h) (Or.inl ⟨by rfl,?hyb1⟩) (by assumption) ?restb1
   case hyb1=>(intro w hSw; (try dsimp only at hSw); have hB1:=hSw.bits; have hB2:=hSw.six; have hB3 : ¬ n.bits≤sz:=(by omega); go_simp; try with_reducible rfl)
   (try simp only [Act.put,List.getElem_toArray,List.getElem_cons_succ,List.getElem_cons_zero,List.setIfInBounds_toArray,List.set_cons_zero,List.set_cons_succ])
   refine wpAnyH_take (i:=1) (v:=?vb2) rfl (by kernel_rfl) (by kernel_rfl) (by kernel_rfl) (fun _ _ _ h=>h) (Or.inl ⟨by rfl,?hyb2⟩) (by assumption) ?restb2
   case hyb2=>(intro w hSw; (try dsimp only at hSw); have hB1:=hSw.bits; have hB2:=hSw.six; have hB3 : ¬ n.bits≤sz:=(by omega); go_simp; try with_reducible rfl)
   (try simp only [Act.put,List.getElem_toArray,List.getElem_cons_succ,List.getElem_cons_zero,List.setIfInBounds_toArray,List.set_cons_zero,List.set_cons_succ])
   refine wpAnyH_take (i:=2) (v:=?vb3) rfl (by kernel_rfl) (by kernel_rfl) (by kernel_rfl) (fun _ _ _ h=>h) (Or.inl ⟨by rfl,?hyb3⟩) (by assumption) ?restb3
   case hyb3=>(intro w hSw; (try dsimp only at hSw); have hB1:=hSw.bits; have hB2:=hSw.six; have hB3 : ¬ n.bits≤sz:=(by omega); go_simp; try with_reducible rfl)
   (try simp only [Act.put,List.getElem_toArray,List.getElem_cons_succ,List.getElem_cons_zero,List.setIfInBounds_toArray,List.set_cons_zero,List.set_cons_succ])
   refine wpAnyH_take (i:=3) (v:=?vb4) rfl (by kernel_rfl) (by kernel_rfl) (by kernel_rfl) (fun _ _ _ h=>h) (Or.inl ⟨by rfl,?hyb4⟩) (by assumption) ?restb4
   case hyb4=>(intro w hSw; (try dsimp only at hSw); have hB1:=hSw.bits; have hB2:=hSw.six; have hB3 : ¬ n.bits≤sz:=(by omega); go_simp; try with_reducible rfl)
   (try simp only [Act.put,List.getElem_toArray,List.getElem_cons_succ,List.getElem_cons_zero,List.setIfInBounds_toArray,List.set_cons_zero,List.set_cons_succ])
   refine wpAnyH_take (i:=4) (v:=?vb5) rfl (by kernel_rfl) (by kernel_rfl) (by kernel_rfl) (fun _ _ _ h=>h) (Or.inl ⟨by rfl,?hyb5⟩) (by assumption) ?restb5
   case hyb5=>(intro w hSw; (try dsimp only at hSw); have hB1:=hSw.bits; have hB2:=hSw.six; have hB3 : ¬ n.bits≤sz:=(by omega); go_simp; try with_reducible rfl)
   (try simp only [Act.put,List.getElem_toArray,List.getElem_cons_succ,List.getElem_cons_zero,List.setIfInBounds_toArray,List.set_cons_zero,List.set_cons_succ])
   refine wpAnyH_take (i:=5) (v:=?vb6) rfl (by kernel_rfl) (by kernel_rfl) (by kernel_rfl) (fun _ _ _ h=>h) (Or.inl ⟨by rfl,?hyb6⟩) (by assumption) ?restb6
   case hyb6=>(intro w hSw; (try dsimp only at hSw); have hB1:=hSw.bits; have hB2:=hSw.six; have hB3 : ¬ n.bits≤sz:=(by omega); go_simp; try with_reducible rfl)
   (try simp only [Act.put,List.getElem_toArray,List.getElem_cons_succ,List.getElem_cons_zero,List.setIfInBounds_toArray,List.set_cons_zero,List.set_cons_succ])
   refine wpAnyH_take (i:=6) (v:=?vb7) rfl (by kernel_rfl) (by kernel_rfl) (by kernel_rfl) (fun _ _ _ h=>h) (Or.inl ⟨by rfl,?hyb7⟩) (by assumption) ?restb7
   case hyb7=>(intro w hSw; (try dsimp only at hSw); have hB1:=hSw.bits; have hB2:=hSw.six; have hB3 : ¬ n.bits≤sz:=(by omega); go_simp; try with_reducible rfl)
   (try simp only [Act.put,List.getElem_toArray,List.getElem_cons_succ,List.getElem_cons_zero,List.setIfInBounds_toArray,List.set_cons_zero,List.set_cons_succ])
   refine wpAnyH_take (i:=7) (v:=?vb8) rfl (by kernel_rfl) (by kernel_rfl) (by kernel_rfl) (fun _ _ _ h=>h) (Or.inl ⟨by rfl,?hyb8⟩) (by assumption) ?restb8
   case hyb8=>(intro w hSw; (try dsimp only at hSw); have hB1:=hSw.bits; have hB2:=hSw.six; have hB3 : ¬ n.bits≤sz:=(by omega); go_simp; try with_reducible rfl)
   (try simp only [Act.put,List.getElem_toArray,List.getElem_cons_succ,List.getElem_cons_zero,List.setIfInBounds_toArray,List.set_cons_zero,List.set_cons_succ])
   refine wpAnyH_ready (rs:=[8]) (by kernel_rfl) (by simp) ?_
   refine AllReadyH.cons rfl (fun K hK=>?_) AllReadyH.nil
   go_simp
   go_wp2_with (go_at_call 133; refine (HM.out _).mono ?_; rintro e wn1 ⟨rfl,rfl⟩)
   refine hK.out _ _ (by assumption) (fun hHeld=>?_)
   clear hK K
   (try simp only [Act.put,List.getElem_toArray,List.getElem_cons_succ,List.getElem_cons_zero,List.setIfInBounds_toArray,List.set_cons_zero,List.set_cons_succ])
   refine wpAnyH_take (i:=9) (v:=?vb10) rfl (by kernel_rfl) (by kernel_rfl) (by kernel_rfl) (fun _ _ _ h=>h) (Or.inl ⟨by rfl,?hyb10⟩) (by assumption) ?restb10
   case hyb10=>(intro w hSw; (try dsimp only at hSw); have hB1:=hSw.bits; have hB2:=hSw.six; have hB3 : ¬ n.bits≤sz:=(by omega); go_simp; try with_reducible rfl)
   (try simp only [Act.put,List.getElem_toArray,List.getElem_cons_succ,List.getElem_cons_zero,List.setIfInBounds_toArray,List.set_cons_zero,List.set_cons_succ])
   refine wpAnyH_take (i:=10) (v:=?vb11) rfl (by kernel_rfl) (by kernel_rfl) (by kernel_rfl) (fun _ _ _ h=>h) (Or.inl ⟨by rfl,?hyb11⟩) (by assumption) ?restb11
   case hyb11=>(intro w hSw; (try dsimp only at hSw); have hB1:=hSw.bits; have hB2:=hSw.six; have hB3 : ¬ n.bits≤sz:=(by omega); go_simp; try with_reducible rfl)
   (try simp only [Act.put,List.getElem_toArray,List.getElem_cons_succ,List.getElem_cons_zero,List.setIfInBounds_toArray,List.set_cons_zero,List.set_cons_succ])
   refine wpAnyH_take (i:=11) (v:=?vb12) rfl (by kernel_rfl) (by kernel_rfl) (by kernel_rfl) (fun _ _ _ h=>h) (Or.inl ⟨by rfl,?hyb12⟩) (by assumption) ?restb12
   case hyb12=>(intro w hSw; (try dsimp only at hSw); have hB1:=hSw.bits; have hB2:=hSw.six; have hB3 : ¬ n.bits≤sz:=(by omega); go_simp; try with_reducible rfl)
   (try simp only [Act.put,List.getElem_toArray,List.getElem_cons_succ,List.getElem_cons_zero,List.setIfInBounds_toArray,List.set_cons_zero,List.set_cons_succ])
   refine wpAnyH_take (i:=12) (v:=undef) rfl (by kernel_rfl) (by kernel_rfl) (by kernel_rfl) (fun _ _ _ h=>h) (Or.inr ⟨by rfl,rfl⟩) (by assumption) ?_
   (try simp only [Act.put,List.getElem_toArray,List.getElem_cons_succ,List.getElem_cons_zero,List.setIfInBounds_toArray,List.set_cons_zero,List.set_cons_succ])
   refine wpAnyH_take (i:=13) (v:=undef) rfl (by kernel_rfl) (by kernel_rfl) (by kernel_rfl) (fun _ _ _ h=>h) (Or.inr ⟨by rfl,rfl⟩) (by assumption) ?_
   (try simp only [Act.put,List.getElem_toArray,List.getElem_cons_succ,List.getElem_cons_zero,List.setIfInBounds_toArray,List.set_cons_zero,List.set_cons_succ])
   refine wpAnyH_take (i:=14) (v:=undef) rfl (by kernel_rfl) (by kernel_rfl) (by kernel_rfl) (fun _ _ _ h=>h) (Or.inr ⟨by rfl,rfl⟩) (by assumption) ?_
   (try simp only [Act.put,List.getElem_toArray,List.getElem_cons_succ,List.getElem_cons_zero,List.setIfInBounds_toArray,List.set_cons_zero,List.set_cons_succ])
   refine wpAnyH_take (i:=15) (v:=undef) rfl (by kernel_rfl) (by kernel_rfl) (by kernel_rfl) (fun _ _ _ h=>h) (Or.inr ⟨by rfl,rfl⟩) (by assumption) ?_
   (try simp only [Act.put,List.getElem_toArray,List.getElem_cons_succ,List.getElem_cons_zero,List.setIfInBounds_toArray,List.set_cons_zero,List.set_cons_succ])
   refine wpAnyH_take (i:=16) (v:=undef) rfl (by kernel_rfl) (by kernel_rfl) (by kernel_rfl) (fun _ _ _ h=>h) (Or.inr ⟨by rfl,rfl⟩) (by assumption) ?_
   (try simp only [Act.put,List.getElem_toArray,List.getElem_cons_succ,List.getElem_cons_zero,List.setIfInBounds_toArray,List.set_cons_zero,List.set_cons_succ])
   refine wpAnyH_take (i:=17) (v:=undef) rfl (by kernel_rfl) (by kernel_rfl) (by kernel_rfl) (fun _ _ _ h=>h) (Or.inr ⟨by rfl,rfl⟩) (by assumption) ?_
   (try simp only [Act.put,List.getElem_toArray,List.getElem_cons_succ,List.getElem_cons_zero,List.setIfInBounds_toArray,List.set_cons_zero,List.set_cons_succ])
   refine wpAnyH_take (i:=18) (v:=undef) rfl (by kernel_rfl) (by kernel_rfl) (by kernel_rfl) (fun _ _ _ h=>h) (Or.inr ⟨by rfl,rfl⟩) (by assumption) ?_
   (try simp only [Act.put,List.getElem_toArray,List.getElem_cons_succ,List.getElem_cons_zero,List.setIfInBounds_toArray,List.set_cons_zero,List.set_cons_succ])
   refine wpAnyH_take (i:=19) (v:=undef) rfl (by kernel_rfl) (by kernel_rfl) (by kernel_rfl) (fun _ _ _ h=>h) (Or.inr ⟨by rfl,rfl⟩) (by assumption) ?_
   (try simp only [Act.put,List.getElem_toArray,List.getElem_cons_succ,List.getElem_cons_zero,List.setIfInBounds_toArray,List.set_cons_zero,List.set_cons_succ])
   refine wpAnyH_take (i:=20) (v:=?vb21) rfl (by kernel_rfl) (by kernel_rfl) (by kernel_rfl) (fun _ _ _ h=>h) (Or.inl ⟨by rfl,?hyb21⟩) (by assumption) ?restb21
   case hyb21=>(intro w hSw; (try dsimp only at hSw); have hB1:=hSw.bits; have hB2:=hSw.six; have hB3 : ¬ n.bits≤sz:=(by omega); go_simp; try with_reducible rfl)
   (try simp only [Act.put,List.getElem_toArray,List.getElem_cons_succ,List.getElem_cons_zero,List.setIfInBounds_toArray,List.set_cons_zero,List.set_cons_succ])
   refine wpAnyH_take (i:=21) (v:=?vb22) rfl (by kernel_rfl) (by kernel_rfl) (by kernel_rfl) (fun _ _ _ h=>h) (Or.inl ⟨by rfl,?hyb22⟩) (by assumption) ?restb22
   case hyb22=>(intro w hSw; (try dsimp only at hSw); have hB1:=hSw.bits; have hB2:=hSw.six; have hB3 : ¬ n.bits≤sz:=(by omega); go_simp; try with_reducible rfl)
   (try simp only [Act.put,List.getElem_toArray,List.getElem_cons_succ,List.getElem_cons_zero,List.setIfInBounds_toArray,List.set_cons_zero,List.set_cons_succ])
   refine wpAnyH_done (by kernel_rfl) ?_ _
   refine NoPanic.normal ?_
   go_wp2
   go_ret
   exact ⟨ret_bool HR.out.symm,HST.out.bel⟩
 ·rw [decide_eq_false (fun h=>hl h.1),Bool.false_and] at hR
  have HR:=Lib.hid hR
  clear hR
  go_enter Tryz.func134,Tryz.ntmps134
  go_wp2
  refine wp_region_noPanic ?_
  refine wp_region_held_drew (S:=(RS w n)) (by kernel_rfl) HST.out (fun hHeld=>?_)
  refine wpAnyH_take (i:=0) (v:=?va1) rfl (by kernel_rfl) (by kernel_rfl) (by kernel_rfl) (fun _ _ _ h=>h) (Or.inl ⟨by rfl,?hya1⟩) (by assumption) ?resta1
  case hya1=>(intro w hSw; (try dsimp only at hSw); have hB1:=hSw.bits; have hB2:=hSw.six; have hB3 : ¬ (0 : Int)≤n.bits:=(by omega); go_simp; try with_reducible rfl)
  (try simp only [Act.put,List.getElem_toArray,List.getElem_cons_succ,List.getElem_cons_zero,List.setIfInBounds_toArray,List.set_cons_zero,List.set_cons_succ])
  refine wpAnyH_take (i:=1) (v:=?va2) rfl (by kernel_rfl) (by kernel_rfl) (by kernel_rfl) (fun _ _ _ h=>h) (Or.inl ⟨by rfl,?hya2⟩) (by assumption) ?resta2
  case hya2=>(intro w hSw; (try dsimp only at hSw); have hB1:=hSw.bits; have hB2:=hSw.six; have hB3 : ¬ (0 : Int)≤n.bits:=(by omega); go_simp; try with_reducible rfl)
  (try simp only [Act.put,List.getElem_toArray,List.getElem_cons_succ,List.getElem_cons_zero,List.setIfInBounds_toArray,List.set_cons_zero,List.set_cons_succ])
  refine wpAnyH_take (i:=2) (v:=?va3) rfl (by kernel_rfl) (by kernel_rfl) (by kernel_rfl) (fun _ _ _ h=>h) (Or.inl ⟨by rfl,?hya3⟩) (by assumption) ?resta3
  case hya3=>(intro w hSw; (try dsimp only at hSw); have hB1:=hSw.bits; have hB2:=hSw.six; have hB3 : ¬ (0 : Int)≤n.bits:=(by omega); go_simp; try with_reducible rfl)
  (try simp only [Act.put,List.getElem_toArray,List.getElem_cons_succ,List.getElem_cons_zero,List.setIfInBounds_toArray,List.set_cons_zero,List.set_cons_succ])
  refine wpAnyH_take (i:=3) (v:=?va4) rfl (by kernel_rfl) (by kernel_rfl) (by kernel_rfl) (fun _ _ _ h=>h) (Or.inl ⟨by rfl,?hya4⟩) (by assumption) ?resta4
  case hya4=>(intro w hSw; (try dsimp only at hSw); have hB1:=hSw.bits; have hB2:=hSw.six; have hB3 : ¬ (0 : Int)≤n.bits:=(by omega); go_simp; try with_reducible rfl)
  (try simp only [Act.put,List.getElem_toArray,List.getElem_cons_succ,List.getElem_cons_zero,List.setIfInBounds_toArray,List.set_cons_zero,List.set_cons_succ])
  refine wpAnyH_take (i:=4) (v:=undef) rfl (by kernel_rfl) (by kernel_rfl) (by kernel_rfl) (fun _ _ _ h=>h) (Or.inr ⟨by rfl,rfl⟩) (by assumption) ?_
  (try simp only [Act.put,List.getElem_toArray,List.getElem_cons_succ,List.getElem_cons_zero,List.setIfInBounds_toArray,List.set_cons_zero,List.set_cons_succ])
  refine wpAnyH_take (i:=5) (v:=undef) rfl (by kernel_rfl) (by kernel_rfl) (by kernel_rfl) (fun _ _ _ h=>h) (Or.inr ⟨by rfl,rfl⟩) (by assumption) ?_
  (try simp only [Act.put,List.getElem_toArray,List.getElem_cons_succ,List.getElem_cons_zero,List.setIfInBounds_toArray,List.set_cons_zero,List.set_cons_succ])
  refine wpAnyH_take (i:=6) (v:=undef) rfl (by kernel_rfl) (by kernel_rfl) (by kernel_rfl) (fun _ _ _ h=>h) (Or.inr ⟨by rfl,rfl⟩) (by assumption) ?_
  (try simp only [Act.put,List.getElem_toArray,List.getElem_cons_succ,List.getElem_cons_zero,List.setIfInBounds_toArray,List.set_cons_zero,List.set_cons_succ])
  refine wpAnyH_take (i:=7) (v:=undef) rfl (by kernel_rfl) (by kernel_rfl) (by kernel_rfl) (fun _ _ _ h=>h) (Or.inr ⟨by rfl,rfl⟩) (by assumption) ?_
  (try simp only [Act.put,List.getElem_toArray,List.getElem_cons_succ,List.getElem_cons_zero,List.setIfInBounds_toArray,List.set_cons_zero,List.set_cons_succ])
  refine wpAnyH_take (i:=8) (v:=undef) rfl (by kernel_rfl) (by kernel_rfl) (by kernel_rfl) (fun _ _ _ h=>h) (Or.inr ⟨by rfl,rfl⟩) (by assumption) ?_
  (try simp only [Act.put,List.getElem_toArray,List.getElem_cons_succ,List.getElem_cons_zero,List.setIfInBounds_toArray,List.set_cons_zero,List.set_cons_succ])
  refine wpAnyH_take (i:=9) (v:=undef) rfl (by kernel_rfl) (by kernel_rfl) (by kernel_rfl) (fun _ _ _ h=>h) (Or.inr ⟨by rfl,rfl⟩) (by assumption) ?_
  (try simp only [Act.put,List.getElem_toArray,List.getElem_cons_succ,List.getElem_cons_zero,List.setIfInBounds_toArray,List.set_cons_zero,List.set_cons_succ])
  refine wpAnyH_take (i:=10) (v:=?va11) rfl (by kernel_rfl) (by kernel_rfl) (by kernel_rfl) (fun _ _ _ h=>h) (Or.inl ⟨by rfl,?hya11⟩) (by assumption) ?resta11
  case hya11=>(intro w hSw; (try dsimp only at hSw); have hB1:=hSw.bits; have hB2:=hSw.six; have hB3 : ¬ (0 : Int)≤n.bits:=(by omega); go_simp; try with_reducible rfl)
  (try simp only [Act.put,List.getElem_toArray,List.getElem_cons_succ,List.getElem_cons_zero,List.setIfInBounds_toArray,List.set_cons_zero,List.set_cons_succ])
  refine wpAnyH_take (i:=11) (v:=?va12) rfl (by kernel_rfl) (by kernel_rfl) (by kernel_rfl) (fun _ _ _ h=>h) (Or.inl ⟨by rfl,?hya12⟩) (by assumption) ?resta12
  case hya12=>(intro w hSw; (try dsimp only at hSw); have hB1:=hSw.bits; have hB2:=hSw.six; have hB3 : ¬ (0 : Int)≤n.bits:=(by omega); go_simp; try with_reducible rfl)
  (try simp only [Act.put,List.getElem_toArray,List.getElem_cons_succ,List.getElem_cons_zero,List.setIfInBounds_toArray,List.set_cons_zero,List.set_cons_succ])
  refine wpAnyH_take (i:=12) (v:=undef) rfl (by kernel_rfl) (by kernel_rfl) (by kernel_rfl) (fun _ _ _ h=>h) (Or.inr ⟨by rfl,rfl⟩) (by assumption) ?_
  (try simp only [Act.put,List.getElem_toArray,List.getElem_cons_succ,List.getElem_cons_zero,List.setIfInBounds_toArray,List.set_cons_zero,List.set_cons_succ])
  refine wpAnyH_take (i:=13) (v:=undef) rfl (by kernel_rfl) (by kernel_rfl) (by kernel_rfl) (fun _ _ _ h=>h) (Or.inr ⟨by rfl,rfl⟩) (by assumption) ?_
  (try simp only [Act.put,List.getElem_toArray,List.getElem_cons_succ,List.getElem_cons_zero,List.setIfInBounds_toArray,List.set_cons_zero,List.set_cons_succ])
  refine wpAnyH_take (i:=14) (v:=undef) rfl (by kernel_rfl) (by kernel_rfl) (by kernel_rfl) (fun _ _ _ h=>h) (Or.inr ⟨by rfl,rfl⟩) (by assumption) ?_
  (try simp only [Act.put,List.getElem_toArray,List.getElem_cons_succ,List.getElem_cons_zero,List.setIfInBounds_toArray,List.set_cons_zero,List.set_cons_succ])
  refine wpAnyH_take (i:=15) (v:=undef) rfl (by kernel_rfl) (by kernel_rfl) (by kernel_rfl) (fun _ _ _ h=>h) (Or.inr ⟨by rfl,rfl⟩) (by assumption) ?_
  (try simp only [Act.put,List.getElem_toArray,List.getElem_cons_succ,List.getElem_cons_zero,List.setIfInBounds_toArray,List.set_cons_zero,List.set_cons_succ])
  refine wpAnyH_take (i:=16) (v:=undef) rfl (by kernel_rfl) (by kernel_rfl) (by kernel_rfl) (fun _ _ _ h=>h) (Or.inr ⟨by rfl,rfl⟩) (by assumption) ?_
  (try simp only [Act.put,List.getElem_toArray,List.getElem_cons_succ,List.getElem_cons_zero,List.setIfInBounds_toArray,List.set_cons_zero,List.set_cons_succ])
  refine wpAnyH_take (i:=17) (v:=undef) rfl (by kernel_rfl) (by kernel_rfl) (by kernel_rfl) (fun _ _ _ h=>h) (Or.inr ⟨by rfl,rfl⟩) (by assumption) ?_
  (try simp only [Act.put,List.getElem_toArray,List.getElem_cons_succ,List.getElem_cons_zero,List.setIfInBounds_toArray,List.set_cons_zero,List.set_cons_succ])
  refine wpAnyH_take (i:=18) (v:=undef) rfl (by kernel_rfl) (by kernel_rfl) (by kernel_rfl) (fun _ _ _ h=>h) (Or.inr ⟨by rfl,rfl⟩) (by assumption) ?_
  (try simp only [Act.put,List.getElem_toArray,List.getElem_cons_succ,List.getElem_cons_zero,List.setIfInBounds_toArray,List.set_cons_zero,List.set_cons_succ])
  refine wpAnyH_take (i:=19) (v:=undef) rfl (by kernel_rfl) (by kernel_rfl) (by kernel_rfl) (fun _ _ _ h=>h) (Or.inr ⟨by rfl,rfl⟩) (by assumption) ?_
  (try simp only [Act.put,List.getElem_toArray,List.getElem_cons_succ,List.getElem_cons_zero,List.setIfInBounds_toArray,List.set_cons_zero,List.set_cons_succ])
  refine wpAnyH_take (i:=20) (v:=?va21) rfl (by kernel_rfl) (by kernel_rfl) (by kernel_rfl) (fun _ _ _ h=>h) (Or.inl ⟨by rfl,?hya21⟩) (by assumption) ?resta21
  case hya21=>(intro w hSw; (try dsimp only at hSw); have hB1:=hSw.bits; have hB2:=hSw.six; have hB3 : ¬ (0 : Int)≤n.bits:=(by omega); go_simp; try with_reducible rfl)
  (try simp only [Act.put,List.getElem_toArray,List.getElem_cons_succ,List.getElem_cons_zero,List.setIfInBounds_toArray,List.set_cons_zero,List.set_cons_succ])
  refine wpAnyH_take (i:=21) (v:=?va22) rfl (by kernel_rfl) (by kernel_rfl) (by kernel_rfl) (fun _ _ _ h=>h) (Or.inl ⟨by rfl,?hya22⟩) (by assumption) ?resta22
  case hya22=>(intro w hSw; (try dsimp only at hSw); have hB1:=hSw.bits; have hB2:=hSw.six; have hB3 : ¬ (0 : Int)≤n.bits:=(by omega); go_simp; try with_reducible rfl)
  (try simp only [Act.put,List.getElem_toArray,List.getElem_cons_succ,List.getElem_cons_zero,List.setIfInBounds_toArray,List.set_cons_zero,List.set_cons_succ])
  refine wpAnyH_done (by kernel_rfl) ?_ _
  refine NoPanic.normal ?_
  go_wp2
  go_ret
  exact ⟨ret_bool HR.out.symm,HST.out.bel⟩
end Go.Proofs.YtghnopkgcgfcpaaGreatDoor.Cidr
