/-
  MERGED by mergefill.py: R9Box.
-/
import Derived.Test.YtghnopkgcgfcpaaGreatDoorR9L3Mg
import Derived.Test.YtghnopkgcgfcpaaGreatDoorR9RgtMg
import Derived.Test.YtghnopkgcgfcpaaGreatDoorR9DomMg
set_option maxHeartbeats 16000000
set_option maxRecDepth 100000
namespace Go.Proofs.YtghnopkgcgfcpaaGreatDoor.Path
open Go.RowKit Base
theorem post_back : tak litL (locF ⟨postB.toArray⟩)=(true,⟨false,⟨postB.toArray⟩,⟨#[]⟩,false⟩):=by kernel_rfl
theorem right_eq (p : PV) : rightR litL locF p=rightG p:=right_same p post_back
theorem quo_len (s : ByteArray) : ∀ (n k : Nat) (acc : List UInt8),s.size - k≤n→(quo s k acc).1=true→(quo s k acc).2.2.length + k≤acc.length + (quo s k acc).2.1
 | n,k,acc,h,ht=>by
  rw [quo_eq] at ht ⊢
  split at ht
  ·rename_i h1; rw [if_pos h1]; show acc.length + k≤acc.length + (k + 1); omega
  ·rename_i h1
   rw [if_neg h1]
   have hg:=stepQ_ge s k
   split at ht
   ·rename_i h2
    rw [if_pos h2]
    split at ht
    ·rename_i h3
     rw [if_pos h3]
     cases n with
     | zero=>omega
     | succ n =>
      have:=quo_len s n (stepQ s k + 1) _ (by omega) ht
      rw [List.length_append,List.length_singleton] at this; omega
    ·cases ht
   ·cases ht
theorem off_le {s : ByteArray} (h : (offG s).2 ≠ 0) : (offG s).1.size≤s.size∧(offG s).2≤s.size:=by
 rcases loc_off s with ⟨l1,l2,l3⟩ | ⟨_,l2⟩
 ·have hle:=(loc_le s 0 (Nat.zero_le _)).1
  rw [l2]
  refine ⟨?_,hle⟩
  show (loc s 0).2.2.size≤s.size
  unfold loc at l1 hle ⊢
  by_cases hq : hasB s 0 34=true
  ·rw [if_pos hq] at l1 hle ⊢
   have hl:=quo_len s s.size 1 [] (by omega) l1
   have hs : strQ (quo s (0 + 1) [])=(quo s 1 []).2.2:=by unfold strQ; exact if_pos l1
   rw [hs,← str_len]
   have hle : (quo s 1 []).2.1≤s.size:=hle
   show (quo s 1 []).2.2.length≤s.size
   rw [List.length_nil] at hl; omega
  ·rw [if_neg hq]
   show (strOf s 0 (dots atomC someB s 0)).size≤s.size
   unfold strOf
   split
   ·rw [ByteArray.size_extract]; omega
   ·exact Nat.zero_le _
 ·exact absurd l2 h
theorem cut_le (s : ByteArray) : (cutG s).1.size≤s.size∧(cutG s).2≤s.size:=by
 have hn:=row_leL notBr s 0 (Nat.zero_le _)
 have hd:=row_leL dnC s 0 (Nat.zero_le _)
 unfold cutG
 split
 ·split
  ·exact ⟨by rw [ByteArray.size_extract]; omega,by show rowN notBr s 0 + 1≤s.size; omega⟩
  ·exact ⟨Nat.zero_le _,Nat.zero_le _⟩
 ·exact ⟨by rw [ByteArray.size_extract]; omega,by show rowN dnC s 0≤s.size; omega⟩
theorem dom_le (s : ByteArray) : (domG s).1.size≤s.size + 50:=by
 unfold domG
 cases hl : litG s with
 | some f =>
  show f.size≤s.size + 50
  unfold litG at hl
  split at hl
  ·cases ha : Cidr.addrN (litU (s.extract 1 (s.size - 1))) with
   | none=>rw [ha] at hl; cases hl
   | some n =>
    rw [ha] at hl
    simp only [] at hl
    split at hl
    ·injection hl with hl
     have:=addr_short ha
     rw [← hl]; omega
    ·cases hl
  ·cases hl
 | none =>
  simp only []
  split
  ·split
   ·exact Nat.zero_le _
   ·show (Table.lower s.data.toList).toArray.size≤s.size + 50
    rw [List.size_toArray]
    show (s.data.toList.map Table.low1).length≤_
    rw [List.length_map,str_len]; omega
  ·exact Nat.zero_le _
theorem results_path3 {w : World} {fn : Func} {tmps : Array Value} {i j k b : Nat} {p : PV} {u v : Value} (hr : fn.results=#[ResultVar.cell i 26,ResultVar.tmp j,ResultVar.tmp k]) (h1 : tmps.getD i undef=.pointer (some ⟨b,0,none⟩)) (h2 : tmps.getD j undef=u) (h3 : tmps.getD k undef=v) (hat : PathAt w b p) :
  (results fn tmps).run Tryz.prog w=.ok (.tuple #[p.val,u,v]) w:=by
 have hl:=run_loadVar_row (P:=Tryz.prog) w b 26 26 p.cells.toArray (0,0) _ hat Tryz.underlying26 rfl (by kernel_rfl)
 unfold results
 rw [hr]
 rw [Array.getD_eq_getD_getElem?] at h1 h2 h3
 simp [h1,h2,h3,hl,asAddr,PV.val]
def MbEnd (w : World) (r : PV × Nat × Int) (e : Ending) (w' : World) : Prop:=e=.returned (.tuple #[r.1.val,.int .i64 (r.2.1 : Int),.int .i64 r.2.2])∧Below w.heap.size w w'
theorem rBox (s : ByteArray) (w : World) (hs : s.size≤900000000) : Calls Tryz.prog 80 #[.string s] w (MbEnd w (mbG s)):=by
 have C1:=Lib.hid (fun w1=>rOff s w1 (by omega))
 obtain ⟨D,hD⟩ : ∃ D,D=mbG s:=⟨_,rfl⟩
 rw [← hD]
 have hp:=(MapKept.heap_alloc w pathO).1
 have hp : PathAt (w.alloc pathO) w.heap.size PV.zero:=hp
 have HB0:=Below.alloc1 w pathO
 unfold pathO at hp HB0
 have HP0:=Lib.hid hp
 have HB0:=Lib.hid HB0
 clear hp
 by_cases h0 : (offG s).2=0
 ·have HT : Hid (D=(PV.zero,0,90)):=by show _=_; rw [hD]; unfold mbG; rw [if_pos h0]
  clear hD
  rw [h0] at C1
  generalize (offG s).1=l at C1
  go_enter Tryz.func80,Tryz.ntmps80
  go_wp2_with (first | (go_at_call 120; refine (C1.out _).mono ?_; rintro ee w1 ⟨rfl,hb⟩; refine Hid.out ?_) | fail)
  refine Lib.hid ?_
  have HB1:=Lib.hid (HB0.out.trans (hb.mono HB0.out.size))
  have p1:=HP0.out.on hb
  have HP1:=Lib.hid p1
  obtain ⟨c0,c1,c2,c3,f0,f1,f2,f3⟩:=four_cells p1
  clear hb p1
  go_wp2
  (try simp only [Exit.inBlock,Exit.then])
  refine bodyPost_ret (results_path3 Tryz.results80 rfl rfl rfl (path_four HP1.out PV.zero)) rfl ?_
  rw [HT.out]
  exact ⟨rfl,below_four _ (Nat.le_refl _) HB1.out _ _ _ _⟩
 ·obtain ⟨hol,hon⟩:=off_le h0
  by_cases hc : (offG s).2=s.size∨¬ (s.data.toList.getD (offG s).2 0).toNat=64
  ·have HT : Hid (D=if Table.lower (s.extract 0 (offG s).2).data.toList=postB then (⟨false,⟨postB.toArray⟩,⟨#[]⟩,false⟩,(offG s).2,0) else (PV.zero,0,90)):=by show _=_; rw [hD]; unfold mbG; rw [if_neg h0,if_pos hc]
   have C2:=Lib.hid (fun W=>Table.rLower (s.extract 0 (offG s).2) W (by rw [ByteArray.size_extract]; omega))
   unfold Table.LowEnd at C2
   clear hD
   generalize (offG s).1=l at C1
   generalize hn : (offG s).2=n at C1 C2 HT hc h0 hon
   clear hn hol
   generalize hL : Table.lower (s.extract 0 n).data.toList=lw at HT C2
   clear hL
   have q0 : ((n : Int) == 0)=false:=by rw [beq_eq_false_iff_ne]; omega
   have j0 : (0 : Int)≤(n : Int):=by omega
   have jl : (n : Int)≤(s.size : Int):=by omega
   have hcs : ((n : Int) == (s.size : Int))=true∨(((n : Int) == (s.size : Int))=false∧(n : Int) < (s.size : Int)∧∃ h : n < s.size,((s[n].toNat : Int) != 64)=true):=by
    rcases Nat.lt_or_ge n s.size with x | x
    ·right
     refine ⟨by rw [beq_eq_false_iff_ne]; omega,by omega,x,?_⟩
     rw [bne_iff_ne]
     rcases hc with h | h
     ·omega
     ·rw [str_get s n x] at h; omega
    ·left
     rw [beq_iff_eq]; omega
   clear hc
   rcases hcs with q1 | ⟨q1,q2,q4,q3⟩
   all_goals
    go_enter Tryz.func80,Tryz.ntmps80
    go_wp2_with (first | (go_at_call 120; refine (C1.out _).mono ?_; rintro ee w1 ⟨rfl,hb⟩; refine Hid.out ?_) | fail)
    refine Lib.hid ?_
    have HB1:=Lib.hid (HB0.out.trans (hb.mono HB0.out.size))
    have p1:=HP0.out.on hb
    have HP1:=Lib.hid p1
    clear hb p1
    go_wp2_with (first | (go_at_call 23; refine (C2.out _).mono ?_; rintro ee w2 ⟨rfl,hb⟩; refine Hid.out ?_) | fail)
    refine Lib.hid ?_
    have HB2:=Lib.hid (HB1.out.trans (hb.mono HB1.out.size))
    have HP2:=Lib.hid (HP1.out.on hb)
    obtain ⟨c0,c1,c2,c3,f0,f1,f2,f3⟩:=four_cells HP2.out
    clear hb
    by_cases hpo : lw=postB
    ·have HT2 : Hid (D=(⟨false,⟨lw.toArray⟩,⟨#[]⟩,false⟩,n,0)):=by show _=_; rw [HT.out,if_pos hpo,hpo]
     have hq : (lw == [112,111,115,116,109,97,115,116,101,114])=true:=by rw [beq_iff_eq]; exact hpo
     clear HT hpo
     go_wp2
     (try simp only [Exit.inBlock,Exit.then])
     refine bodyPost_ret (results_path3 Tryz.results80 rfl rfl rfl (path_four HP2.out ⟨false,⟨lw.toArray⟩,⟨#[]⟩,false⟩)) rfl ?_
     rw [HT2.out]
     exact ⟨rfl,below_four _ (Nat.le_refl _) HB2.out _ _ _ _⟩
    ·have HT2 : Hid (D=(PV.zero,0,90)):=by show _=_; rw [HT.out,if_neg hpo]
     have hq : (lw == [112,111,115,116,109,97,115,116,101,114])=false:=by rw [beq_eq_false_iff_ne]; exact hpo
     clear HT hpo
     go_wp2
     (try simp only [Exit.inBlock,Exit.then])
     refine bodyPost_ret (results_path3 Tryz.results80 rfl rfl rfl (path_four HP2.out PV.zero)) rfl ?_
     rw [HT2.out]
     exact ⟨rfl,below_four _ (Nat.le_refl _) HB2.out _ _ _ _⟩
  ·have hlt : (offG s).2 < s.size:=by
    rcases Nat.lt_or_ge (offG s).2 s.size with x | x
    ·exact x
    ·exact absurd (Or.inl (by omega)) hc
   have h64 : (s.data.toList.getD (offG s).2 0).toNat=64:=Decidable.not_not.1 (fun e=>hc (Or.inr e))
   have hDD : D=(⟨false,(offG s).1,(domG (cutG (s.extract ((offG s).2 + 1) s.size)).1).1,(domG (cutG (s.extract ((offG s).2 + 1) s.size)).1).2.1⟩,(offG s).2 + 1 + (cutG (s.extract ((offG s).2 + 1) s.size)).2,
     if (domG (cutG (s.extract ((offG s).2 + 1) s.size)).1).2.2=0 then rightG ⟨false,(offG s).1,(domG (cutG (s.extract ((offG s).2 + 1) s.size)).1).1,(domG (cutG (s.extract ((offG s).2 + 1) s.size)).1).2.1⟩ else (domG (cutG (s.extract ((offG s).2 + 1) s.size)).1).2.2):=by
    rw [hD]; unfold mbG; rw [if_neg h0,if_neg hc]
   rw [str_get s _ hlt] at h64
   clear hD hc
   generalize (offG s).1=l at C1 hDD hol
   generalize (offG s).2=n at C1 hDD h0 hon hlt h64
   have hts : (s.extract (n + 1) s.size).size≤s.size:=by rw [ByteArray.size_extract]; omega
   have C2:=Lib.hid (fun W=>rCut (s.extract (n + 1) s.size) W (by omega))
   obtain ⟨hk1,hk2⟩:=cut_le (s.extract (n + 1) s.size)
   replace hk1:=Nat.le_trans hk1 hts
   replace hk2:=Nat.le_trans hk2 hts
   generalize (cutG (s.extract (n + 1) s.size)).2=k at hDD C2 hk2
   generalize (cutG (s.extract (n + 1) s.size)).1=d at hDD C2 hk1
   have C3:=Lib.hid (fun W=>rDomain d W (by omega))
   have hdl:=dom_le d
   generalize domG d=r at hDD C3 hdl
   obtain ⟨dd,lit,code⟩:=r
   replace hdl : dd.size≤d.size + 50:=hdl
   have C3 : Hid (∀ W,Calls Tryz.prog 17 #[.string d] W fun e w'=>e=.returned (.tuple #[.string dd,.bool lit,.int .i64 code])∧Below W.heap.size W w'):=C3
   have hD2 : D=(⟨false,l,dd,lit⟩,n + 1 + k,if code=0 then rightG ⟨false,l,dd,lit⟩ else code):=hDD
   clear hDD
   have C4:=Lib.hid (fun W=>rRightG ⟨false,l,dd,lit⟩ W (by show l.size≤_; omega) (by show dd.size≤_; omega))
   generalize rightG ⟨false,l,dd,lit⟩=rg at hD2 C4
   have C4 : Hid (∀ W,Calls Tryz.prog 11 #[.agg #[.bool false,.string l,.string dd,.bool lit]] W fun e w'=>e=.returned (.int .i64 rg)∧Below W.heap.size W w'):=C4
   have q0 : ((n : Int) == 0)=false:=by rw [beq_eq_false_iff_ne]; omega
   have q1 : ((n : Int) == (s.size : Int))=false:=by rw [beq_eq_false_iff_ne]; omega
   have q2 : (n : Int) < (s.size : Int):=by omega
   have q3 : ((s[n].toNat : Int) != 64)=false:=by rw [bne_eq_false_iff_eq]; omega
   have j0 : (0 : Int)≤(n : Int):=by omega
   have j1 : (n : Int) + 1≤(s.size : Int):=by omega
   have j2 : (0 : Int)≤(k : Int):=by omega
   have HDD:=Lib.hid hD2
   have hn9 : n≤900000000:=by omega
   have hk9 : k≤900000000:=by omega
   clear h64 hD2 hol hon hk1 hk2 hdl hts h0
   go_enter Tryz.func80,Tryz.ntmps80
   go_wp2_with (first | (go_at_call 120; refine (C1.out _).mono ?_; rintro ee w1 ⟨rfl,hb⟩; refine Hid.out ?_) | fail)
   refine Lib.hid ?_
   have HB1:=Lib.hid (HB0.out.trans (hb.mono HB0.out.size))
   have HP1:=Lib.hid (HP0.out.on hb)
   clear hb
   go_wp2_with (first | (go_at_call 121; refine (C2.out _).mono ?_; rintro ee w2 ⟨rfl,rfl⟩; refine Hid.out ?_) | fail)
   refine Lib.hid ?_
   go_wp2_with (first | (go_at_call 17; refine (C3.out _).mono ?_; rintro ee w3 ⟨rfl,hb⟩; refine Hid.out ?_) | fail)
   refine Lib.hid ?_
   have HB3:=Lib.hid (HB1.out.trans (hb.mono HB1.out.size))
   have p3:=HP1.out.on hb
   have HP3:=Lib.hid p3
   have hlt3:=heap_lt p3
   have ne1 : ¬ w.heap.size=w3.heap.size:=by omega
   have ne2 : ¬ w3.heap.size=w.heap.size:=by omega
   obtain ⟨c0,c1,c2,c3,f0,f1,f2,f3⟩:=four_cells p3
   clear hb p3
   by_cases hc0 : code=0
   ·have HT : Hid (D=(⟨false,l,dd,lit⟩,n + 1 + k,rg)):=by show _=_; rw [HDD.out,if_pos hc0]
    subst hc0
    clear HDD
    go_wp2_with (first | (go_at_call 11; refine (C4.out _).mono ?_; rintro ee w4 ⟨rfl,hb⟩; refine Hid.out ?_) | fail)
    refine Lib.hid ?_
    have HB4 : Hid (Below w.heap.size w w4):=(below_step HB3.out (boxO false l dd lit)).trans (hb.mono (Nat.le_trans HB3.out.size (Below.alloc1 w3 _).size))
    have p4 : PathAt w4 w.heap.size PV.zero:=(path_alloc HP3.out (boxO false l dd lit)).on hb
    have p5 : PathAt w4 w3.heap.size ⟨false,l,dd,lit⟩:=(box_path w3 false l dd lit).on hb
    have HP4:=Lib.hid p4
    clear c0 c1 c2 c3 f0 f1 f2 f3
    obtain ⟨c0,c1,c2,c3,f0,f1,f2,f3⟩:=four_cells p4
    obtain ⟨d0,d1,d2,d3,e0,e1,e2,e3⟩:=four_cells p5
    clear hb p4 p5
    go_wp2
    (try simp only [Exit.inBlock,Exit.then])
    refine bodyPost_ret (results_path3 Tryz.results80 rfl rfl rfl (path_four HP4.out ⟨false,l,dd,lit⟩)) rfl ?_
    rw [HT.out]
    exact ⟨rfl,below_four _ (Nat.le_refl _) HB4.out _ _ _ _⟩
   ·have HT : Hid (D=(⟨false,l,dd,lit⟩,n + 1 + k,code)):=by show _=_; rw [HDD.out,if_neg hc0]
    have q5 : (code == 0)=false:=by rw [beq_eq_false_iff_ne]; exact hc0
    clear HDD hc0
    go_wp2
    (try simp only [Exit.inBlock,Exit.then])
    refine bodyPost_ret (results_path3 Tryz.results80 rfl rfl rfl (path_alloc (path_four HP3.out ⟨false,l,dd,lit⟩) _)) rfl ?_
    rw [HT.out]
    exact ⟨rfl,below_step (below_four _ (Nat.le_refl _) HB3.out _ _ _ _) _⟩
end Go.Proofs.YtghnopkgcgfcpaaGreatDoor.Path
