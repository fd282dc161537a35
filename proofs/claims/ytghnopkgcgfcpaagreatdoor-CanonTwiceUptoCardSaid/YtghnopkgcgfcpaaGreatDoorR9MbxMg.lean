/-
  MERGED by mergefill.py: R9Mbx.
-/
import Derived.Test.YtghnopkgcgfcpaaGreatDoorR9BoxMg
set_option maxHeartbeats 16000000
set_option maxRecDepth 100000
namespace Go.Proofs.YtghnopkgcgfcpaaGreatDoor.Path
open Go.RowKit Base
theorem mb_le (s : ByteArray) : (mbG s).2.1≤s.size + s.size + 1:=by
 unfold mbG
 split
 ·exact Nat.zero_le _
 ·rename_i h0
  obtain ⟨h1,h2⟩:=off_le h0
  split
  ·split
   ·show (offG s).2≤_; omega
   ·exact Nat.zero_le _
  ·have h4:=(cut_le (s.extract ((offG s).2 + 1) s.size)).2
   rw [ByteArray.size_extract] at h4
   show (offG s).2 + 1 + (cutG (s.extract ((offG s).2 + 1) s.size)).2≤_
   omega
theorem rMbxG (s : ByteArray) (w : World) (hs : s.size≤900000000) : Calls Tryz.prog 49 #[.string s] w (MbxEnd w (boxG s)):=by
 obtain ⟨D,hD⟩ : ∃ D,D=boxG s:=⟨_,rfl⟩
 rw [← hD]
 by_cases h0 : s.size=0
 ·have HT : Hid (D=(⟨true,⟨#[]⟩,⟨#[]⟩,false⟩,0)):=by show _=_; rw [hD]; unfold boxG; rw [if_pos h0]
  obtain rfl:=str_empty h0
  have HP0 : Hid (PathAt (w.alloc pathO) w.heap.size PV.zero):=(MapKept.heap_alloc w pathO).1
  unfold pathO at HP0
  obtain ⟨d0,d1,d2,d3,e0,e1,e2,e3⟩:=four_cells HP0.out
  clear hD
  go_enter Tryz.func49,Tryz.ntmps49
  go_wp2
  (try simp only [Exit.inBlock,Exit.then])
  refine bodyPost_ret (results_path (p:=⟨true,⟨#[]⟩,⟨#[]⟩,false⟩) Tryz.results49 rfl rfl (MapKept.heap_alloc w _).1) rfl ?_
  rw [HT.out]
  exact ⟨rfl,Below.alloc1 w _⟩
 ·obtain ⟨hn1,hn2⟩:=str_ne h0
  have hD2 : D=if (mbG s).2.2=90∨¬ (mbG s).2.1=s.size then (PV.zero,90) else if ¬ (mbG s).2.2=0 then (PV.zero,(mbG s).2.2) else ((mbG s).1,0):=by rw [hD]; unfold boxG; rw [if_neg h0]
  have C1:=Lib.hid (fun W=>rBox s W hs)
  have hml:=mb_le s
  clear hD
  generalize mbG s=r at hD2 C1 hml
  obtain ⟨⟨n,l,d,t⟩,m,code⟩:=r
  have HT : Hid (D=if code=90∨¬ m=s.size then (PV.zero,90) else if ¬ code=0 then (PV.zero,code) else (⟨n,l,d,t⟩,0)):=hD2
  have C2 : Hid (∀ W,Calls Tryz.prog 80 #[.string s] W fun e w'=>e=.returned (.tuple #[.agg #[.bool n,.string l,.string d,.bool t],.int .i64 (m : Int),.int .i64 code])∧Below W.heap.size W w'):=C1
  have HP0 : Hid (PathAt (w.alloc pathO) w.heap.size PV.zero):=(MapKept.heap_alloc w pathO).1
  have HB0:=Lib.hid (Below.alloc1 w pathO)
  unfold pathO at HP0 HB0
  have hml : m≤s.size + s.size + 1:=hml
  have hm9 : m≤2000000000:=by omega
  clear hD2 C1 hml h0
  go_enter Tryz.func49,Tryz.ntmps49
  go_wp2_with (first | (go_at_call 80; refine (C2.out _).mono ?_; rintro ee w1 ⟨rfl,hb⟩; refine Hid.out ?_) | fail)
  refine Lib.hid ?_
  have HB1:=Lib.hid (HB0.out.trans (hb.mono HB0.out.size))
  have p1:=HP0.out.on hb
  have HP1:=Lib.hid p1
  have hlt1:=heap_lt p1
  have ne1 : ¬ w.heap.size=w1.heap.size:=by omega
  have ne2 : ¬ w1.heap.size=w.heap.size:=by omega
  obtain ⟨c0,c1,c2,c3,f0,f1,f2,f3⟩:=four_cells p1
  clear hb p1 C2
  have hcase : (((code == 90)=true)∨((code == 90)=false∧((m : Int) != (s.size : Int))=true))∨((code == 90)=false∧((m : Int) != (s.size : Int))=false):=by
   cases (code == 90) <;> cases ((m : Int) != (s.size : Int)) <;> simp
  rcases hcase with (q | ⟨q,qm⟩) | ⟨q,qm⟩
  ·have HT2 : Hid (D=(PV.zero,90)):=by show _=_; rw [HT.out,if_pos (Or.inl (by rw [beq_iff_eq] at q; exact q))]
   clear HT
   go_wp2
   (try simp only [Exit.inBlock,Exit.then])
   refine bodyPost_ret (results_path Tryz.results49 rfl rfl (path_alloc (path_four HP1.out PV.zero) _)) rfl ?_
   rw [HT2.out]
   exact ⟨rfl,below_step (below_four _ (Nat.le_refl _) HB1.out _ _ _ _) _⟩
  ·have HT2 : Hid (D=(PV.zero,90)):=by show _=_; rw [HT.out,if_pos (Or.inr (by rw [bne_iff_ne] at qm; omega))]
   clear HT
   go_wp2
   (try simp only [Exit.inBlock,Exit.then])
   refine bodyPost_ret (results_path Tryz.results49 rfl rfl (path_alloc (path_four HP1.out PV.zero) _)) rfl ?_
   rw [HT2.out]
   exact ⟨rfl,below_step (below_four _ (Nat.le_refl _) HB1.out _ _ _ _) _⟩
  ·have HT1 : Hid (D=if ¬ code=0 then (PV.zero,code) else (⟨n,l,d,t⟩,0)):=by
    show _=_
    rw [HT.out,if_neg (fun h=>by
     rcases h with h | h
     ·rw [h] at q; exact absurd q (by decide)
     ·rw [bne_eq_false_iff_eq] at qm; omega)]
   clear HT
   by_cases hc : code=0
   ·subst hc
    have HT2 : Hid (D=(⟨n,l,d,t⟩,0)):=HT1.out
    clear HT1
    go_wp2
    (try simp only [Exit.inBlock,Exit.then])
    refine bodyPost_ret (results_path Tryz.results49 rfl rfl (path_alloc (path_four HP1.out ⟨n,l,d,t⟩) _)) rfl ?_
    rw [HT2.out]
    exact ⟨rfl,below_step (below_four _ (Nat.le_refl _) HB1.out _ _ _ _) _⟩
   ·have HT2 : Hid (D=(PV.zero,code)):=by show _=_; rw [HT1.out,if_pos hc]
    have q2 : (code != 0)=true:=by rw [bne_iff_ne]; exact hc
    clear hc HT1
    go_wp2
    (try simp only [Exit.inBlock,Exit.then])
    refine bodyPost_ret (results_path Tryz.results49 rfl rfl (path_alloc (path_four HP1.out PV.zero) _)) rfl ?_
    rw [HT2.out]
    exact ⟨rfl,below_step (below_four _ (Nat.le_refl _) HB1.out _ _ _ _) _⟩
end Go.Proofs.YtghnopkgcgfcpaaGreatDoor.Path
