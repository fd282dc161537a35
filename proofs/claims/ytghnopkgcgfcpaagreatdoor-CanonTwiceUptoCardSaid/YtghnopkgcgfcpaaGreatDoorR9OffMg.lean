/-
  MERGED by mergefill.py: R9Off.
-/
import Derived.Test.YtghnopkgcgfcpaaGreatDoorR9CutMg
set_option maxHeartbeats 16000000
set_option maxRecDepth 100000
namespace Go.Proofs.YtghnopkgcgfcpaaGreatDoor.Path
open Go.RowKit Base
def adC (c : UInt8) : Bool:=decide (c.toNat=46) || atomC c
def qG (s : ByteArray) : Nat→Nat→List UInt8→List UInt8 × Nat
 | 0,_,_=>([],0)
 | n + 1,i,acc =>
  if i < s.size then
   if (s.data.toList.getD i 0).toNat=34 then (if acc=[] then ([],0) else (acc,i + 1))
   else if shownC (s.data.toList.getD i 0)=false then ([],0)
   else if (s.data.toList.getD i 0).toNat=92 then
    (if i + 1 < s.size∧shownC (s.data.toList.getD (i + 1) 0)=true then qG s n (i + 2) (acc++[s.data.toList.getD (i + 1) 0]) else ([],0))
   else qG s n (i + 1) (acc++[s.data.toList.getD i 0])
  else ([],0)
def offG (s : ByteArray) : ByteArray × Nat :=
 if 0 < s.size∧(s.data.toList.getD 0 0).toNat=34 then (⟨(qG s s.size 1 []).1.toArray⟩,(qG s s.size 1 []).2)
 else if dotB (s.extract 0 (rowN adC s 0))=true then (s.extract 0 (rowN adC s 0),rowN adC s 0) else (⟨#[]⟩,0)
theorem rOff1 (s : ByteArray) (w : World) (hs : s.size≤1000000000000) (hbr : ¬ (0 < s.size∧(s.data.toList.getD 0 0).toNat=34)) : Calls Tryz.prog 120 #[.string s] w fun e w'=>e=.returned (.tuple #[.string (offG s).1,.int .i64 ((offG s).2 : Int)])∧w'=w:=by
 obtain ⟨D,hD⟩ : ∃ D,D=offG s:=⟨_,rfl⟩
 rw [← hD]
 have HT : Hid (D=if dotB (s.extract 0 (rowN adC s 0))=true then (s.extract 0 (rowN adC s 0),rowN adC s 0) else (⟨#[]⟩,0)):=by
  show _=_; rw [hD]; unfold offG; rw [if_neg hbr]
 clear hD
 have HA:=Lib.hid rIsAtom
 have HDt:=Lib.hid (fun (k : Nat) w1=>rDotted (s.extract 0 k) w1 (by rw [ByteArray.size_extract]; omega))
 have HM : Hid (rowN adC s 0≤s.size):=by have:=row_le adC s 0 (Nat.zero_le _); show _≤_; omega
 have HR : Hid (∀ k (hk : k < s.size),k≤rowN adC s 0→(adC s[k]=true→k + 1≤rowN adC s 0)∧(adC s[k]=false→rowN adC s 0=k)):=fun k hk h=>row_at adC s hk h
 generalize rowN adC s 0=m at HT HM HR
 have hh : s.size=0∨∃ h : 0 < s.size,((s[0].toNat : Int) == 34)=false:=by
  by_cases h0 : 0 < s.size
  ·refine Or.inr ⟨h0,?_⟩
   rw [beq_eq_false_iff_ne]
   intro h
   refine hbr ⟨h0,?_⟩
   rw [str_get s 0 h0]; omega
  ·exact Or.inl (by omega)
 clear hbr
 rcases hh with h0 | ⟨h0,e0⟩
 case' inl=>have i0 : ¬ (0 : Int) < (s.size : Int):=by omega
 case' inr=>have i0 : (0 : Int) < (s.size : Int):=by omega
 all_goals
  go_enter Tryz.func120,Tryz.ntmps120
  go_wp2
  go_loop [7] (fun i=>∃ k : Nat,k≤s.size∧i=.int .i64 (k : Int)∧Hid (k≤m)) (fun i=>s.size - (intOf i).toNat)
  case atStart=>exact ⟨0,Nat.zero_le _,rfl,Nat.zero_le _⟩
  case round =>
   obtain ⟨k,hk,rfl,hkm⟩:=hrel
   clear i0
   try clear e0
   try clear h0
   have j0 : (0 : Int)≤(k : Int):=by omega
   have j3 : (k : Int)≤(s.size : Int):=by omega
   have HDk:=Lib.hid (HDt.out k)
   by_cases hlt : k < s.size
   ·have j1 : (k : Int) < (s.size : Int):=by omega
    obtain ⟨r1,r2⟩:=HR.out k hlt hkm.out
    have HA2:=Lib.hid (fun w1=>HA.out s[k] w1)
    have hq : adC s[k]=(decide (s[k].toNat=46) || atomC s[k]):=rfl
    generalize atomC s[k]=a at HA2 hq
    by_cases h6 : s[k].toNat=46
    ·have HN : Hid (k + 1≤m):=r1 (by rw [hq,decide_eq_true h6]; rfl)
     have e6 : ((s[k].toNat : Int) == 46)=true:=by rw [beq_iff_eq]; omega
     clear r1 r2 hkm hq h6
     go_wp2
     go_round
     case rel=>exact ⟨k + 1,by omega,by go_num,HN⟩
     case measure=>simp [intOf]; omega
    ·have e6 : ((s[k].toNat : Int) == 46)=false:=by rw [beq_eq_false_iff_ne]; omega
     cases a with
     | true =>
      have HN : Hid (k + 1≤m):=r1 (by rw [hq,Bool.or_true])
      clear r1 r2 hkm hq h6
      go_wp2_with (first | (go_at_call 94; refine (HA2.out _).mono ?_; rintro ee w1 ⟨rfl,rfl⟩; refine Hid.out ?_) | fail)
      refine Lib.hid ?_
      go_wp2
      go_round
      case rel=>exact ⟨k + 1,by omega,by go_num,HN⟩
      case measure=>simp [intOf]; omega
     | false =>
      have hm : m=k:=r2 (by rw [hq,decide_eq_false h6]; rfl)
      have HT2 : Hid (D=if dotB (s.extract 0 k)=true then (s.extract 0 k,k) else (⟨#[]⟩,0)):=by show _=_; rw [HT.out,hm]
      clear HT HR HM hkm r1 r2 hm hq h6
      generalize dotB (s.extract 0 k)=db at HDk HT2
      go_wp2_with (first | (go_at_call 94; refine (HA2.out _).mono ?_; rintro ee w1 ⟨rfl,rfl⟩; refine Hid.out ?_) | fail)
      refine Lib.hid ?_
      go_wp2_with (first | (go_at_call 62; refine (HDk.out _).mono ?_; rintro ee w1 ⟨rfl,rfl⟩; refine Hid.out ?_) | fail)
      refine Lib.hid ?_
      cases db with
      | true =>
       have HT3 : Hid (D=(s.extract 0 k,k)):=HT2.out
       go_wp2
       go_ret2
       rw [HT3.out]
       exact ⟨rfl,rfl⟩
      | false =>
       have HT3 : Hid (D=(⟨#[]⟩,0)):=HT2.out
       go_wp2
       go_ret2
       rw [HT3.out]
       exact ⟨rfl,rfl⟩
   ·have j1 : ¬ (k : Int) < (s.size : Int):=by omega
    have hm : m=k:=by have:=hkm.out; have:=HM.out; omega
    have HT2 : Hid (D=if dotB (s.extract 0 k)=true then (s.extract 0 k,k) else (⟨#[]⟩,0)):=by show _=_; rw [HT.out,hm]
    clear HT HR HM hkm hm
    generalize dotB (s.extract 0 k)=db at HDk HT2
    go_wp2_with (first | (go_at_call 62; refine (HDk.out _).mono ?_; rintro ee w1 ⟨rfl,rfl⟩; refine Hid.out ?_) | fail)
    refine Lib.hid ?_
    cases db with
    | true =>
     have HT3 : Hid (D=(s.extract 0 k,k)):=HT2.out
     go_wp2
     go_ret2
     rw [HT3.out]
     exact ⟨rfl,rfl⟩
    | false =>
     have HT3 : Hid (D=(⟨#[]⟩,0)):=HT2.out
     go_wp2
     go_ret2
     rw [HT3.out]
     exact ⟨rfl,rfl⟩
theorem shownC_no {c : UInt8} (h : shownC c=false) : c.toNat < 32∨126 < c.toNat:=by
 have:=of_decide_eq_false h; omega
theorem shownC_yes {c : UInt8} (h : shownC c=true) : 32≤c.toNat∧c.toNat≤126:=of_decide_eq_true h
theorem qG_end (s : ByteArray) (n i : Nat) (acc : List UInt8) (h : ¬ i < s.size) : qG s n i acc=([],0):=by
 cases n with
 | zero=>rfl
 | succ n=>rw [qG,if_neg h]
theorem rOff2 (s : ByteArray) (w : World) (hs : s.size≤1000000000000) (hbr : 0 < s.size∧(s.data.toList.getD 0 0).toNat=34) : Calls Tryz.prog 120 #[.string s] w fun e w'=>e=.returned (.tuple #[.string (offG s).1,.int .i64 ((offG s).2 : Int)])∧Below w.heap.size w w':=by
 obtain ⟨Q,hQ⟩ : ∃ Q,Q=qG s s.size 1 []:=⟨_,rfl⟩
 have e : offG s=(⟨Q.1.toArray⟩,Q.2):=by unfold offG; rw [if_pos hbr,← hQ]
 rw [e]
 have HQ:=Lib.hid hQ.symm
 have h0:=hbr.1
 have hc : s[0].toNat=34:=by rw [← str_get s 0 h0]; exact hbr.2
 have i0 : (0 : Int) < (s.size : Int):=by omega
 have e0 : ((s[0].toNat : Int) == 34)=true:=by rw [beq_iff_eq]; omega
 clear hQ e hbr hc
 go_enter Tryz.func120,Tryz.ntmps120
 go_wp2
 go_loopw [4,5] (fun ov iv wr=>∃ (n k : Nat) (acc : List UInt8),iv=.int .i64 (k : Int)∧1≤k∧k≤s.size∧s.size≤k + n∧Hid (Owns wr w.heap.size ov acc)∧Hid (Below w.heap.size w wr)∧acc.length≤k∧Hid (qG s n k acc=Q)) (fun _ iv _=>s.size - (intOf iv).toNat)
 case atStart=>exact ⟨s.size,1,[],rfl,Nat.le_refl _,h0,by omega,owns_nil _ _,Below.refl _ _,Nat.zero_le _,HQ⟩
 case round =>
  obtain ⟨n,k,acc,rfl,hk1,hk,hn,hown,hbel,hlen,hq⟩:=hrel
  clear HQ i0 e0
  by_cases hlt : k < s.size
  ·obtain ⟨n,rfl⟩ : ∃ m,n=m + 1:=⟨n - 1,by omega⟩
   have j0 : (0 : Int)≤(k : Int):=by omega
   have j1 : (k : Int) < (s.size : Int):=by omega
   have HS:=Lib.hid hq.out
   rw [qG,if_pos hlt,str_get s k hlt] at HS
   have hcb:=s[k].toNat_lt
   clear hq
   by_cases h34 : s[k].toNat=34
   ·have e4 : ((s[k].toNat : Int) == 34)=true:=by rw [beq_iff_eq]; omega
    rw [if_pos h34] at HS
    clear h34
    obtain ⟨va,vc,rfl⟩:=hown.out.reads.form
    have hcv:=conv_reads hown.out.reads
    by_cases ha : acc=[]
    ·have HT : Hid (Q=([],0)):=by show _=_; rw [← HS.out,if_pos ha]
     have hz : acc.length=0:=by rw [ha]; rfl
     have q0 : ((acc.length : Int) == 0)=true:=by rw [beq_iff_eq]; omega
     clear HS ha hcv
     go_wp2
     go_ret2
     rw [HT.out]
     exact ⟨rfl,hbel.out⟩
    ·have HT : Hid (Q=(acc,k + 1)):=by show _=_; rw [← HS.out,if_neg ha]
     have hz : acc.length ≠ 0:=fun h=>ha (List.eq_nil_of_length_eq_zero h)
     have q0 : ((acc.length : Int) == 0)=false:=by rw [beq_eq_false_iff_ne]; omega
     clear HS ha
     go_wp2
     go_ret2
     rw [HT.out]
     exact ⟨by go_num,hbel.out⟩
   ·have e4 : ((s[k].toNat : Int) == 34)=false:=by rw [beq_eq_false_iff_ne]; omega
    rw [if_neg h34] at HS
    cases hsh : shownC s[k] with
    | false =>
     have HT : Hid (Q=([],0)):=by show _=_; rw [← HS.out,if_pos hsh]
     have hr:=shownC_no hsh
     clear HS h34 hsh
     rcases hr with hr | hr
     case' inl=>have z1 : (s[k].toNat : Int) < 32:=by omega
     case' inr =>
      have z1 : ¬ (s[k].toNat : Int) < 32:=by omega
      have z2 : (126 : Int) < (s[k].toNat : Int):=by omega
     all_goals
      go_wp2
      go_ret2
      rw [HT.out]
      exact ⟨rfl,hbel.out⟩
    | true =>
     have hr:=shownC_yes hsh
     have z1 : ¬ (s[k].toNat : Int) < 32:=by omega
     have z2 : ¬ (126 : Int) < (s[k].toNat : Int):=by omega
     rw [if_neg (by rw [hsh]; decide)] at HS
     clear hsh hr
     by_cases h92 : s[k].toNat=92
     ·have e9 : ((s[k].toNat : Int) == 92)=true:=by rw [beq_iff_eq]; omega
      rw [if_pos h92] at HS
      clear h92 h34
      by_cases hk2 : k + 1 < s.size
      ·have j4 : (k : Int) + 1 < (s.size : Int):=by omega
       have j5 : ((k : Int) + 1 == (s.size : Int))=false:=by rw [beq_eq_false_iff_ne]; omega
       rw [str_get s (k + 1) hk2] at HS
       have hcb2:=s[k + 1].toNat_lt
       cases hsh : shownC s[k + 1] with
       | false =>
        have HT : Hid (Q=([],0)):=by show _=_; rw [← HS.out,if_neg (fun h=>by rw [hsh] at h; cases h.2)]
        have hr:=shownC_no hsh
        clear HS hsh
        rcases hr with hr | hr
        case' inl=>have z3 : (s[k + 1].toNat : Int) < 32:=by omega
        case' inr =>
         have z3 : ¬ (s[k + 1].toNat : Int) < 32:=by omega
         have z4 : (126 : Int) < (s[k + 1].toNat : Int):=by omega
        all_goals
         go_wp2
         go_ret2
         rw [HT.out]
         exact ⟨rfl,hbel.out⟩
       | true =>
        have HN : Hid (qG s n (k + 2) (acc++[s[k + 1]])=Q):=by show _=_; rw [← HS.out,if_pos ⟨hk2,hsh⟩]
        have hr:=shownC_yes hsh
        have z3 : ¬ (s[k + 1].toNat : Int) < 32:=by omega
        have z4 : ¬ (126 : Int) < (s[k + 1].toNat : Int):=by omega
        clear HS hsh hr
        obtain ⟨va,vc,rfl⟩:=hown.out.reads.form
        go_wp2_with (at_builtin; go_must (refine wp_append_reads _ rfl _ _ rfl w.heap.size _ _ acc [s[k + 1]] rfl rfl (hown.out.on (Below.alloc1 wr _)) (reads_one wr _ _ s[k + 1] rfl) (by simp; omega) (Nat.le_trans hbel.out.size (Below.alloc1 wr _).size) ?_); intro v4 w4 own4 b4; refine Hid.out ?_)
        refine Lib.hid ?_
        have HO4:=Lib.hid own4
        have HB4 : Hid (Below w.heap.size w w4):=(hbel.out.trans ((Below.alloc1 wr _).mono hbel.out.size)).trans b4
        clear own4 b4
        go_wp2
        go_roundw
        case rel=>exact ⟨n,k + 2,acc++[s[k + 1]],by go_num,by omega,by omega,by omega,HO4,HB4,by simp; omega,HN⟩
        case measure=>simp [intOf]; omega
      ·have j5 : ((k : Int) + 1 == (s.size : Int))=true:=by rw [beq_iff_eq]; omega
       have HT : Hid (Q=([],0)):=by show _=_; rw [← HS.out,if_neg (fun h=>hk2 h.1)]
       clear HS
       go_wp2
       go_ret2
       rw [HT.out]
       exact ⟨rfl,hbel.out⟩
     ·have e9 : ((s[k].toNat : Int) == 92)=false:=by rw [beq_eq_false_iff_ne]; omega
      have HN : Hid (qG s n (k + 1) (acc++[s[k]])=Q):=by show _=_; rw [← HS.out,if_neg h92]
      clear HS h92 h34
      obtain ⟨va,vc,rfl⟩:=hown.out.reads.form
      go_wp2_with (at_builtin; go_must (refine wp_append_reads _ rfl _ _ rfl w.heap.size _ _ acc [s[k]] rfl rfl (hown.out.on (Below.alloc1 wr _)) (reads_one wr _ _ s[k] rfl) (by simp; omega) (Nat.le_trans hbel.out.size (Below.alloc1 wr _).size) ?_); intro v4 w4 own4 b4; refine Hid.out ?_)
      refine Lib.hid ?_
      have HO4:=Lib.hid own4
      have HB4 : Hid (Below w.heap.size w w4):=(hbel.out.trans ((Below.alloc1 wr _).mono hbel.out.size)).trans b4
      clear own4 b4
      go_wp2
      go_roundw
      case rel=>exact ⟨n,k + 1,acc++[s[k]],by go_num,by omega,by omega,by omega,HO4,HB4,by simp; omega,HN⟩
      case measure=>simp [intOf]; omega
  ·have j1 : ¬ (k : Int) < (s.size : Int):=by omega
   have HT : Hid (Q=([],0)):=by show _=_; rw [← hq.out,qG_end s n k acc hlt]
   clear hq
   go_wp2
   go_ret2
   rw [HT.out]
   exact ⟨rfl,hbel.out⟩
theorem rOff (s : ByteArray) (w : World) (hs : s.size≤1000000000000) : Calls Tryz.prog 120 #[.string s] w fun e w'=>e=.returned (.tuple #[.string (offG s).1,.int .i64 ((offG s).2 : Int)])∧Below w.heap.size w w':=by
 by_cases h : 0 < s.size∧(s.data.toList.getD 0 0).toNat=34
 ·exact rOff2 s w hs h
 ·exact (rOff1 s w hs h).mono fun e w' h=>⟨h.1,by rw [h.2]; exact Below.refl _ _⟩
end Go.Proofs.YtghnopkgcgfcpaaGreatDoor.Path
