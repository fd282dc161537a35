/-
  MERGED by mergefill.py: R9Dot.
-/
import Derived.Test.YtghnopkgcgfcpaaGreatDoorR9NamMg
set_option maxHeartbeats 16000000
set_option maxRecDepth 100000
namespace Go.Proofs.YtghnopkgcgfcpaaGreatDoor.Path
open Go.RowKit Base
def chk (s : ByteArray) (i : Nat) : Bool :=
 if (s.data.toList.getD i 0).toNat=46 then decide (0 < i) && (decide (i + 1 < s.size) && decide (¬ (s.data.toList.getD (i - 1) 0).toNat=46)) else atomC (s.data.toList.getD i 0)
def dotB (s : ByteArray) : Bool:=decide (0 < s.size∧∀ i,i < s.size→chk s i=true)
theorem dotB_no {s : ByteArray} {k : Nat} (h : k < s.size) (hc : chk s k=false) : dotB s=false:=decide_eq_false fun ⟨_,h2⟩=>by rw [h2 k h] at hc; cases hc
theorem rDotted (s : ByteArray) (w : World) (hs : s.size≤4000000000000000000) : Calls Tryz.prog 62 #[.string s] w (AskEnd (dotB s) w):=by
 have HA:=Lib.hid rIsAtom
 have HO : Hid (dotB s=decide (0 < s.size∧∀ i,i < s.size→chk s i=true)):=rfl
 have HF : Hid (∀ k,k < s.size→chk s k=false→dotB s=false):=fun k h hc=>dotB_no h hc
 generalize dotB s=out at HO HF
 go_enter Tryz.func62,Tryz.ntmps62
 go_wp2
 go_loop [3] (fun i=>∃ k : Nat,k≤s.size∧i=.int .i64 (k : Int)∧Hid (∀ i,i < k→chk s i=true)) (fun i=>s.size - (intOf i).toNat)
 case atStart=>exact ⟨0,Nat.zero_le _,rfl,fun i hi=>absurd hi (Nat.not_lt_zero i)⟩
 case round =>
  obtain ⟨k,hk,rfl,hall⟩:=hrel
  by_cases hlt : k < s.size
  ·have i0 : (0 : Int)≤(k : Int):=by omega
   have i1 : (k : Int) < (s.size : Int):=by omega
   have HA2:=Lib.hid (fun w1=>HA.out s[k] w1)
   have HG : Hid ((s.data.toList.getD k 0)=s[k]):=str_get s k hlt
   have HX : Hid (chk s k=true→∀ i,i < k + 1→chk s i=true):=fun h i hi=>by
    by_cases he : i=k
    ·rw [he]; exact h
    ·exact hall.out i (by omega)
   by_cases hc : s[k].toNat=46
   ·have e : ((s[k].toNat : Int) == 46)=true:=by rw [beq_iff_eq]; omega
    have HC : Hid (chk s k=(decide (0 < k) && (decide (k + 1 < s.size) && decide (¬ (s.data.toList.getD (k - 1) 0).toNat=46)))):=by
     show _=_; unfold chk; rw [HG.out,if_pos hc]
    generalize atomC s[k]=a at HA2
    clear hall hc
    by_cases h0 : k=0
    ·have HT : Hid (out=false):=HF.out k hlt (by rw [HC.out,decide_eq_false (by omega)]; rfl)
     have j0 : ¬ (0 : Int) < (k : Int):=by omega
     clear HF HX HC h0
     go_wp2_with (first | (go_at_call 94; refine (HA2.out _).mono ?_; rintro ee w1 ⟨rfl,rfl⟩; refine Hid.out ?_) | fail)
     refine Lib.hid ?_
     go_wp2
     go_ret
     exact ⟨ret_bool HT.out.symm,rfl⟩
    ·have j0 : (0 : Int) < (k : Int):=by omega
     by_cases h1 : k + 1 < s.size
     ·have j1 : (k : Int) + 1 < (s.size : Int):=by omega
      have HG1 : Hid ((s.data.toList.getD (k - 1) 0)=s[k - 1]'(by omega)):=str_get s (k - 1) (by omega)
      by_cases h2 : (s[k - 1]'(by omega)).toNat=46
      ·have e2 : (((s[k - 1]'(by omega)).toNat : Int) != 46)=false:=by rw [bne_eq_false_iff_eq]; omega
       have HT : Hid (out=false):=HF.out k hlt (by rw [HC.out,HG1.out,decide_eq_false (p:=¬ (s[k - 1]'(by omega)).toNat=46) (fun h=>h h2)]; simp)
       clear HF HX HC h2
       go_wp2_with (first | (go_at_call 94; refine (HA2.out _).mono ?_; rintro ee w1 ⟨rfl,rfl⟩; refine Hid.out ?_) | fail)
       refine Lib.hid ?_
       go_wp2
       go_ret
       exact ⟨ret_bool HT.out.symm,rfl⟩
      ·have e2 : (((s[k - 1]'(by omega)).toNat : Int) != 46)=true:=by rw [bne_iff_ne]; omega
       have HT:=Lib.hid (HX.out (by rw [HC.out,HG1.out,decide_eq_true (by omega),decide_eq_true h1,decide_eq_true h2]; rfl))
       clear HF HX HC h2
       go_wp2_with (first | (go_at_call 94; refine (HA2.out _).mono ?_; rintro ee w1 ⟨rfl,rfl⟩; refine Hid.out ?_) | fail)
       refine Lib.hid ?_
       go_wp2
       go_round
       case rel=>exact ⟨k + 1,by omega,by go_num,HT⟩
       case measure=>simp [intOf]; omega
     ·have j1 : ¬ (k : Int) + 1 < (s.size : Int):=by omega
      have HT : Hid (out=false):=HF.out k hlt (by rw [HC.out,decide_eq_false h1]; simp)
      clear HF HX HC h1
      go_wp2_with (first | (go_at_call 94; refine (HA2.out _).mono ?_; rintro ee w1 ⟨rfl,rfl⟩; refine Hid.out ?_) | fail)
      refine Lib.hid ?_
      go_wp2
      go_ret
      exact ⟨ret_bool HT.out.symm,rfl⟩
   ·have e : ((s[k].toNat : Int) == 46)=false:=by rw [beq_eq_false_iff_ne]; omega
    have HC : Hid (chk s k=atomC s[k]):=by show _=_; unfold chk; rw [HG.out,if_neg hc]
    generalize atomC s[k]=a at HA2 HC
    clear hall hc
    cases a with
    | true =>
     have HT:=Lib.hid (HX.out HC.out)
     clear HF HX HC
     go_wp2_with (first | (go_at_call 94; refine (HA2.out _).mono ?_; rintro ee w1 ⟨rfl,rfl⟩; refine Hid.out ?_) | fail)
     refine Lib.hid ?_
     go_wp2
     go_round
     case rel=>exact ⟨k + 1,by omega,by go_num,HT⟩
     case measure=>simp [intOf]; omega
    | false =>
     have HT : Hid (out=false):=HF.out k hlt HC.out
     clear HF HX HC
     go_wp2_with (first | (go_at_call 94; refine (HA2.out _).mono ?_; rintro ee w1 ⟨rfl,rfl⟩; refine Hid.out ?_) | fail)
     refine Lib.hid ?_
     go_wp2
     go_ret
     exact ⟨ret_bool HT.out.symm,rfl⟩
  ·have i1 : ¬ (k : Int) < (s.size : Int):=by omega
   have HT : Hid (out=decide (0 < s.size)):=by
    show _=_
    rw [HO.out,Bool.eq_iff_iff,decide_eq_true_eq,decide_eq_true_eq]
    exact ⟨fun h=>h.1,fun h=>⟨h,fun i hi=>hall.out i (by omega)⟩⟩
   clear hall HO HF
   go_wp2
   go_ret
   refine ⟨ret_bool ?_,rfl⟩
   rw [HT.out]
end Go.Proofs.YtghnopkgcgfcpaaGreatDoor.Path
