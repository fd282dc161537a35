/-
  MERGED by mergefill.py: R9Nam.
-/
import Derived.Test.YtghnopkgcgfcpaaGreatDoorR9AtmMg
import Derived.Test.YtghnopkgcgfcpaaGreatDoorPthSmMg
set_option maxHeartbeats 16000000
set_option maxRecDepth 100000
namespace Go.Proofs.YtghnopkgcgfcpaaGreatDoor.Path
open Go.RowKit Base
theorem nameC_eq (c : UInt8) : nameC c=((letR c || digR c) || decide (c.toNat=45)):=by
 unfold nameC; rw [ldC_eq]
def labB (l : List UInt8) : Bool:=l.all nameC && labelB l
theorem rLabel (s : ByteArray) (w : World) (hs : s.size≤9000000000000000000) : Calls Tryz.prog 61 #[.string s] w (AskEnd (labB s.data.toList) w):=by
 have HL:=Lib.hid rLetter
 have HD:=Lib.hid rDigit
 have HO : Hid (labB s.data.toList=(s.data.toList.all nameC && labelB s.data.toList)):=rfl
 have HLen:=Lib.hid (str_len s)
 generalize labB s.data.toList=out at HO
 go_enter Tryz.func61,Tryz.ntmps61
 go_wp2
 go_loop [3] (fun i=>∃ k : Nat,k≤s.size∧i=.int .i64 k∧Hid ((s.data.toList.take k).all nameC=true)) (fun i=>s.size - (intOf i).toNat)
 case atStart=>exact ⟨0,Nat.zero_le _,rfl,rfl⟩
 case round =>
  obtain ⟨k,hk,rfl,hall⟩:=hrel
  by_cases hlt : k < s.size
  ·have i0 : (0 : Int)≤(k : Int):=by omega
   have i1 : (k : Int) < (s.size : Int):=by omega
   have HS : Hid ((s.data.toList.take (k + 1)).all nameC=nameC s[k]):=by
    show _=_
    rw [all_take (by rw [HLen.out]; exact hlt),str_get s k hlt,hall.out]; rfl
   have HF : Hid (nameC s[k]=false→out=false):=fun h=>by
    rw [HO.out,all_not (k:=k) (by rw [HLen.out]; exact hlt) nameC (by rw [str_get s k hlt]; exact h)]; rfl
   have HN:=Lib.hid (nameC_eq s[k])
   have HL2:=Lib.hid (fun w1=>HL.out s[k] w1)
   have HD2:=Lib.hid (fun w1=>HD.out s[k] w1)
   generalize letR s[k]=a at HL2 HN
   generalize digR s[k]=d at HD2 HN
   clear hall
   cases a with
   | true =>
    have HT : Hid ((s.data.toList.take (k + 1)).all nameC=true):=by show _=_; rw [HS.out,HN.out]; rfl
    clear HN HF HS
    go_wp2_with (first | (go_at_call 92; refine (HL2.out _).mono ?_; rintro ee w1 ⟨rfl,rfl⟩; refine Hid.out ?_) | fail)
    refine Lib.hid ?_
    go_wp2
    go_round
    case rel=>exact ⟨k + 1,by omega,by go_num,HT⟩
    case measure=>simp [intOf]; omega
   | false =>
    cases d with
    | true =>
     have HT : Hid ((s.data.toList.take (k + 1)).all nameC=true):=by show _=_; rw [HS.out,HN.out]; rfl
     clear HN HF HS
     go_wp2_with (first | (go_at_call 92; refine (HL2.out _).mono ?_; rintro ee w1 ⟨rfl,rfl⟩; refine Hid.out ?_) | fail)
     refine Lib.hid ?_
     go_wp2_with (first | (go_at_call 93; refine (HD2.out _).mono ?_; rintro ee w1 ⟨rfl,rfl⟩; refine Hid.out ?_) | fail)
     refine Lib.hid ?_
     go_wp2
     go_round
     case rel=>exact ⟨k + 1,by omega,by go_num,HT⟩
     case measure=>simp [intOf]; omega
    | false =>
     by_cases hc : s[k].toNat=45
     ·have HT : Hid ((s.data.toList.take (k + 1)).all nameC=true):=by show _=_; rw [HS.out,HN.out,decide_eq_true hc]; rfl
      have e : ((s[k].toNat : Int) == 45)=true:=by rw [beq_iff_eq]; omega
      clear HN HF HS hc
      go_wp2_with (first | (go_at_call 92; refine (HL2.out _).mono ?_; rintro ee w1 ⟨rfl,rfl⟩; refine Hid.out ?_) | fail)
      refine Lib.hid ?_
      go_wp2_with (first | (go_at_call 93; refine (HD2.out _).mono ?_; rintro ee w1 ⟨rfl,rfl⟩; refine Hid.out ?_) | fail)
      refine Lib.hid ?_
      go_wp2
      go_round
      case rel=>exact ⟨k + 1,by omega,by go_num,HT⟩
      case measure=>simp [intOf]; omega
     ·have HT : Hid (out=false):=HF.out (by rw [HN.out,decide_eq_false hc]; rfl)
      have e : ((s[k].toNat : Int) == 45)=false:=by rw [beq_eq_false_iff_ne]; omega
      clear HN HF HS hc
      go_wp2_with (first | (go_at_call 92; refine (HL2.out _).mono ?_; rintro ee w1 ⟨rfl,rfl⟩; refine Hid.out ?_) | fail)
      refine Lib.hid ?_
      go_wp2_with (first | (go_at_call 93; refine (HD2.out _).mono ?_; rintro ee w1 ⟨rfl,rfl⟩; refine Hid.out ?_) | fail)
      refine Lib.hid ?_
      go_wp2
      go_ret
      exact ⟨ret_bool HT.out.symm,rfl⟩
  ·have hA : s.data.toList.all nameC=true:=by
    have:=hall.out
    rwa [List.take_of_length_le (by rw [HLen.out]; omega)] at this
   have HO2 : Hid (out=(decide (1≤s.size∧s.size≤63) && (decide (¬ (s.data.toList.getD 0 0).toNat=45) && decide (¬ (s.data.toList.getD (s.size - 1) 0).toNat=45)))):=by
    show _=_; rw [HO.out,hA]; unfold labelB; rw [HLen.out]; rfl
   have i1 : ¬ (k : Int) < (s.size : Int):=by omega
   clear hall HO hA
   by_cases h0 : s.size=0
   ·have HT : Hid (out=false):=by show _=_; rw [HO2.out,decide_eq_false (by omega)]; rfl
    have i2 : ¬ (1 : Int)≤(s.size : Int):=by omega
    clear HO2
    go_wp2
    go_ret
    exact ⟨ret_bool HT.out.symm,rfl⟩
   ·have i2 : (0 : Int) < (s.size : Int):=by omega
    have i3 : (1 : Int)≤(s.size : Int):=by omega
    have HG0 : Hid ((s.data.toList.getD 0 0)=s[0]'(by omega)):=str_get s 0 (by omega)
    have HG1 : Hid ((s.data.toList.getD (s.size - 1) 0)=s[s.size - 1]'(by omega)):=str_get s (s.size - 1) (by omega)
    go_wp2
    ·go_ret
     refine ⟨ret_bool ?_,rfl⟩
     rw [HO2.out,HG0.out,HG1.out]
     have e : (s[0]'(by omega)).toNat=45:=by omega
     rw [e]; simp
    ·go_ret
     refine ⟨ret_bool ?_,rfl⟩
     rw [HO2.out,HG0.out,HG1.out,decide_eq_true (show 1≤s.size∧s.size≤63 by omega),Bool.true_and]
     rw [← intne,← intne]; rfl
    ·go_ret
     refine ⟨ret_bool ?_,rfl⟩
     rw [HO2.out,decide_eq_false (by omega)]; rfl
def noDot (c : UInt8) : Bool:=decide (c.toNat ≠ 46)
def nmF (s : ByteArray) : Nat→Nat→Bool
 | 0,_=>false
 | n + 1,k=>labB (s.extract k (k + rowN noDot s k)).data.toList && (if k + rowN noDot s k < s.size then nmF s n (k + rowN noDot s k + 1) else true)
def nmB (s : ByteArray) : Bool:=nmF s (s.size + 1) 0
def NmS (s : ByteArray) (out : Bool) (b i : Nat) : Prop:=(i=s.size + 1∧out=true)∨(i≤s.size∧b≤i∧i≤b + rowN noDot s b∧∃ n,s.size < b + n∧nmF s n b=out)
theorem row_stop (q : UInt8→Bool) (s : ByteArray) (k : Nat) (h : k + rowN q s k < s.size) : q s[k + rowN q s k]=false:=by
 obtain ⟨n,hn⟩ : ∃ n,n=s.size - k:=⟨_,rfl⟩
 induction n generalizing k with
 | zero=>omega
 | succ n ih =>
  have hk : k < s.size:=by omega
  have e:=row_step q s k hk
  cases hq : q s[k] with
  | false =>
   rw [hq] at e
   have e0 : rowN q s k=0:=by simpa using e
   have : k + rowN q s k=k:=by omega
   simp only [this]; exact hq
  | true =>
   rw [hq] at e
   have e1 : rowN q s k=rowN q s (k + 1) + 1:=by simpa using e
   have : k + rowN q s k=k + 1 + rowN q s (k + 1):=by omega
   simp only [this]
   exact ih (k + 1) (by omega) (by omega)
theorem noDot_row (s : ByteArray) {b k : Nat} (hb : b≤k) (hk : k < s.size) (h : k < b + rowN noDot s b) : ¬ s[k].toNat=46:=by
 have:=row_all noDot s (k - b) b (by omega) (by omega)
 rw [show b + (k - b)=k by omega,str_get s k hk] at this
 exact of_decide_eq_true this
theorem rName (s : ByteArray) (w : World) (hs : s.size≤4000000000000000000) : Calls Tryz.prog 26 #[.string s] w (AskEnd (nmB s) w):=by
 have HC : Hid (∀ (b k : Nat) (w1 : World),Calls Tryz.prog 61 #[.string (s.extract b k)] w1 (AskEnd (labB (s.extract b k).data.toList) w1)):=fun b k w1=>rLabel (s.extract b k) w1 (by rw [ByteArray.size_extract]; omega)
 have HO : Hid (nmF s (s.size + 1) 0=nmB s):=rfl
 generalize nmB s=out at HO
 go_enter Tryz.func26,Tryz.ntmps26
 go_wp2
 go_loop [3,4] (fun f i=>∃ b k : Nat,f=.int .i64 (b : Int)∧i=.int .i64 (k : Int)∧b≤s.size + 1∧k≤s.size + 1∧Hid (NmS s out b k)) (fun _ i=>s.size + 1 - (intOf i).toNat)
 case atStart=>exact ⟨0,0,rfl,rfl,by omega,by omega,Or.inr ⟨by omega,Nat.le_refl _,by omega,s.size + 1,by omega,HO.out⟩⟩
 case round =>
  obtain ⟨b,k,rfl,rfl,hb,hk,hst⟩:=hrel
  rcases hst.out with ⟨he,ht⟩ | ⟨hk2,hbk,hrow,n,hn,hd⟩
  ·have HT : Hid (out=true):=ht
   have i1 : ¬ (k : Int)≤(s.size : Int):=by omega
   clear hst ht
   go_wp2
   go_ret
   exact ⟨ret_bool HT.out.symm,rfl⟩
  ·have i0 : (0 : Int)≤(k : Int):=by omega
   have i1 : (k : Int)≤(s.size : Int):=by omega
   have j0 : (0 : Int)≤(b : Int):=by omega
   have j1 : (b : Int)≤(k : Int):=by omega
   obtain ⟨n,rfl⟩ : ∃ m,n=m + 1:=⟨n - 1,by omega⟩
   have hm:=row_le noDot s b (by omega)
   by_cases hlt : k < s.size
   ·have i2 : (k : Int) < (s.size : Int):=by omega
    by_cases hc : s[k].toNat=46
    ·have e : ((s[k].toNat : Int) != 46)=false:=by rw [bne_eq_false_iff_eq]; omega
     have hmk : b + rowN noDot s b=k:=by
      by_cases hx : k < b + rowN noDot s b
      ·exact absurd hc (noDot_row s hbk hlt hx)
      ·omega
     have HS : Hid (out=(labB (s.extract b k).data.toList && nmF s n (k + 1))):=by
      show _=_; rw [← hd,nmF,hmk,if_pos hlt]
     have HC2:=Lib.hid (HC.out b k)
     generalize labB (s.extract b k).data.toList=lb at HS HC2
     clear hst hd hc hmk
     cases lb with
     | true =>
      have HN : Hid (NmS s out (k + 1) (k + 1)):=Or.inr ⟨by omega,Nat.le_refl _,by omega,n,by omega,HS.out.symm⟩
      go_wp2_with (first | (go_at_call 61; refine (HC2.out _).mono ?_; rintro ee w1 ⟨rfl,rfl⟩; refine Hid.out ?_) | fail)
      refine Lib.hid ?_
      go_wp2
      go_round
      case rel=>exact ⟨k + 1,k + 1,by go_num,by go_num,by omega,by omega,HN⟩
      case measure=>simp [intOf]; omega
     | false =>
      have HT : Hid (out=false):=HS.out
      go_wp2_with (first | (go_at_call 61; refine (HC2.out _).mono ?_; rintro ee w1 ⟨rfl,rfl⟩; refine Hid.out ?_) | fail)
      refine Lib.hid ?_
      go_wp2
      go_ret
      exact ⟨ret_bool HT.out.symm,rfl⟩
    ·have e : ((s[k].toNat : Int) != 46)=true:=by rw [bne_iff_ne]; omega
     have HN : Hid (NmS s out b (k + 1)):=by
      refine Or.inr ⟨by omega,by omega,?_,n + 1,hn,hd⟩
      by_cases hx : k < b + rowN noDot s b
      ·omega
      ·exfalso
       have hmk : b + rowN noDot s b=k:=by omega
       have:=row_stop noDot s b (by omega)
       simp only [hmk] at this
       exact absurd (of_decide_eq_false this) (by simpa using hc)
     clear hst hd hc
     go_wp2
     go_round
     case rel=>exact ⟨b,k + 1,rfl,by go_num,by omega,by omega,HN⟩
     case measure=>simp [intOf]; omega
   ·have i2 : ¬ (k : Int) < (s.size : Int):=by omega
    have hmk : b + rowN noDot s b=k:=by omega
    have HS : Hid (out=(labB (s.extract b k).data.toList && true)):=by
     show _=_; rw [← hd,nmF,hmk,if_neg hlt]
    have HC2:=Lib.hid (HC.out b k)
    generalize labB (s.extract b k).data.toList=lb at HS HC2
    clear hst hd hmk
    cases lb with
    | true =>
     have HN : Hid (NmS s out (k + 1) (k + 1)):=Or.inl ⟨by omega,HS.out⟩
     go_wp2_with (first | (go_at_call 61; refine (HC2.out _).mono ?_; rintro ee w1 ⟨rfl,rfl⟩; refine Hid.out ?_) | fail)
     refine Lib.hid ?_
     go_wp2
     go_round
     case rel=>exact ⟨k + 1,k + 1,by go_num,by go_num,by omega,by omega,HN⟩
     case measure=>simp [intOf]; omega
    | false =>
     have HT : Hid (out=false):=HS.out
     go_wp2_with (first | (go_at_call 61; refine (HC2.out _).mono ?_; rintro ee w1 ⟨rfl,rfl⟩; refine Hid.out ?_) | fail)
     refine Lib.hid ?_
     go_wp2
     go_ret
     exact ⟨ret_bool HT.out.symm,rfl⟩
end Go.Proofs.YtghnopkgcgfcpaaGreatDoor.Path
