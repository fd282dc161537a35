/-
  MERGED by mergefill.py: R9Atm.
-/
import Derived.Test.YtghnopkgcgfcpaaGreatDoorPthSmMg
set_option maxHeartbeats 16000000
set_option maxRecDepth 100000
namespace Go.Proofs.YtghnopkgcgfcpaaGreatDoor.Path
open Go.RowKit Base
def letR (c : UInt8) : Bool:=decide ((97≤c.toNat∧c.toNat≤122)∨(65≤c.toNat∧c.toNat≤90))
def digR (c : UInt8) : Bool:=decide (48≤c.toNat∧c.toNat≤57)
theorem ldC_eq (c : UInt8) : ldC c=(letR c || digR c):=by
 unfold ldC letR digR
 rw [Bool.eq_iff_iff]
 simp only [Bool.or_eq_true,decide_eq_true_eq]
 omega
theorem rLetter (c : UInt8) (w : World) : Calls Tryz.prog 92 #[.int .u8 (c.toNat : Int)] w (AskEnd (letR c) w):=by
 have HO : Hid (letR c=decide ((97≤c.toNat∧c.toNat≤122)∨(65≤c.toNat∧c.toNat≤90))):=rfl
 have hb:=c.toNat_lt
 generalize letR c=out at HO
 generalize c.toNat=x at HO hb
 go_enter Tryz.func92,Tryz.ntmps92
 go_wp2
 all_goals (go_ret; refine ⟨ret_bool ?_,rfl⟩; rw [HO.out,Bool.eq_iff_iff]; simp only [Bool.or_eq_true,decide_eq_true_eq,reduceCtorEq,true_iff,false_iff]; omega)
theorem rDigit (c : UInt8) (w : World) : Calls Tryz.prog 93 #[.int .u8 (c.toNat : Int)] w (AskEnd (digR c) w):=by
 have HO : Hid (digR c=decide (48≤c.toNat∧c.toNat≤57)):=rfl
 have hb:=c.toNat_lt
 generalize digR c=out at HO
 generalize c.toNat=x at HO hb
 go_enter Tryz.func93,Tryz.ntmps93
 go_wp2
 all_goals (go_ret; refine ⟨ret_bool ?_,rfl⟩; rw [HO.out,Bool.eq_iff_iff]; simp only [decide_eq_true_eq,reduceCtorEq,false_iff]; omega)
theorem index_has (l : List UInt8) (c : UInt8) : decide (0≤Lib.indexByte l c)=l.contains c:=by
 rw [Bool.eq_iff_iff,decide_eq_true_eq]
 induction l with
 | nil=>simp [Lib.indexByte]
 | cons b l ih =>
  unfold Lib.indexByte
  have hg:=Lib.indexByte_ge l c
  rw [List.contains_cons,Bool.or_eq_true]
  by_cases h : b=c
  ·subst h; simp
  ·have h1 : (b == c)=false:=by simpa using h
   have h2 : (c == b)=false:=by simpa using Ne.symm h
   rw [h1,h2]
   simp only [Bool.false_eq_true,if_false,false_or]
   rw [← ih]
   by_cases h3 : Lib.indexByte l c=-1
   ·rw [h3]; simp
   ·have : (Lib.indexByte l c == -1)=false:=by simpa using h3
    rw [this]; simp only [Bool.false_eq_true,if_false]; omega
theorem drop_has (s : ByteArray) (k : Nat) (h : k < s.size) (c : UInt8) : (s.data.toList.drop k).contains c=(decide (s[k].toNat=c.toNat) || (s.data.toList.drop (k + 1)).contains c):=by
 have hl : k < s.data.toList.length:=by rw [str_len]; exact h
 rw [List.drop_eq_getElem_cons hl,List.contains_cons]
 have e : s.data.toList[k]=s[k]:=Array.getElem_toList _
 rw [e]
 congr 1
 rw [Bool.eq_iff_iff]; simp only [beq_iff_eq,decide_eq_true_eq]
 exact ⟨fun h=>by rw [h],fun h=>(UInt8.toNat_inj.1 h).symm⟩
theorem rIsAtom (c : UInt8) (w : World) : Calls Tryz.prog 94 #[.int .u8 (c.toNat : Int)] w (AskEnd (atomC c) w):=by
 have HL:=Lib.hid (fun w1=>rLetter c w1)
 have HD:=Lib.hid (fun w1=>rDigit c w1)
 have HO : Hid (atomC c=((letR c || digR c) || marksB.contains c)):=by show _=_; unfold atomC; rw [ldC_eq,index_has]
 have hb:=c.toNat_lt
 generalize atomC c=out at HO
 generalize letR c=a at HL HO
 generalize digR c=d at HD HO
 cases a with
 | true =>
  have HT : Hid (out=true):=HO.out
  go_enter Tryz.func94,Tryz.ntmps94
  go_wp2_with (first | (go_at_call 92; refine (HL.out _).mono ?_; rintro ee w1 ⟨rfl,rfl⟩; refine Hid.out ?_) | fail)
  refine Lib.hid ?_
  go_wp2
  go_ret
  exact ⟨ret_bool HT.out.symm,rfl⟩
 | false =>
  cases d with
  | true =>
   have HT : Hid (out=true):=HO.out
   go_enter Tryz.func94,Tryz.ntmps94
   go_wp2_with (first | (go_at_call 92; refine (HL.out _).mono ?_; rintro ee w1 ⟨rfl,rfl⟩; refine Hid.out ?_) | fail)
   refine Lib.hid ?_
   go_wp2_with (first | (go_at_call 93; refine (HD.out _).mono ?_; rintro ee w1 ⟨rfl,rfl⟩; refine Hid.out ?_) | fail)
   refine Lib.hid ?_
   go_wp2
   go_ret
   exact ⟨ret_bool HT.out.symm,rfl⟩
  | false =>
   have HT : Hid (out=marksB.contains c):=HO.out
   clear HO
   go_enter Tryz.func94,Tryz.ntmps94
   go_wp2_with (first | (go_at_call 92; refine (HL.out _).mono ?_; rintro ee w1 ⟨rfl,rfl⟩; refine Hid.out ?_) | fail)
   refine Lib.hid ?_
   go_wp2_with (first | (go_at_call 93; refine (HD.out _).mono ?_; rintro ee w1 ⟨rfl,rfl⟩; refine Hid.out ?_) | fail)
   refine Lib.hid ?_
   go_wp2
   generalize hM : (⟨#[33,35,36,37,38,39,42,43,45,47,61,63,94,95,96,123,124,125,126]⟩ : ByteArray)=M
   have hz : M.size=19:=by rw [← hM]; rfl
   have HM : Hid (M.data.toList=marksB):=by show _=_; rw [← hM]; rfl
   clear hM
   go_loop [4] (fun i=>∃ k : Nat,k≤19∧i=.int .i64 k∧Hid (out=(M.data.toList.drop k).contains c)) (fun i=>19 - (intOf i).toNat)
   case atStart=>exact ⟨0,Nat.zero_le _,rfl,by show _=_; rw [HT.out,HM.out]; rfl⟩
   case round =>
    obtain ⟨k,hk,rfl,hr⟩:=hrel
    by_cases hlt : k < 19
    ·have hlt2 : k < M.size:=by omega
     have i0 : (0 : Int)≤(k : Int):=by omega
     have i1 : (k : Int) < (M.size : Int):=by omega
     have HS:=Lib.hid (hr.out.trans (drop_has M k hlt2 c))
     by_cases hc : M[k].toNat=c.toNat
     ·have e : ((M[k].toNat : Int) == (c.toNat : Int))=true:=by rw [beq_iff_eq]; omega
      have HT2 : Hid (out=true):=by show _=_; rw [HS.out,decide_eq_true hc]; rfl
      clear hc hr
      go_wp2
      go_ret
      exact ⟨ret_bool HT2.out.symm,rfl⟩
     ·have e : ((M[k].toNat : Int) == (c.toNat : Int))=false:=by rw [beq_eq_false_iff_ne]; omega
      have HT2 : Hid (out=(M.data.toList.drop (k + 1)).contains c):=by show _=_; rw [HS.out,decide_eq_false hc]; rfl
      clear hc hr
      go_wp2
      go_round
      case rel=>exact ⟨k + 1,by omega,by go_num,HT2⟩
      case measure=>simp [intOf]; omega
    ·have i1 : ¬ (k : Int) < (M.size : Int):=by omega
     have HT2 : Hid (out=false):=by show _=_; rw [hr.out,List.drop_eq_nil_of_le (by rw [str_len]; omega)]; rfl
     clear hr
     go_wp2
     go_ret
     exact ⟨ret_bool HT2.out.symm,rfl⟩
end Go.Proofs.YtghnopkgcgfcpaaGreatDoor.Path
