/-
  MERGED by mergefill.py: R9Cut.
-/
import Derived.Test.YtghnopkgcgfcpaaGreatDoorR9DomMg
set_option maxHeartbeats 16000000
set_option maxRecDepth 100000
namespace Go.Proofs.YtghnopkgcgfcpaaGreatDoor.Path
open Go.RowKit Base
def dnC (c : UInt8) : Bool:=nameC c || decide (c.toNat=46)
theorem row_at (q : UInt8→Bool) (s : ByteArray) {k : Nat} (hk : k < s.size) (h : k≤rowN q s 0) : (q s[k]=true→k + 1≤rowN q s 0)∧(q s[k]=false→rowN q s 0=k):=by
 constructor
 ·intro hq
  by_cases he : rowN q s 0=k
  ·have:=row_stop q s 0 (by omega)
   simp only [Nat.zero_add,he] at this
   rw [this] at hq; cases hq
  ·omega
 ·intro hq
  by_cases hlt : k < rowN q s 0
  ·have:=row_all q s k 0 hlt (by omega)
   rw [Nat.zero_add,str_get s k hk] at this
   rw [this] at hq; cases hq
  ·omega
def cutG (s : ByteArray) : ByteArray × Nat :=
 if 0 < s.size∧(s.data.toList.getD 0 0).toNat=91 then
  if rowN notBr s 0 < s.size then (s.extract 0 (rowN notBr s 0 + 1),rowN notBr s 0 + 1) else (⟨#[]⟩,0)
 else (s.extract 0 (rowN dnC s 0),rowN dnC s 0)
theorem rCut (s : ByteArray) (w : World) (hs : s.size≤4000000000000000000) : Calls Tryz.prog 121 #[.string s] w fun e w'=>e=.returned (.tuple #[.string (cutG s).1,.int .i64 ((cutG s).2 : Int)])∧w'=w:=by
 obtain ⟨D,hD⟩ : ∃ D,D=cutG s:=⟨_,rfl⟩
 rw [← hD]
 have HD : Hid (D=if 0 < s.size∧(s.data.toList.getD 0 0).toNat=91 then
  if rowN notBr s 0 < s.size then (s.extract 0 (rowN notBr s 0 + 1),rowN notBr s 0 + 1) else (⟨#[]⟩,0)
  else (s.extract 0 (rowN dnC s 0),rowN dnC s 0)):=hD
 clear hD
 have HL:=Lib.hid rLetter
 have HDi:=Lib.hid rDigit
 by_cases hbr : 0 < s.size∧(s.data.toList.getD 0 0).toNat=91
 ·have HT : Hid (D=if rowN notBr s 0 < s.size then (s.extract 0 (rowN notBr s 0 + 1),rowN notBr s 0 + 1) else (⟨#[]⟩,0)):=by
   show _=_; rw [HD.out,if_pos hbr]
  have h0:=hbr.1
  have hc : s[0].toNat=91:=by rw [← str_get s 0 h0]; exact hbr.2
  have i0 : (0 : Int) < (s.size : Int):=by omega
  have e0 : ((s[0].toNat : Int) == 91)=true:=by rw [beq_iff_eq]; omega
  have HM : Hid (rowN notBr s 0≤s.size):=by have:=row_le notBr s 0 (Nat.zero_le _); show _≤_; omega
  have HR : Hid (∀ k (hk : k < s.size),k≤rowN notBr s 0→(notBr s[k]=true→k + 1≤rowN notBr s 0)∧(notBr s[k]=false→rowN notBr s 0=k)):=fun k hk h=>row_at notBr s hk h
  generalize rowN notBr s 0=m at HT HM HR
  clear HD hbr hc
  go_enter Tryz.func121,Tryz.ntmps121
  go_wp2
  go_loop [4] (fun i=>∃ k : Nat,k≤s.size∧i=.int .i64 (k : Int)∧Hid (k≤m)) (fun i=>s.size - (intOf i).toNat)
  case atStart=>exact ⟨0,Nat.zero_le _,rfl,Nat.zero_le _⟩
  case round =>
   obtain ⟨k,hk,rfl,hkm⟩:=hrel
   by_cases hlt : k < s.size
   ·have j0 : (0 : Int)≤(k : Int):=by omega
    have j1 : (k : Int) < (s.size : Int):=by omega
    obtain ⟨r1,r2⟩:=HR.out k hlt hkm.out
    by_cases hc : s[k].toNat=93
    ·have e : ((s[k].toNat : Int) == 93)=true:=by rw [beq_iff_eq]; omega
     have hm : m=k:=r2 (decide_eq_false (fun h=>h hc))
     have HT2 : Hid (D=(s.extract 0 (k + 1),k + 1)):=by show _=_; rw [HT.out,hm,if_pos hlt]
     have j2 : (k : Int) + 1≤(s.size : Int):=by omega
     have j3 : (0 : Int)≤(k : Int) + 1:=by omega
     clear HT HR HM r1 r2 hkm hc hm
     go_wp2
     go_ret2
     rw [HT2.out]
     exact ⟨by go_num,rfl⟩
    ·have e : ((s[k].toNat : Int) == 93)=false:=by rw [beq_eq_false_iff_ne]; omega
     have HN : Hid (k + 1≤m):=r1 (decide_eq_true hc)
     clear r1 r2 hkm hc
     go_wp2
     go_round
     case rel=>exact ⟨k + 1,by omega,by go_num,HN⟩
     case measure=>simp [intOf]; omega
   ·have j1 : ¬ (k : Int) < (s.size : Int):=by omega
    have HT2 : Hid (D=(⟨#[]⟩,0)):=by
     show _=_; rw [HT.out,if_neg (by have:=hkm.out; omega)]
    clear HT HR HM hkm
    go_wp2
    go_ret2
    rw [HT2.out]
    exact ⟨rfl,rfl⟩
 ·have HT : Hid (D=(s.extract 0 (rowN dnC s 0),rowN dnC s 0)):=by show _=_; rw [HD.out,if_neg hbr]
  have HM : Hid (rowN dnC s 0≤s.size):=by have:=row_le dnC s 0 (Nat.zero_le _); show _≤_; omega
  have HR : Hid (∀ k (hk : k < s.size),k≤rowN dnC s 0→(dnC s[k]=true→k + 1≤rowN dnC s 0)∧(dnC s[k]=false→rowN dnC s 0=k)):=fun k hk h=>row_at dnC s hk h
  generalize rowN dnC s 0=m at HT HM HR
  have hh : s.size=0∨∃ h : 0 < s.size,((s[0].toNat : Int) == 91)=false:=by
   by_cases h0 : 0 < s.size
   ·refine Or.inr ⟨h0,?_⟩
    rw [beq_eq_false_iff_ne]
    intro h
    refine hbr ⟨h0,?_⟩
    rw [str_get s 0 h0]; omega
   ·exact Or.inl (by omega)
  clear HD hbr
  rcases hh with h0 | ⟨h0,e0⟩
  case' inl=>have i0 : ¬ (0 : Int) < (s.size : Int):=by omega
  case' inr=>have i0 : (0 : Int) < (s.size : Int):=by omega
  all_goals
   go_enter Tryz.func121,Tryz.ntmps121
   go_wp2
   go_loop [5] (fun i=>∃ k : Nat,k≤s.size∧i=.int .i64 (k : Int)∧Hid (k≤m)) (fun i=>s.size - (intOf i).toNat)
   case atStart=>exact ⟨0,Nat.zero_le _,rfl,Nat.zero_le _⟩
   case round =>
    obtain ⟨k,hk,rfl,hkm⟩:=hrel
    by_cases hlt : k < s.size
    ·have j0 : (0 : Int)≤(k : Int):=by omega
     have j1 : (k : Int) < (s.size : Int):=by omega
     obtain ⟨r1,r2⟩:=HR.out k hlt hkm.out
     clear i0
     try clear e0
     try clear h0
     have HN:=Lib.hid (nameC_eq s[k])
     have HL2:=Lib.hid (fun w1=>HL.out s[k] w1)
     have HD2:=Lib.hid (fun w1=>HDi.out s[k] w1)
     have hq : dnC s[k]=(((letR s[k] || digR s[k]) || decide (s[k].toNat=45)) || decide (s[k].toNat=46)):=by unfold dnC; rw [HN.out]
     clear HN
     generalize letR s[k]=a at HL2 hq
     generalize digR s[k]=d at HD2 hq
     cases a with
     | true =>
      have HN : Hid (k + 1≤m):=r1 (by rw [hq]; rfl)
      clear r1 r2 hkm hq
      go_wp2_with (first | (go_at_call 92; refine (HL2.out _).mono ?_; rintro ee w1 ⟨rfl,rfl⟩; refine Hid.out ?_) | fail)
      refine Lib.hid ?_
      go_wp2
      go_round
      case rel=>exact ⟨k + 1,by omega,by go_num,HN⟩
      case measure=>simp [intOf]; omega
     | false =>
      cases d with
      | true =>
        have HN : Hid (k + 1≤m):=r1 (by rw [hq]; rfl)
        clear r1 r2 hkm hq
        go_wp2_with (first | (go_at_call 92; refine (HL2.out _).mono ?_; rintro ee w1 ⟨rfl,rfl⟩; refine Hid.out ?_) | fail)
        refine Lib.hid ?_
        go_wp2_with (first | (go_at_call 93; refine (HD2.out _).mono ?_; rintro ee w1 ⟨rfl,rfl⟩; refine Hid.out ?_) | fail)
        refine Lib.hid ?_
        go_wp2
        go_round
        case rel=>exact ⟨k + 1,by omega,by go_num,HN⟩
        case measure=>simp [intOf]; omega
      | false =>
       by_cases h5 : s[k].toNat=45
       ·have HN : Hid (k + 1≤m):=r1 (by rw [hq,decide_eq_true h5]; rfl)
        have e5 : ((s[k].toNat : Int) == 45)=true:=by rw [beq_iff_eq]; omega
        clear r1 r2 hkm hq h5
        go_wp2_with (first | (go_at_call 92; refine (HL2.out _).mono ?_; rintro ee w1 ⟨rfl,rfl⟩; refine Hid.out ?_) | fail)
        refine Lib.hid ?_
        go_wp2_with (first | (go_at_call 93; refine (HD2.out _).mono ?_; rintro ee w1 ⟨rfl,rfl⟩; refine Hid.out ?_) | fail)
        refine Lib.hid ?_
        go_wp2
        go_round
        case rel=>exact ⟨k + 1,by omega,by go_num,HN⟩
        case measure=>simp [intOf]; omega
       ·have e5 : ((s[k].toNat : Int) == 45)=false:=by rw [beq_eq_false_iff_ne]; omega
        by_cases h6 : s[k].toNat=46
        ·have HN : Hid (k + 1≤m):=r1 (by rw [hq,decide_eq_true h6,Bool.or_true])
         have e6 : ((s[k].toNat : Int) == 46)=true:=by rw [beq_iff_eq]; omega
         clear r1 r2 hkm hq h5 h6
         go_wp2_with (first | (go_at_call 92; refine (HL2.out _).mono ?_; rintro ee w1 ⟨rfl,rfl⟩; refine Hid.out ?_) | fail)
         refine Lib.hid ?_
         go_wp2_with (first | (go_at_call 93; refine (HD2.out _).mono ?_; rintro ee w1 ⟨rfl,rfl⟩; refine Hid.out ?_) | fail)
         refine Lib.hid ?_
         go_wp2
         go_round
         case rel=>exact ⟨k + 1,by omega,by go_num,HN⟩
         case measure=>simp [intOf]; omega
        ·have hm : m=k:=r2 (by rw [hq,decide_eq_false h5,decide_eq_false h6]; rfl)
         have HT2 : Hid (D=(s.extract 0 k,k)):=by show _=_; rw [HT.out,hm]
         have e6 : ((s[k].toNat : Int) == 46)=false:=by rw [beq_eq_false_iff_ne]; omega
         have j3 : (k : Int)≤(s.size : Int):=by omega
         clear HT HR HM hkm r1 r2 hm hq h5 h6
         go_wp2_with (first | (go_at_call 92; refine (HL2.out _).mono ?_; rintro ee w1 ⟨rfl,rfl⟩; refine Hid.out ?_) | fail)
         refine Lib.hid ?_
         go_wp2_with (first | (go_at_call 93; refine (HD2.out _).mono ?_; rintro ee w1 ⟨rfl,rfl⟩; refine Hid.out ?_) | fail)
         refine Lib.hid ?_
         go_wp2
         go_ret2
         rw [HT2.out]
         exact ⟨rfl,rfl⟩
    ·have j1 : ¬ (k : Int) < (s.size : Int):=by omega
     have hm : m=k:=by have:=hkm.out; have:=HM.out; omega
     have HT2 : Hid (D=(s.extract 0 k,k)):=by show _=_; rw [HT.out,hm]
     have j2 : (0 : Int)≤(k : Int):=by omega
     have j3 : (k : Int)≤(s.size : Int):=by omega
     clear HT HR HM hkm hm
     go_wp2
     go_ret2
     rw [HT2.out]
     exact ⟨rfl,rfl⟩
end Go.Proofs.YtghnopkgcgfcpaaGreatDoor.Path
