/-
  MERGED by mergefill.py: CidrG1.
-/
import Derived.Test.YtghnopkgcgfcpaaGreatDoorStrBaseMg
import Derived.Deep.CutBlock
import Derived.Deep.DeepCutAuto
import Derived.Deep.DeepMust
set_option maxHeartbeats 16000000
set_option maxRecDepth 100000
namespace Go.Proofs.YtghnopkgcgfcpaaGreatDoor.Cidr
open Go.RowKit Base
def isDig (c : UInt8) : Bool:=decide (48≤c.toNat∧c.toNat≤57)
def decF (l : List UInt8) : Nat:=l.foldl (fun n c=>10 * n + (c.toNat - 48)) 0
def decN (l : List UInt8) : Option Nat:=if 1≤l.length∧l.length≤3∧¬ (l.getD 0 0=48∧1 < l.length)∧l.all isDig=true then some (decF l) else none
theorem decF_snoc (l : List UInt8) (c : UInt8) : decF (l++[c])=10 * decF l + (c.toNat - 48):=by unfold decF; rw [List.foldl_append]; rfl
theorem fold_lt : ∀ (l : List UInt8) (a : Nat),l.all isDig=true→l.foldl (fun n c=>10 * n + (c.toNat - 48)) a < (a + 1) * 10 ^ l.length
 | [],a,_=>by simp
 | c :: r,a,h=>by
  rw [List.all_cons,Bool.and_eq_true] at h
  have h2:=h.1
  unfold isDig at h2
  rw [decide_eq_true_iff] at h2
  rw [List.foldl_cons,List.length_cons,Nat.pow_succ]
  refine Nat.lt_of_lt_of_le (fold_lt r _ h.2) ?_
  rw [show (a + 1) * (10 ^ r.length * 10)=(10 * a + 10) * 10 ^ r.length by rw [Nat.mul_comm (10 ^ r.length) 10,← Nat.mul_assoc]; congr 1; omega]
  exact Nat.mul_le_mul_right _ (by omega)
theorem decF_lt (l : List UInt8) (h : l.all isDig=true) : decF l < 10 ^ l.length:=by
 have:=fold_lt l 0 h
 simpa [decF] using this
theorem decF_small (l : List UInt8) (h : l.all isDig=true) (hl : l.length≤3) : decF l≤999:=by
 have h1:=decF_lt l h
 have h2 : 10 ^ l.length≤10 ^ 3:=Nat.pow_le_pow_right (by decide) hl
 omega
theorem dig_iff (c : UInt8) : isDig c=true ↔ 48≤c.toNat∧c.toNat≤57:=by unfold isDig; rw [decide_eq_true_iff]
def NumEnd (o : Option Nat) (w : World) (e : Ending) (w' : World) : Prop:=e=.returned (.tuple #[.int .i64 (o.getD 0 : Nat),.bool o.isSome])∧w=w'
theorem num_none {o : Option Nat} (h : o=none) (w : World) : NumEnd o w (.returned (.tuple #[.int .i64 0,.bool false])) w:=by subst h; exact ⟨rfl,rfl⟩
theorem num_some {o : Option Nat} {n : Nat} (h : o=some n) (w : World) : NumEnd o w (.returned (.tuple #[.int .i64 (n : Int),.bool true])) w:=by subst h; exact ⟨rfl,rfl⟩
theorem rDecimal (s : ByteArray) (w : World) : Calls Tryz.prog 88 #[.string s] w (NumEnd (decN s.data.toList) w):=by
 have HL:=Lib.hid (str_len s)
 obtain ⟨o,ho⟩ : ∃ o,o=decN s.data.toList:=⟨_,rfl⟩
 rw [← ho]
 unfold decN at ho
 rw [HL.out] at ho
 by_cases h1 : 1≤s.size
 ·by_cases h3 : s.size≤3
  ·have hg:=str_get s 0 (by omega)
   by_cases h0 : s[0]=48∧1 < s.size
   ·have ho2:=Lib.hid (show o=none by rw [ho,if_neg (fun h=>h.2.2.1 ⟨by rw [hg]; exact h0.1,h0.2⟩)])
    have e1 : ¬ (s.size : Int) < 1:=by omega
    have e2 : ¬ (3 : Int) < (s.size : Int):=by omega
    have e3 : ((s[0].toNat : Int) == 48)=true:=by rw [h0.1]; rfl
    have e4 : (1 : Int) < (s.size : Int):=by omega
    clear ho h0 hg
    go_enter Tryz.func88,Tryz.ntmps88
    go_wp2
    go_ret2
    exact num_none ho2.out _
   ·have hz : ¬ (s.data.toList.getD 0 0=48∧1 < s.size):=by rw [hg]; exact h0
    have HO : Hid (o=if s.data.toList.all isDig=true then some (decF s.data.toList) else none):=by
     refine ho.trans ?_
     by_cases hd : s.data.toList.all isDig=true
     ·rw [if_pos ⟨h1,h3,hz,hd⟩,if_pos hd]
     ·rw [if_neg (fun h=>hd h.2.2.2),if_neg hd]
    have e1 : ¬ (s.size : Int) < 1:=by omega
    have e2 : ¬ (3 : Int) < (s.size : Int):=by omega
    have e3 : ((s[0].toNat : Int) == 48)=false∨(((s[0].toNat : Int) == 48)=true∧¬ (1 : Int) < (s.size : Int)):=by
     by_cases hh : s[0]=48
     ·refine Or.inr ⟨by rw [hh]; rfl,fun h=>h0 ⟨hh,by omega⟩⟩
     ·left
      rw [beq_eq_false_iff_ne]
      intro h
      exact hh (UInt8.toNat_inj.1 (by show s[0].toNat=48; omega))
    clear ho hg hz h0
    rcases e3 with e3 | ⟨e3,e4⟩
    all_goals
     go_enter Tryz.func88,Tryz.ntmps88
     go_wp2
     go_loop [4,5] (fun a i=>∃ k : Nat,k≤s.size∧i=.int .i64 k∧a=.int .i64 (decF (s.data.toList.take k))∧Hid ((s.data.toList.take k).all isDig=true)) (fun _ i=>s.size - (intOf i).toNat)
     case atStart=>exact ⟨0,Nat.zero_le _,rfl,rfl,rfl⟩
     case round =>
      obtain ⟨k,hk,rfl,rfl,hall⟩:=hrel
      have hsm:=decF_small _ hall.out (by rw [List.length_take,HL.out]; omega)
      obtain ⟨n,hn⟩ : ∃ n,n=decF (s.data.toList.take k):=⟨_,rfl⟩
      have HN:=Lib.hid hn
      rw [← hn] at hsm
      rw [← hn]
      clear hn
      by_cases hlt : k < s.size
      ·have hl : k < s.data.toList.length:=by rw [HL.out]; exact hlt
       have hstep : Hid ((s.data.toList.take (k + 1)).all isDig=((s.data.toList.take k).all isDig && isDig s[k])):=by
        have:=all_take (l:=s.data.toList) (k:=k) hl isDig
        rw [str_get s k hlt] at this; exact this
       have hu : (s[k].toNat : Int)≤255:=by have:=s[k].toNat_lt; omega
       by_cases hok : isDig s[k]=true
       ·have hfin : Hid ((s.data.toList.take (k + 1)).all isDig=true):=by rw [hstep.out,hall.out,hok]; rfl
        have hd:=(dig_iff _).1 hok
        have HV : Hid (decF (s.data.toList.take (k + 1))=10 * n + (s[k].toNat - 48)):=by
         have hg:=str_get s k hlt
         rw [List.getD_eq_getElem?_getD,List.getElem?_eq_getElem hl] at hg
         rw [List.take_succ_eq_append_getElem hl,decF_snoc,HN.out,show s.data.toList[k]=s[k] by simpa using hg]; rfl
        have i1 : ¬ (s[k].toNat : Int) < 48:=by omega
        have i2 : ¬ (57 : Int) < (s[k].toNat : Int):=by omega
        clear hok hstep hall
        go_wp2
        go_round
        case rel=>exact ⟨k + 1,by omega,by go_num,by rw [HV.out]; go_num,hfin⟩
        case measure=>simp [intOf]; omega
       ·have hfin : Hid (o=none):=by
         refine HO.out.trans (if_neg ?_)
         rw [all_not (k:=k) hl isDig (by rw [str_get s k hlt]; simpa using hok)]
         simp
        have hd : ¬ (48≤s[k].toNat∧s[k].toNat≤57):=fun h=>hok ((dig_iff _).2 h)
        clear hok hstep hall
        by_cases i1 : (s[k].toNat : Int) < 48
        ·go_wp2
         go_ret2
         exact num_none hfin.out _
        ·have i2 : (57 : Int) < (s[k].toNat : Int):=by omega
         go_wp2
         go_ret2
         exact num_none hfin.out _
      ·have hfin : Hid (o=some n):=by
        have h1:=hall.out
        rw [List.take_of_length_le (by rw [HL.out]; omega)] at h1
        refine HO.out.trans ?_
        rw [if_pos h1,HN.out,List.take_of_length_le (by rw [HL.out]; omega)]
       clear hall
       go_wp2
       go_ret2
       exact num_some hfin.out _
  ·have ho2:=Lib.hid (show o=none by rw [ho,if_neg (by omega)])
   have e1 : ¬ (s.size : Int) < 1:=by omega
   have e2 : (3 : Int) < (s.size : Int):=by omega
   clear ho
   go_enter Tryz.func88,Tryz.ntmps88
   go_wp2
   go_ret2
   exact num_none ho2.out _
 ·have ho2:=Lib.hid (show o=none by rw [ho,if_neg (by omega)])
  have e1 : (s.size : Int) < 1:=by omega
  clear ho
  go_enter Tryz.func88,Tryz.ntmps88
  go_wp2
  go_ret2
  exact num_none ho2.out _
end Go.Proofs.YtghnopkgcgfcpaaGreatDoor.Cidr
namespace Go.Proofs.YtghnopkgcgfcpaaGreatDoor.Cidr
open Go.RowKit Base
def isHex (c : UInt8) : Bool:=decide (48≤c.toNat∧c.toNat≤57∨97≤c.toNat∧c.toNat≤102∨65≤c.toNat∧c.toNat≤70)
def hexV (c : UInt8) : Nat:=if c.toNat≤57 then c.toNat - 48 else if 97≤c.toNat then c.toNat - 87 else c.toNat - 55
def hexF (l : List UInt8) : Nat:=l.foldl (fun n c=>16 * n + hexV c) 0
def grpN (l : List UInt8) : Option Nat:=if 1≤l.length∧l.length≤4∧l.all isHex=true then some (hexF l) else none
theorem hex_iff (c : UInt8) : isHex c=true ↔ (48≤c.toNat∧c.toNat≤57∨97≤c.toNat∧c.toNat≤102∨65≤c.toNat∧c.toNat≤70):=by unfold isHex; rw [decide_eq_true_iff]
theorem hexF_snoc (l : List UInt8) (c : UInt8) : hexF (l++[c])=16 * hexF l + hexV c:=by unfold hexF; rw [List.foldl_append]; rfl
theorem hexV_lt {c : UInt8} (h : isHex c=true) : hexV c < 16:=by
 have:=(hex_iff c).1 h
 unfold hexV
 split
 ·omega
 ·split <;> omega
theorem hfold_lt : ∀ (l : List UInt8) (a : Nat),l.all isHex=true→l.foldl (fun n c=>16 * n + hexV c) a < (a + 1) * 16 ^ l.length
 | [],a,_=>by simp
 | c :: r,a,h=>by
  rw [List.all_cons,Bool.and_eq_true] at h
  have h2:=hexV_lt h.1
  rw [List.foldl_cons,List.length_cons,Nat.pow_succ]
  refine Nat.lt_of_lt_of_le (hfold_lt r _ h.2) ?_
  rw [show (a + 1) * (16 ^ r.length * 16)=(16 * a + 16) * 16 ^ r.length by rw [Nat.mul_comm (16 ^ r.length) 16,← Nat.mul_assoc]; congr 1; omega]
  exact Nat.mul_le_mul_right _ (by omega)
theorem hexF_small (l : List UInt8) (h : l.all isHex=true) (hl : l.length≤4) : hexF l≤65535:=by
 have h1:=hfold_lt l 0 h
 have h2 : 16 ^ l.length≤16 ^ 4:=Nat.pow_le_pow_right (by decide) hl
 unfold hexF
 omega
theorem grpN_small {l : List UInt8} {n : Nat} (h : grpN l=some n) : n≤65535:=by
 unfold grpN at h
 split at h
 ·rename_i h1
  cases h
  exact hexF_small l h1.2.2 h1.2.1
 ·cases h
theorem rGroup (s : ByteArray) (w : World) : Calls Tryz.prog 128 #[.string s] w (NumEnd (grpN s.data.toList) w):=by
 have HL:=Lib.hid (str_len s)
 obtain ⟨o,ho⟩ : ∃ o,o=grpN s.data.toList:=⟨_,rfl⟩
 rw [← ho]
 unfold grpN at ho
 rw [HL.out] at ho
 by_cases h1 : 1≤s.size
 ·by_cases h3 : s.size≤4
  ·have HO : Hid (o=if s.data.toList.all isHex=true then some (hexF s.data.toList) else none):=by
    refine ho.trans ?_
    by_cases hd : s.data.toList.all isHex=true
    ·rw [if_pos ⟨h1,h3,hd⟩,if_pos hd]
    ·rw [if_neg (fun h=>hd h.2.2),if_neg hd]
   have e1 : ¬ (s.size : Int) < 1:=by omega
   have e2 : ¬ (4 : Int) < (s.size : Int):=by omega
   clear ho
   go_enter Tryz.func128,Tryz.ntmps128
   go_wp2
   go_loop [4,5] (fun a i=>∃ k : Nat,k≤s.size∧i=.int .i64 k∧a=.int .i64 (hexF (s.data.toList.take k))∧Hid ((s.data.toList.take k).all isHex=true)) (fun _ i=>s.size - (intOf i).toNat)
   case atStart=>exact ⟨0,Nat.zero_le _,rfl,rfl,rfl⟩
   case round =>
    obtain ⟨k,hk,rfl,rfl,hall⟩:=hrel
    have hsm:=hexF_small _ hall.out (by rw [List.length_take,HL.out]; omega)
    obtain ⟨n,hn⟩ : ∃ n,n=hexF (s.data.toList.take k):=⟨_,rfl⟩
    have HN:=Lib.hid hn
    rw [← hn] at hsm
    rw [← hn]
    clear hn
    by_cases hlt : k < s.size
    ·have hl : k < s.data.toList.length:=by rw [HL.out]; exact hlt
     have hstep : Hid ((s.data.toList.take (k + 1)).all isHex=((s.data.toList.take k).all isHex && isHex s[k])):=by
      have:=all_take (l:=s.data.toList) (k:=k) hl isHex
      rw [str_get s k hlt] at this; exact this
     have hu : (s[k].toNat : Int)≤255:=by have:=s[k].toNat_lt; omega
     by_cases hok : isHex s[k]=true
     ·have hfin : Hid ((s.data.toList.take (k + 1)).all isHex=true):=by rw [hstep.out,hall.out,hok]; rfl
      have hd:=(hex_iff _).1 hok
      have HV : Hid (hexF (s.data.toList.take (k + 1))=16 * n + hexV s[k]):=by
       have hg:=str_get s k hlt
       rw [List.getD_eq_getElem?_getD,List.getElem?_eq_getElem hl] at hg
       rw [List.take_succ_eq_append_getElem hl,hexF_snoc,HN.out,show s.data.toList[k]=s[k] by simpa using hg]; rfl
      clear hok hstep hall
      by_cases c1 : s[k].toNat≤57
      ·have i1 : (48 : Int)≤(s[k].toNat : Int):=by omega
       have i2 : (s[k].toNat : Int)≤57:=by omega
       have HV2 : Hid (hexF (s.data.toList.take (k + 1))=16 * n + (s[k].toNat - 48)):=by
        refine HV.out.trans ?_; unfold hexV; rw [if_pos c1]
       clear HV hd
       go_wp2
       go_round
       case rel=>exact ⟨k + 1,by omega,by go_num,by rw [HV2.out]; go_num,hfin⟩
       case measure=>simp [intOf]; omega
      ·by_cases c2 : 97≤s[k].toNat
       ·have i2 : ¬ (s[k].toNat : Int)≤57:=by omega
        have i1 : (48 : Int)≤(s[k].toNat : Int):=by omega
        have i3 : (97 : Int)≤(s[k].toNat : Int):=by omega
        have i4 : (s[k].toNat : Int)≤102:=by omega
        have HV2 : Hid (hexF (s.data.toList.take (k + 1))=16 * n + (s[k].toNat - 87)):=by
         refine HV.out.trans ?_; unfold hexV; rw [if_neg c1,if_pos c2]
        clear HV hd
        go_wp2
        go_round
        case rel=>exact ⟨k + 1,by omega,by go_num,by rw [HV2.out]; go_num,hfin⟩
        case measure=>simp [intOf]; omega
       ·have i2 : ¬ (s[k].toNat : Int)≤57:=by omega
        have i1 : (48 : Int)≤(s[k].toNat : Int):=by omega
        have i3 : ¬ (97 : Int)≤(s[k].toNat : Int):=by omega
        have i4 : (65 : Int)≤(s[k].toNat : Int):=by omega
        have i5 : (s[k].toNat : Int)≤70:=by omega
        have HV2 : Hid (hexF (s.data.toList.take (k + 1))=16 * n + (s[k].toNat - 55)):=by
         refine HV.out.trans ?_; unfold hexV; rw [if_neg c1,if_neg c2]
        clear HV hd
        go_wp2
        go_round
        case rel=>exact ⟨k + 1,by omega,by go_num,by rw [HV2.out]; go_num,hfin⟩
        case measure=>simp [intOf]; omega
     ·have hfin : Hid (o=none):=by
       refine HO.out.trans (if_neg ?_)
       rw [all_not (k:=k) hl isHex (by rw [str_get s k hlt]; simpa using hok)]
       simp
      have hd : ¬ (48≤s[k].toNat∧s[k].toNat≤57∨97≤s[k].toNat∧s[k].toNat≤102∨65≤s[k].toNat∧s[k].toNat≤70):=fun h=>hok ((hex_iff _).2 h)
      clear hok hstep hall
      go_wp2
      all_goals first
       | (go_ret2; exact num_none hfin.out _)
       | (exfalso; simp at *; omega)
    ·have hfin : Hid (o=some n):=by
      have h1:=hall.out
      rw [List.take_of_length_le (by rw [HL.out]; omega)] at h1
      refine HO.out.trans ?_
      rw [if_pos h1,HN.out,List.take_of_length_le (by rw [HL.out]; omega)]
     clear hall
     go_wp2
     go_ret2
     exact num_some hfin.out _
  ·have ho2:=Lib.hid (show o=none by rw [ho,if_neg (by omega)])
   have e1 : ¬ (s.size : Int) < 1:=by omega
   have e2 : (4 : Int) < (s.size : Int):=by omega
   clear ho
   go_enter Tryz.func128,Tryz.ntmps128
   go_wp2
   go_ret2
   exact num_none ho2.out _
 ·have ho2:=Lib.hid (show o=none by rw [ho,if_neg (by omega)])
  have e1 : (s.size : Int) < 1:=by omega
  clear ho
  go_enter Tryz.func128,Tryz.ntmps128
  go_wp2
  go_ret2
  exact num_none ho2.out _
end Go.Proofs.YtghnopkgcgfcpaaGreatDoor.Cidr
namespace Go.Proofs.YtghnopkgcgfcpaaGreatDoor.Cidr
open Go.RowKit Base
def SplitEnd (ls : List (List UInt8)) (w : World) (e : Ending) (w' : World) : Prop :=
 ∃ v,e=.returned v∧OwnsS w' w.heap.size v ls∧Below w.heap.size w w'
structure SplitR (s : ByteArray) (c : UInt8) (w : World) (o f i : Value) (k m : Nat) (dn : List (List UInt8)) (wr : World) : Prop where
 i : i=.int .i64 k
 f : f=.int .i64 m
 hk : k≤s.size
 hm : m≤k
 row : OwnsS wr w.heap.size o dn
 below : Below w.heap.size w wr
 eq : splitB c s.data.toList=dn++splitB c (s.data.toList.drop m)
 none : ∀ x ∈ (s.data.toList.take k).drop m,x ≠ c
 len : dn.length≤m
section
variable {s : ByteArray} {c : UInt8} {w wr w' : World} {o f i : Value} {k m : Nat} {dn : List (List UInt8)}
theorem split_cut (h : SplitR s c w o f i k m dn wr) (hlt : k < s.size) (hc : s[k]=c) : splitB c s.data.toList=(dn++[(s.data.toList.take k).drop m])++splitB c (s.data.toList.drop (k + 1)):=by
 have hl : k < s.data.toList.length:=by rw [str_len]; exact hlt
 have e : s.data.toList.drop m=(s.data.toList.take k).drop m++c :: s.data.toList.drop (k + 1):=by
  have e1 : s.data.toList[k]=c:=by
   have:=str_get s k hlt
   rw [List.getD_eq_getElem?_getD,List.getElem?_eq_getElem hl] at this
   simpa [hc] using this
  have e2 : s.data.toList=s.data.toList.take k++c :: s.data.toList.drop (k + 1):=by
   rw [← e1,List.getElem_cons_drop,List.take_append_drop]
  conv=>lhs; rw [e2]
  rw [List.drop_append_of_le_length (by rw [List.length_take]; have:=h.hm; omega)]
 rw [h.eq,e,splitB_at h.none,List.append_assoc]
 rfl
theorem split_more (h : SplitR s c w o f i k m dn wr) (hlt : k < s.size) (hc : s[k] ≠ c) : ∀ x ∈ (s.data.toList.take (k + 1)).drop m,x ≠ c:=by
 have hl : k < s.data.toList.length:=by rw [str_len]; exact hlt
 intro x hx
 rw [List.take_succ_eq_append_getElem hl,List.drop_append_of_le_length (by rw [List.length_take]; have:=h.hm; omega),List.mem_append] at hx
 rcases hx with hx | hx
 ·exact h.none x hx
 ·have:=str_get s k hlt
  rw [List.getD_eq_getElem?_getD,List.getElem?_eq_getElem hl] at this
  rw [List.mem_singleton] at hx
  rw [hx]
  simp at this
  rw [show s.data.toList[k]=s[k] by simpa using this]
  exact hc
theorem split_end (h : SplitR s c w o f i k m dn wr) (hge : ¬ k < s.size) : splitB c s.data.toList=dn++[s.data.toList.drop m]:=by
 have h1:=h.none
 rw [List.take_of_length_le (by rw [str_len]; omega)] at h1
 rw [h.eq,splitB_none h1]
end
theorem rSplit (s : ByteArray) (c : UInt8) (w : World) (hs : s.size≤4294967280) : Calls Tryz.prog 87 #[.string s,.int .u8 (c.toNat : Int)] w (SplitEnd (splitB c s.data.toList) w):=by
 obtain ⟨i0,hi0,hz0,hz1,hz2⟩:=info_parts info9
 obtain ⟨ls,hls⟩ : ∃ ls,ls=splitB c s.data.toList:=⟨_,rfl⟩
 have HLS:=Lib.hid hls
 rw [← hls]
 clear hls
 go_enter Tryz.func87,Tryz.ntmps87
 go_wp2
 go_loopw [5,6,7] (fun o f i wr=>∃ k m dn,SplitR s c w o f i k m dn wr) (fun _ _ i _=>s.size - (intOf i).toNat)
 case atStart=>exact ⟨0,0,[],rfl,rfl,Nat.zero_le _,Nat.le_refl _,World.ownsRow_nil _ _ _ _,Below.refl _ _,rfl,(fun x hx=>by simp at hx),Nat.le_refl _⟩
 case round =>
  obtain ⟨k,m,dn,h⟩:=hrel
  obtain ⟨rfl,rfl,hk,hm,hrow,hb,heq,hno,hlen⟩:=id h
  obtain ⟨oa,oc,rfl,hoc⟩:=hrow.form
  have H:=Lib.hid h
  have HROW:=Lib.hid hrow
  have HB:=Lib.hid hb
  clear h hrow hb heq hno
  have LIM : Hid ((dn.length + [Value.string (s.extract m k)].length) * 16≤140737488355328):=by show _≤_; simp only [List.length_singleton]; omega
  have LIMb : Hid (dn.length + [Value.string (s.extract m k)].length≤9223372036854775807):=by show _≤_; simp only [List.length_singleton]; omega
  by_cases hlt : k < s.size
  ·by_cases hc : s[k]=c
   ·have hcu : ((s[k].toNat : Int) == (c.toNat : Int))=true:=by rw [hc]; simp
    have HCUT:=Lib.hid (split_cut H.out hlt hc)
    clear hc
    go_wp2_with (at_builtin; go_must (refine wpList_append_row _ rfl _ _ 22 rfl w.heap.size 9 i0 (.string ⟨#[]⟩) 16 Tryz.underlying22 hi0 hz0 hz1 hz2 rfl (.slice oa dn.length oc) _ dn.length (dn.map S) [.string (s.extract m k)] rfl rfl (World.ownsRow.alloc HROW.out _) (vreads_one _ _ _) (one_str _) LIM.out LIMb.out (by have:=HB.out.size; simp; omega) ?_); intro v2 w2 o2 g2 a2; refine Hid.out ?_)
    refine Lib.hid ?_
    have b2 : Below w.heap.size w w2:=(HB.out.alloc HB.out.size _).grown g2 (by have:=HB.out.size; simp; omega) (fun j hj=>(HROW.out.lt j hj).1)
    have HO2 : Hid (OwnsS w2 w.heap.size v2 (dn++[(s.data.toList.take k).drop m])):=by
     have o3:=o2
     rw [extract_bytes] at o3
     unfold OwnsS
     rw [List.map_append,List.length_append]
     exact o3
    have B2:=Lib.hid b2
    clear o2 g2 a2 b2
    go_wp2
    go_roundw
    case rel=>exact ⟨k + 1,k + 1,_,by go_num,by go_num,by omega,Nat.le_refl _,HO2.out,B2.out,HCUT.out,(fun x hx=>by rw [List.drop_eq_nil_of_le (by rw [List.length_take]; omega)] at hx; cases hx),by simp; omega⟩
    case measure=>simp [intOf]; omega
   ·have hcu : ((s[k].toNat : Int) == (c.toNat : Int))=false:=by
     rw [beq_eq_false_iff_ne]
     intro h
     exact hc (UInt8.toNat_inj.1 (by omega))
    have HMORE:=Lib.hid (split_more H.out hlt hc)
    clear hc
    go_wp2
    go_roundw
    case rel=>exact ⟨k + 1,m,dn,by go_num,rfl,by omega,by omega,HROW.out,HB.out,H.out.eq,HMORE.out,hlen⟩
    case measure=>simp [intOf]; omega
  ·have HEND:=Lib.hid (split_end H.out hlt)
   have hm2 : (m : Int)≤(s.size : Int):=by omega
   have hk2 : k=s.size:=by omega
   have HROW2:=Lib.hid (World.ownsRow.alloc HROW.out (.cells #[.string (s.extract m s.size)] 9))
   subst hk2
   go_wp2_with (at_builtin; go_must (refine wpList_append_row _ rfl _ _ 22 rfl w.heap.size 9 i0 (.string ⟨#[]⟩) 16 Tryz.underlying22 hi0 hz0 hz1 hz2 rfl (.slice oa dn.length oc) _ dn.length (dn.map S) [.string (s.extract m s.size)] rfl rfl HROW2.out (vreads_one _ _ _) (one_str _) LIM.out LIMb.out (by have:=HB.out.size; simp; omega) ?_); intro v2 w2 o2 g2 a2; refine Hid.out ?_)
   refine Lib.hid ?_
   have b2 : Below w.heap.size w w2:=(HB.out.alloc HB.out.size _).grown g2 (by have:=HB.out.size; simp; omega) (fun j hj=>(HROW.out.lt j hj).1)
   have HO2 : Hid (OwnsS w2 w.heap.size v2 ls):=by
    have o3:=o2
    rw [extract_bytes,List.take_of_length_le (by rw [str_len]; omega)] at o3
    rw [HLS.out,HEND.out]
    unfold OwnsS
    rw [List.map_append,List.length_append]
    exact o3
   have B2:=Lib.hid b2
   clear o2 g2 a2 b2
   go_wp2
   go_ret
   exact ⟨v2,rfl,HO2.out,B2.out⟩
end Go.Proofs.YtghnopkgcgfcpaaGreatDoor.Cidr
namespace Go.Proofs.YtghnopkgcgfcpaaGreatDoor.Cidr
open Go.RowKit Base
def mapO {α β : Type} (f : α→Option β) : List α→Option (List β)
 | []=>some []
 | x :: r=>match f x,mapO f r with | some a,some l=>some (a :: l) | _,_=>none
theorem mapO_snoc {α β : Type} (f : α→Option β) (x : α) : ∀ (l : List α) {r : List β} {a : β},mapO f l=some r→f x=some a→mapO f (l++[x])=some (r++[a])
 | [],r,a,h,hx=>by simp [mapO] at h; subst h; simp [mapO,hx]
 | y :: q,r,a,h,hx=>by
  unfold mapO at h
  cases hy : f y with
  | none=>rw [hy] at h; simp at h
  | some b =>
   cases hq : mapO f q with
   | none=>rw [hy,hq] at h; simp at h
   | some l =>
    rw [hy,hq] at h; simp at h; subst h
    rw [List.cons_append,mapO,hy,mapO_snoc f x q hq hx]; rfl
theorem mapO_none {α β : Type} (f : α→Option β) {x : α} (hx : f x=none) : ∀ {l : List α},x ∈ l→mapO f l=none
 | [],h=>by simp at h
 | y :: q,h=>by
  unfold mapO
  rcases List.mem_cons.1 h with rfl | h
  ·rw [hx]
  ·rw [mapO_none f hx h]; cases f y <;> rfl
theorem mapO_len {α β : Type} (f : α→Option β) : ∀ {l : List α} {r : List β},mapO f l=some r→r.length=l.length
 | [],r,h=>by simp [mapO] at h; subst h; rfl
 | y :: q,r,h=>by
  unfold mapO at h
  cases hy : f y with
  | none=>rw [hy] at h; simp at h
  | some b =>
   cases hq : mapO f q with
   | none=>rw [hy,hq] at h; simp at h
   | some l=>rw [hy,hq] at h; simp at h; subst h; simp [mapO_len f hq]
theorem mapO_mem {α β : Type} (f : α→Option β) : ∀ {l : List α} {r : List β},mapO f l=some r→∀ b ∈ r,∃ a ∈ l,f a=some b
 | [],r,h,b,hb=>by simp [mapO] at h; subst h; simp at hb
 | y :: q,r,h,b,hb=>by
  unfold mapO at h
  cases hy : f y with
  | none=>rw [hy] at h; simp at h
  | some c =>
   cases hq : mapO f q with
   | none=>rw [hy,hq] at h; simp at h
   | some l =>
    rw [hy,hq] at h; simp at h; subst h
    rcases List.mem_cons.1 hb with rfl | hb
    ·exact ⟨y,List.mem_cons_self,hy⟩
    ·obtain ⟨a,ha,h2⟩:=mapO_mem f hq b hb
     exact ⟨a,List.mem_cons_of_mem _ ha,h2⟩
abbrev I (n : Nat) : Value:=.int .i64 (n : Int)
theorem info3 : (Tryz.prog.info? 3).map (fun i=>(i.zero,i.size,i.bytes))=some (some (.int .i64 0),1,8):=by kernel_rfl
def OwnsI (w : World) (B : Nat) (v : Value) (ns : List Nat) : Prop:=w.ownsRow B 3 1 v ns.length (ns.map I)
theorem OwnsI.form {w : World} {B : Nat} {v : Value} {ls : List Nat} (h : OwnsI w B v ls) : ∃ a c,v=.slice a ls.length c∧ls.length≤c:=row_form h
theorem OwnsI.on {w w' : World} {B : Nat} {v : Value} {ls : List Nat} (h : OwnsI w B v ls) (hb : Below w.heap.size w w') : OwnsI w' B v ls:=by
 refine ⟨h.1,?_⟩
 rcases h.2 with hn | ⟨g,cap,cur,rfl,h1,h2,h3⟩
 ·exact Or.inl hn
 ·exact Or.inr ⟨g,cap,cur,rfl,h1,by rw [hb.block g (heap_lt h2)]; exact h2,h3⟩
theorem OwnsI.cell {w : World} {B : Nat} {a : Option Addr} {n c : Nat} {ls : List Nat} (h : OwnsI w B (.slice a n c) ls) {i x : Nat} (hx : ls[i]?=some x) : ∃ b,a=some ⟨b,0,none⟩∧w.cell? ⟨b,i,none⟩=some (I x):=by
 rcases h.2 with ⟨he,hn⟩ | ⟨g,cap,cur,he,_,h2,h3,h4,h5,h6⟩
 ·rw [List.eq_nil_of_length_eq_zero hn] at hx; simp at hx
 ·cases he
  refine ⟨g,rfl,?_⟩
  have hi:=(List.getElem?_eq_some_iff.1 hx).1
  rw [Nat.mul_one] at h6
  have h7 : (ls.map I)[i]?=some (I x):=by rw [List.getElem?_map,hx]; rfl
  rw [← h6,List.getElem?_take_of_lt hi,Array.getElem?_toList] at h7
  unfold World.cell?
  rw [h2]
  exact h7
theorem OwnsI.mono {w : World} {B B' : Nat} {v : Value} {ls : List Nat} (h : OwnsI w B v ls) (hB : B'≤B) : OwnsI w B' v ls:=by
 refine ⟨h.1,?_⟩
 rcases h.2 with hn | ⟨g,cap,cur,rfl,h1,h2⟩
 ·exact Or.inl hn
 ·exact Or.inr ⟨g,cap,cur,rfl,by omega,h2⟩
theorem one_int (a : Int) : ∀ u ∈ [Value.int .i64 a],u.oneCell'=true:=fun u hu=>by rw [List.mem_singleton.1 hu]; rfl
def grpsN (l : List UInt8) : Option (List Nat):=if l=[] then some [] else mapO grpN (splitB 58 l)
def GrpsEnd (o : Option (List Nat)) (w : World) (e : Ending) (w' : World) : Prop :=
 (o=none∧e=.returned (.tuple #[.slice none 0 0,.bool false])∧Below w.heap.size w w') ∨
 ∃ ns v,o=some ns∧e=.returned (.tuple #[v,.bool true])∧OwnsI w' w.heap.size v ns∧Below w.heap.size w w'
theorem rGroups (s : ByteArray) (w : World) (hs : s.size≤4294967280) : Calls Tryz.prog 89 #[.string s] w (GrpsEnd (grpsN s.data.toList) w):=by
 obtain ⟨i0,hi0,hz0,hz1,hz2⟩:=info_parts info3
 by_cases h0 : s.size=0
 ·obtain rfl:=str_empty h0
  go_enter Tryz.func89,Tryz.ntmps89
  go_wp2
  go_ret2
  exact Or.inr ⟨[],_,rfl,rfl,World.ownsRow_nil _ _ _ _,Below.refl _ _⟩
 ·obtain ⟨he1,he2⟩:=str_ne h0
  have he3 : (s.toList == [])=false:=by rw [beq_eq_false_iff_ne]; exact he2
  obtain ⟨o,ho⟩ : ∃ o,o=mapO grpN (splitB 58 s.data.toList):=⟨_,rfl⟩
  have hgo : grpsN s.data.toList=o:=by
   unfold grpsN
   rw [if_neg (fun h=>h0 (by rw [← str_len,h]; rfl)),ho]
  rw [hgo]
  have HO:=Lib.hid ho
  have HSP:=Lib.hid (rSplit s 58 w hs)
  obtain ⟨ps,hps⟩ : ∃ ps,ps=splitB 58 s.data.toList:=⟨_,rfl⟩
  have HPS:=Lib.hid hps
  have hpl : ps.length≤4294967281:=by rw [hps]; have:=splitB_len 58 s.data.toList; rw [str_len] at this; omega
  rw [← hps] at HSP HO
  clear ho hgo hps
  go_enter Tryz.func89,Tryz.ntmps89
  go_wp2_with (go_at_call 87; refine HSP.out.mono ?_; rintro e w1 ⟨v1,rfl,o1,b1⟩; refine Hid.out ?_)
  refine Lib.hid ?_
  obtain ⟨pa,pc,rfl,_⟩:=o1.form
  have HP:=Lib.hid o1
  have B1:=Lib.hid b1
  clear o1 b1
  go_wp2
  go_loopw [5,6] (fun o i wr=>∃ (k : Nat) (ns : List Nat),k≤ps.length∧i=.int .i64 k∧OwnsI wr w1.heap.size o ns∧Below w1.heap.size w1 wr∧Hid (mapO grpN (ps.take k)=some ns)∧ns.length=k) (fun _ i _=>ps.length - (intOf i).toNat)
  case atStart=>exact ⟨0,[],Nat.zero_le _,rfl,World.ownsRow_nil _ _ _ _,Below.refl _ _,rfl,rfl⟩
  case round =>
   obtain ⟨k,ns,hk,rfl,hown,hb1,hm,rfl⟩:=hrel
   obtain ⟨oa,oc,rfl,hoc⟩:=hown.form
   have HOWN:=Lib.hid hown
   have HB:=Lib.hid hb1
   have HBW:=Lib.hid (B1.out.trans (hb1.mono B1.out.size))
   have HPW:=Lib.hid (HP.out.on hb1)
   clear hown hb1
   by_cases hlt : ns.length < ps.length
   ·have hx : ps[ns.length]?=some (ps[ns.length]):=List.getElem?_eq_getElem hlt
    obtain ⟨pb,rfl,hcell⟩:=HPW.out.cell hx
    have HX:=Lib.hid hx
    generalize ps[ns.length]=x at hcell HX
    have HG:=Lib.hid (rGroup ⟨x.toArray⟩ wr)
    have i1 : (ns.length : Int) < (ps.length : Int):=by omega
    have i0' : (0 : Int)≤(ns.length : Int):=by omega
    clear hx
    cases hgx : grpN x with
    | none =>
     have HNO : Hid (o=none):=HO.out.trans (mapO_none grpN hgx (List.mem_of_getElem? HX.out))
     have HG2 : Hid (Calls Tryz.prog 128 #[S x] wr (NumEnd none wr)):=by
      have:=HG.out
      rwa [show (⟨x.toArray⟩ : ByteArray).data.toList=x from rfl,hgx] at this
     clear HG hgx
     go_wp2_with (go_at_call 128; refine HG2.out.mono ?_; rintro e w2 ⟨rfl,rfl⟩; refine Hid.out ?_)
     refine Lib.hid ?_
     go_wp2
     go_ret2
     exact Or.inl ⟨HNO.out,rfl,HBW.out⟩
    | some n =>
     have HSM:=Lib.hid (grpN_small hgx)
     have HM2 : Hid (mapO grpN (ps.take (ns.length + 1))=some (ns++[n])):=by
      show _=_
      rw [List.take_succ_eq_append_getElem hlt,show ps[ns.length]=x by have:=HX.out; rw [List.getElem?_eq_getElem hlt] at this; exact Option.some.inj this]
      exact mapO_snoc grpN x _ hm.out hgx
     have HG2 : Hid (Calls Tryz.prog 128 #[S x] wr (NumEnd (some n) wr)):=by
      have:=HG.out
      rwa [show (⟨x.toArray⟩ : ByteArray).data.toList=x from rfl,hgx] at this
     have LIM : Hid ((ns.length + [Value.int .i64 (n : Int)].length) * 8≤140737488355328):=by show _≤_; simp only [List.length_singleton]; omega
     have LIMb : Hid (ns.length + [Value.int .i64 (n : Int)].length≤9223372036854775807):=by show _≤_; simp only [List.length_singleton]; omega
     clear HG hgx hm
     go_wp2_with (go_at_call 128; refine HG2.out.mono ?_; rintro e w2 ⟨rfl,rfl⟩; refine Hid.out ?_)
     refine Lib.hid ?_
     go_wp2_with (at_builtin; go_must (refine wpList_append_row _ rfl _ _ 107 rfl w1.heap.size 3 i0 (.int .i64 0) 8 Tryz.underlying107 hi0 hz0 hz1 hz2 rfl (.slice oa ns.length oc) _ ns.length (ns.map I) [.int .i64 (n : Int)] rfl rfl (World.ownsRow.alloc HOWN.out _) (vreads_one _ _ _) (one_int _) LIM.out LIMb.out (by have:=HB.out.size; simp; omega) ?_); intro v2 w2 o2 g2 a2; refine Hid.out ?_)
     refine Lib.hid ?_
     have b2 : Below w1.heap.size w1 w2:=(HB.out.alloc HB.out.size _).grown g2 (by have:=HB.out.size; simp; omega) (fun j hj=>(HOWN.out.lt j hj).1)
     have HO2 : Hid (OwnsI w2 w1.heap.size v2 (ns++[n])):=by
      have o3:=o2
      unfold OwnsI
      rw [List.map_append,List.length_append]
      exact o3
     have B2:=Lib.hid b2
     clear o2 g2 a2 b2
     go_wp2
     go_roundw
     case rel=>exact ⟨ns.length + 1,ns++[n],by omega,by go_num,HO2.out,B2.out,HM2.out,by simp⟩
     case measure=>simp [intOf]; omega
   ·have i1 : ¬ (ns.length : Int) < (ps.length : Int):=by omega
    have hfin : Hid (o=some ns):=by
     have h1:=hm.out
     rw [List.take_of_length_le (by omega)] at h1
     exact HO.out.trans h1
    clear hm
    go_wp2
    go_ret2
    exact Or.inr ⟨ns,_,hfin.out,rfl,OwnsI.mono HOWN.out B1.out.size,HBW.out⟩
end Go.Proofs.YtghnopkgcgfcpaaGreatDoor.Cidr
