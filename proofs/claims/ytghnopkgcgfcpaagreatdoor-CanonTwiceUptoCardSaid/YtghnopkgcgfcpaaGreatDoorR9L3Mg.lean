/-
  MERGED by mergefill.py: R9L3, R9L4, R9L5, R9L6.
-/
import Derived.Test.YtghnopkgcgfcpaaGreatDoorR9L1Mg
import Derived.Test.YtghnopkgcgfcpaaGreatDoorR9CidMg
import Derived.Test.YtghnopkgcgfcpaaGreatDoorR9OffMg
import Derived.Test.YtghnopkgcgfcpaaGreatDoorR9CutMg
import Derived.Test.YtghnopkgcgfcpaaGreatDoorR9DomMg
import Derived.Test.YtghnopkgcgfcpaaGreatDoorPthBoxWMg
import Derived.Test.YtghnopkgcgfcpaaGreatDoorR9RgtMg
namespace Go.Proofs.YtghnopkgcgfcpaaGreatDoor.Path
open Go.RowKit Base
theorem hasB34 (s : ByteArray) : hasB s 0 34=true ↔ (0 < s.size∧(s.data.toList.getD 0 0).toNat=34):=by
 unfold hasB
 rw [Bool.and_eq_true,decide_eq_true_eq,decide_eq_true_eq]; rfl
theorem quo_qG (s : ByteArray) : ∀ (n k : Nat) (acc : List UInt8),s.size - k≤n→qG s n k acc=if (quo s k acc).1=true then ((quo s k acc).2.2,(quo s k acc).2.1) else ([],0)
 | 0,k,acc,h=>by
  have hs : ∀ c,¬ hasB s k c=true:=fun c h2=>by have:=((hasB_iff s k c).1 h2).1; omega
  rw [quo_eq,if_neg (hs 34)]
  unfold stepQ
  rw [if_neg (hs 92),if_neg (show ¬ k < s.size by omega)]
  rfl
 | n + 1,k,acc,h=>by
  rw [quo_eq]
  unfold qG
  by_cases hk : k < s.size
  ·rw [if_pos hk]
   by_cases h34 : (s.data.toList.getD k 0).toNat=34
   ·have h1 : hasB s k 34=true:=by rw [hasB_iff]; exact ⟨hk,UInt8.toNat_inj.1 h34⟩
    rw [if_pos h34,if_pos h1]
    cases acc with
    | nil=>rfl
    | cons a b=>rfl
   ·have h1 : ¬ hasB s k 34=true:=by rw [hasB_iff]; exact fun x=>h34 (by rw [x.2]; rfl)
    rw [if_neg h34,if_neg h1]
    by_cases h92 : (s.data.toList.getD k 0).toNat=92
    ·have h2 : hasB s k 92=true:=by rw [hasB_iff]; exact ⟨hk,UInt8.toNat_inj.1 h92⟩
     have h3 : stepQ s k=k + 1:=by unfold stepQ; rw [if_pos h2]
     have h4 : ¬ shownC (s.data.toList.getD k 0)=false:=by
      unfold shownC; rw [decide_eq_false_iff_not,h92]; omega
     rw [h3,if_neg h4,if_pos h92]
     by_cases h5 : k + 1 < s.size
     ·rw [if_pos h5]
      by_cases h6 : shownC (s.data.toList.getD (k + 1) 0)=true
      ·rw [if_pos ⟨h5,h6⟩,if_pos h6]
       exact quo_qG s n (k + 2) _ (by omega)
      ·rw [if_neg (fun x=>h6 x.2),if_neg h6]; rfl
     ·rw [if_neg (fun x=>h5 x.1),if_neg h5]; rfl
    ·have h2 : ¬ hasB s k 92=true:=by rw [hasB_iff]; exact fun x=>h92 (by rw [x.2]; rfl)
     have h3 : stepQ s k=k:=by unfold stepQ; rw [if_neg h2]
     rw [h3,if_neg h92,if_pos hk]
     by_cases h6 : shownC (s.data.toList.getD k 0)=true
     ·rw [if_neg (by rw [h6]; decide),if_pos h6]
      exact quo_qG s n (k + 1) _ (by omega)
     ·rw [if_pos (by simpa using h6),if_neg h6]; rfl
  ·have hs : ∀ c,¬ hasB s k c=true:=fun c h2=>hk ((hasB_iff s k c).1 h2).1
   rw [if_neg hk,if_neg (hs 34)]
   unfold stepQ
   rw [if_neg (hs 92),if_neg hk]; rfl
theorem quo_ge (s : ByteArray) : ∀ (n k : Nat) (acc : List UInt8),s.size - k≤n→(quo s k acc).1=true→k < (quo s k acc).2.1
 | n,k,acc,h,ht=>by
  rw [quo_eq] at ht ⊢
  split at ht
  ·rename_i h1; rw [if_pos h1]; exact Nat.lt_succ_self k
  ·rename_i h1
   rw [if_neg h1]
   have hg:=stepQ_ge s k
   split at ht
   ·rename_i h2
    rw [if_pos h2]
    split at ht
    ·rename_i h3
     rw [if_pos h3]
     cases n with
     | zero=>omega
     | succ n=>have:=quo_ge s n (stepQ s k + 1) _ (by omega) ht; omega
    ·cases ht
   ·cases ht
theorem ad_or (x : UInt8) : adC x=(atomC x || decide (x=46)):=by
 unfold adC
 rw [Bool.or_comm]
 congr 1
 rw [decide_eq_decide,toNat46]
theorem dn_or (x : UInt8) : dnC x=(nameC x || decide (x=46)):=by
 unfold dnC
 congr 1
 rw [decide_eq_decide,toNat46]
theorem ba_ext {a b : ByteArray} (h : a.data.toList=b.data.toList) : a=b:=ByteArray.ext (Array.toList_inj.1 h)
theorem dtL_nil (q : UInt8→Bool) (ok : List UInt8→Bool) (hk : ok []=false) (n : Nat) : dtL q ok n []=none:=by
 cases n with
 | zero=>rfl
 | succ n=>unfold dtL; rw [List.takeWhile_nil,hk]; rfl
theorem dots_row (q : UInt8→Bool) (ok : List UInt8→Bool) (d : UInt8→Bool) (hd : ∀ x,d x=(q x || decide (x=46))) (hk0 : ok []=false) (s : ByteArray) (k : Nat) (hk : k≤s.size) :
  (dtL q ok (s.size + 1) ((s.data.toList.drop k).takeWhile d)=some []→(dots q ok s k).1=true∧(dots q ok s k).2=k + rowN d s k∧0 < rowN d s k) ∧
  (¬ dtL q ok (s.size + 1) ((s.data.toList.drop k).takeWhile d)=some []→(dots q ok s k).1=false):=by
 have hc:=dtL_cut q ok d hd (s.size + 1) (s.data.toList.drop k)
 constructor
 ·intro h
  rw [if_pos h,← drop_row] at hc
  obtain ⟨h1,h2,h3,h4⟩:=dots_some hk hc
  have hle:=row_leL d s k hk
  refine ⟨h1,?_,?_⟩
  ·have e:=congrArg List.length h2
   rw [List.length_drop,List.length_drop,str_len] at e
   omega
  ·rcases Nat.eq_zero_or_pos (rowN d s k) with hz | hz
   ·have : (s.data.toList.drop k).takeWhile d=[]:=List.eq_nil_of_length_eq_zero hz
    rw [this,dtL_nil q ok hk0] at h; cases h
   ·exact hz
 ·intro h
  rw [if_neg h] at hc
  exact dots_none hk hc
theorem loc_off (s : ByteArray) : ((loc s 0).1=true∧offG s=((loc s 0).2.2,(loc s 0).2.1)∧0 < (loc s 0).2.1)∨((loc s 0).1=false∧(offG s).2=0):=by
 unfold loc offG
 by_cases hq : hasB s 0 34=true
 ·rw [if_pos hq,if_pos ((hasB34 s).1 hq),quo_qG s s.size 1 [] (by omega)]
  cases hb : (quo s (0 + 1) []).1 with
  | true =>
   left
   rw [if_pos rfl]
   refine ⟨rfl,?_,?_⟩
   ·unfold strQ; rw [hb,if_pos rfl]
   ·have:=quo_ge s s.size 1 [] (by omega) hb
    show 0 < (quo s 1 []).2.1
    omega
  | false =>
   right
   rw [if_neg (by decide)]
   exact ⟨rfl,rfl⟩
 ·rw [if_neg hq,if_neg (fun x=>hq ((hasB34 s).2 x))]
  obtain ⟨h1,h2⟩:=dots_row atomC someB adC ad_or rfl s 0 (Nat.zero_le _)
  have hx : (s.extract 0 (rowN adC s 0)).data.toList=s.data.toList.takeWhile adC:=by
   have:=ext_row adC s 0
   rwa [Nat.zero_add,List.drop_zero] at this
  have hle:=row_leL adC s 0 (Nat.zero_le _)
  have hsz : (s.extract 0 (rowN adC s 0)).size=rowN adC s 0:=by rw [← str_len,hx]; rfl
  have hdt : dotB (s.extract 0 (rowN adC s 0))=true ↔ dtL atomC someB (s.size + 1) ((s.data.toList.drop 0).takeWhile adC)=some []:=by
   rw [dotB_iff,hx,List.drop_zero,dtL_fuel atomC someB _ (s.size + 1) _ (by rw [hsz]; exact Nat.lt_succ_self _) (by show rowN adC s 0 < _; omega)]
  by_cases hd : dotB (s.extract 0 (rowN adC s 0))=true
  ·left
   obtain ⟨a,b,c⟩:=h1 (hdt.1 hd)
   rw [if_pos hd,a,b,Nat.zero_add]
   unfold strOf
   rw [a,b,if_pos rfl,Nat.zero_add]
   exact ⟨rfl,rfl,c⟩
  ·right
   rw [if_neg hd]
   exact ⟨h2 (fun x=>hd (hdt.2 x)),rfl⟩
theorem low_same (c : UInt8) : Lib.lowerB c=Table.low1 c:=by
 unfold Lib.lowerB Lib.isUpperB Table.low1
 have h : ((65≤c && c≤90)=true) ↔ (65≤c.toNat∧c.toNat≤90):=by
  rw [Bool.and_eq_true,decide_eq_true_eq,decide_eq_true_eq,UInt8.le_iff_toNat_le,UInt8.le_iff_toNat_le]; rfl
 by_cases hc : 65≤c.toNat∧c.toNat≤90
 ·rw [if_pos hc,if_pos (h.2 hc)]
 ·rw [if_neg hc,if_neg (fun x=>hc (h.1 x))]
theorem lowS_eq (d : ByteArray) : lowS d=⟨(Table.lower d.data.toList).toArray⟩:=by
 unfold lowS Lib.toLowerA Table.lower
 rw [List.map_congr_left (fun c _=>low_same c)]
theorem tail_list (s : ByteArray) (j : Nat) : (s.extract j s.size).data.toList=s.data.toList.drop j:=by
 rw [ext_list,List.take_of_length_le (by rw [str_len]; exact Nat.le_refl _)]
theorem nm_front {d : ByteArray} {x : UInt8} {r : List UInt8} (h : d.data.toList=x :: r) (hx : nameC x=false) : ¬ nmB d=true:=by
 rw [nmB_iff,h]
 unfold dtL
 rw [List.takeWhile_cons,hx]
 simp [labelB]
theorem dom_no {d : ByteArray} (h1 : litG d=none) (h2 : ¬ nmB d=true) : domG d=(⟨#[]⟩,false,90):=by
 unfold domG; rw [h1,if_neg h2]
theorem hst_dom (s : ByteArray) (j : Nat) (hj : j≤s.size) :
  ((hst litL s j).1=true∧(hst litL s j).2.1=j + (cutG (s.extract j s.size)).2∧domG (cutG (s.extract j s.size)).1=if (hst litL s j).2.2.1=false∧255 < (hst litL s j).2.2.2.size then (⟨#[]⟩,false,91) else ((hst litL s j).2.2.2,(hst litL s j).2.2.1,0)) ∨
  ((hst litL s j).1=false∧domG (cutG (s.extract j s.size)).1=(⟨#[]⟩,false,90)):=by
 have hl:=tail_list s j
 have hsz : (s.extract j s.size).size=s.size - j:=by rw [← str_len,hl,List.length_drop,str_len]
 generalize s.extract j s.size=s' at hl hsz
 unfold hst
 by_cases hb : hasB s j 91=true
 ·rw [if_pos hb]
  obtain ⟨hjl,h91⟩:=(hasB_iff s j 91).1 hb
  have hcons:=drop_consD s hjl
  rw [h91] at hcons
  rw [hcons] at hl
  have hr : rowN notBr s' 0=rowN notBr s (j + 1) + 1:=by
   unfold rowN
   rw [List.drop_zero,hl,List.takeWhile_cons]; rfl
  have hle:=row_leL notBr s (j + 1) (by omega)
  have hg0 : s'.data.toList.getD 0 0=91:=by rw [hl]; rfl
  have hc : cutG s'=if rowN notBr s (j + 1) + 1 < s'.size then (s'.extract 0 (rowN notBr s (j + 1) + 1 + 1),rowN notBr s (j + 1) + 1 + 1) else (⟨#[]⟩,0):=by
   unfold cutG
   rw [if_pos ⟨by omega,by rw [hg0]; rfl⟩,hr]
  rw [hc]
  unfold litL
  generalize hrw : rowN notBr s (j + 1)=row at hle hr
  by_cases hin : row + 1 < s'.size
  ·rw [if_pos hin]
   have hlt : j + 1 + row < s.size:=by omega
   have hstop:=drop_head notBr (s.data.toList.drop (j + 1))
   rw [← drop_row,hrw,drop_consD s hlt] at hstop
   have h93 : s.data.toList.getD (j + 1 + row) 0=93:=by
    have:=hstop _ rfl
    unfold notBr at this
    rw [decide_eq_false_iff_not,Decidable.not_not] at this
    exact UInt8.toNat_inj.1 this
   have hb93 : hasB s (j + 1 + row) 93=true:=by rw [hasB_iff]; exact ⟨hlt,h93⟩
   have hdl : (s'.extract 0 (row + 1 + 1)).data.toList=91 :: ((s.data.toList.drop (j + 1)).take row++[93]):=by
    rw [ext_list,List.drop_zero,hl,List.take_succ_cons,List.take_add_one]
    congr 2
    rw [List.getElem?_drop,List.getElem?_eq_getElem (by rw [str_len]; exact hlt)]
    have : s.data.toList[j + 1 + row]'(by rw [str_len]; exact hlt)=93:=by
     rw [← h93,List.getD_eq_getElem?_getD,List.getElem?_eq_getElem (by rw [str_len]; exact hlt)]; rfl
    rw [this]; rfl
   have htl : (s.extract (j + 1) (j + 1 + row)).data.toList=(s.data.toList.drop (j + 1)).take row:=by
    rw [ext_list,List.drop_take,Nat.add_sub_cancel_left]
   have htake : ((s.data.toList.drop (j + 1)).take row).length=row:=by rw [List.length_take,List.length_drop,str_len]; omega
   have hds : (s'.extract 0 (row + 1 + 1)).size=row + 2:=by rw [← str_len,hdl]; simp [htake]
   have hin2 : (s'.extract 0 (row + 1 + 1)).extract 1 ((s'.extract 0 (row + 1 + 1)).size - 1)=s.extract (j + 1) (j + 1 + row):=by
    apply ba_ext
    rw [htl,ext_list,hdl,hds,show row + 2 - 1=row + 1 by omega,List.take_succ_cons,List.drop_succ_cons,List.drop_zero,List.take_append_of_le_length (by rw [htake]; omega),List.take_of_length_le (by rw [htake]; omega)]
   have hlg : litG (s'.extract 0 (row + 1 + 1))=match Cidr.addrN (litU (s.extract (j + 1) (j + 1 + row))) with
     | none=>none
     | some n=>if n.six=isSixT (s.extract (j + 1) (j + 1 + row)) then some (litShow n) else none:=by
    have hc2 : 2≤(s'.extract 0 (row + 1 + 1)).size∧((s'.extract 0 (row + 1 + 1)).data.toList.getD 0 0).toNat=91∧((s'.extract 0 (row + 1 + 1)).data.toList.getD ((s'.extract 0 (row + 1 + 1)).size - 1) 0).toNat=93:=by
     refine ⟨by omega,by rw [hdl]; rfl,?_⟩
     rw [hdl,hds,show row + 2 - 1=row + 1 by omega,List.getD_cons_succ,List.getD_eq_getElem?_getD,List.getElem?_append_right (by rw [htake]; omega),htake,Nat.sub_self]; rfl
    unfold litG
    rw [hin2,if_pos hc2]
    generalize Cidr.addrN (litU (s.extract (j + 1) (j + 1 + row)))=o
    cases o <;> rfl
   have hnm : ¬ nmB (s'.extract 0 (row + 1 + 1))=true:=nm_front hdl rfl
   unfold litB
   cases ha : Cidr.addrN (litU (s.extract (j + 1) (j + 1 + row))) with
   | none =>
    rw [ha] at hlg
    exact Or.inr ⟨rfl,dom_no hlg hnm⟩
   | some n =>
    rw [ha] at hlg
    by_cases h6 : n.six=isSixT (s.extract (j + 1) (j + 1 + row))
    ·left
     have hlg : litG (s'.extract 0 (row + 1 + 1))=some (litShow n):=by rw [hlg]; exact if_pos h6
     simp only []
     rw [if_pos h6,if_pos hb93]
     refine ⟨rfl,by show j + 1 + row + 1=j + (row + 1 + 1); omega,?_⟩
     show domG (s'.extract 0 (row + 1 + 1))=if true=false∧_ then _ else _
     rw [if_neg (fun x=>by cases x.1)]
     unfold domG; rw [hlg]
    ·right
     have hlg : litG (s'.extract 0 (row + 1 + 1))=none:=by rw [hlg]; exact if_neg h6
     simp only []
     rw [if_neg h6]
     exact ⟨rfl,dom_no hlg hnm⟩
  ·rw [if_neg hin]
   right
   have hb93 : ¬ hasB s (j + 1 + row) 93=true:=fun x=>by have:=((hasB_iff _ _ _).1 x).1; omega
   refine ⟨?_,dom_no rfl (by decide)⟩
   unfold litB
   cases Cidr.addrN (litU (s.extract (j + 1) (j + 1 + row))) with
   | none=>rfl
   | some n =>
    show (if n.six=isSixT (s.extract (j + 1) (j + 1 + row)) then (if hasB s (j + 1 + row) 93=true then (true,j + 1 + row + 1,litShow n) else (false,j + 1 + row,(⟨#[]⟩ : ByteArray))) else (false,j + 1 + row,(⟨#[]⟩ : ByteArray))).1=false
    rw [if_neg hb93]
    split <;> rfl
 ·rw [if_neg hb]
  have hc : cutG s'=(s'.extract 0 (rowN dnC s j),rowN dnC s j):=by
   unfold cutG
   rw [if_neg]
   ·have : rowN dnC s' 0=rowN dnC s j:=by unfold rowN; rw [List.drop_zero,hl]
    rw [this]
   ·rintro ⟨a,b⟩
    apply hb
    rw [hasB_iff]
    have hjl : j < s.size:=by omega
    rw [drop_consD s hjl] at hl
    rw [hl] at b
    exact ⟨hjl,UInt8.toNat_inj.1 b⟩
  rw [hc]
  obtain ⟨h1,h2⟩:=dots_row nameC labelB dnC dn_or rfl s j hj
  have hdl : (s'.extract 0 (rowN dnC s j)).data.toList=(s.data.toList.drop j).takeWhile dnC:=by
   rw [ext_list,List.drop_zero,hl]; exact (tw_take _ _).symm
  have hle:=row_leL dnC s j hj
  have hds : (s'.extract 0 (rowN dnC s j)).size=rowN dnC s j:=by rw [← str_len,hdl]; rfl
  have hsame : s'.extract 0 (rowN dnC s j)=s.extract j (j + rowN dnC s j):=ba_ext (by rw [hdl,ext_row])
  have hlg : litG (s'.extract 0 (rowN dnC s j))=none:=by
   unfold litG
   rw [if_neg]
   rintro ⟨a,b,_⟩
   have hall:=tw_all dnC (s.data.toList.drop j)
   rw [← hdl] at hall
   have hp : 0 < (s'.extract 0 (rowN dnC s j)).data.toList.length:=by rw [str_len]; omega
   have hm:=hall _ (List.getElem_mem hp)
   rw [List.getD_eq_getElem?_getD,List.getElem?_eq_getElem hp] at b
   have e : (s'.extract 0 (rowN dnC s j)).data.toList[0]=91:=UInt8.toNat_inj.1 b
   rw [e] at hm
   revert hm; decide
  have hnm : nmB (s'.extract 0 (rowN dnC s j))=true ↔ dtL nameC labelB (s.size + 1) ((s.data.toList.drop j).takeWhile dnC)=some []:=by
   rw [nmB_iff,hdl,hds,dtL_fuel nameC labelB _ (s.size + 1) _ (by show rowN dnC s j < _; omega) (by show rowN dnC s j < _; omega)]
  by_cases hn : nmB (s'.extract 0 (rowN dnC s j))=true
  ·left
   obtain ⟨a,b,c⟩:=h1 (hnm.1 hn)
   refine ⟨a,b,?_⟩
   have hdo : domOf s j (dots nameC labelB s j)=⟨(Table.lower (s'.extract 0 (rowN dnC s j)).data.toList).toArray⟩:=by
    unfold domOf
    rw [a,b,if_pos rfl,lowS_eq,← hsame]
   have hdz : (domOf s j (dots nameC labelB s j)).size=(s'.extract 0 (rowN dnC s j)).size:=by
    rw [hdo,← str_len,← str_len]; exact List.length_map _
   unfold domG
   rw [hlg]
   simp only []
   rw [if_pos hn,hdz,hdo]
   by_cases h255 : 255 < (s'.extract 0 (rowN dnC s j)).size
   ·rw [if_pos h255,if_pos ⟨by trivial,h255⟩]
   ·rw [if_neg h255,if_neg (fun x=>h255 x.2)]
  ·right
   exact ⟨h2 (fun x=>hn (hnm.2 x)),dom_no hlg hn⟩
end Go.Proofs.YtghnopkgcgfcpaaGreatDoor.Path
namespace Go.Proofs.YtghnopkgcgfcpaaGreatDoor.Path
open Go.RowKit Base
def mbG (s : ByteArray) : PV × Nat × Int :=
 if (offG s).2=0 then (PV.zero,0,90)
 else if (offG s).2=s.size∨¬ (s.data.toList.getD (offG s).2 0).toNat=64 then
  (if Table.lower (s.extract 0 (offG s).2).data.toList=postB then (⟨false,⟨postB.toArray⟩,⟨#[]⟩,false⟩,(offG s).2,0) else (PV.zero,0,90))
 else (⟨false,(offG s).1,(domG (cutG (s.extract ((offG s).2 + 1) s.size)).1).1,(domG (cutG (s.extract ((offG s).2 + 1) s.size)).1).2.1⟩,(offG s).2 + 1 + (cutG (s.extract ((offG s).2 + 1) s.size)).2,
  if (domG (cutG (s.extract ((offG s).2 + 1) s.size)).1).2.2=0 then rightG ⟨false,(offG s).1,(domG (cutG (s.extract ((offG s).2 + 1) s.size)).1).1,(domG (cutG (s.extract ((offG s).2 + 1) s.size)).1).2.1⟩ else (domG (cutG (s.extract ((offG s).2 + 1) s.size)).1).2.2)
def boxG (s : ByteArray) : PV × Int :=
 if s.size=0 then (⟨true,⟨#[]⟩,⟨#[]⟩,false⟩,0)
 else if (mbG s).2.2=90∨¬ (mbG s).2.1=s.size then (PV.zero,90)
 else if ¬ (mbG s).2.2=0 then (PV.zero,(mbG s).2.2) else ((mbG s).1,0)
theorem fold_post (l : List UInt8) : Lib.equalFold l postB=decide (Table.lower l=postB) :=
 fold_low [(112,112),(111,111),(115,115),(116,116),(109,109),(97,97),(115,115),(116,116),(101,101),(114,114)] (by
  intro p hp
  simp only [List.mem_cons,List.not_mem_nil,or_false] at hp
  rcases hp with rfl | rfl | rfl | rfl | rfl | rfl | rfl | rfl | rfl | rfl <;> (unfold okP; decide)) l
theorem marks_shown : ∀ c ∈ marksB,shownC c=true∧¬ c=34∧¬ c=64:=by decide
theorem atom_shown {c : UInt8} (h : atomC c=true) : shownC c=true∧¬ c=34∧¬ c=64:=by
 unfold atomC at h
 rw [index_has,Bool.or_eq_true] at h
 rcases h with h | h
 ·unfold ldC at h
  rw [decide_eq_true_eq] at h
  refine ⟨?_,fun e=>?_,fun e=>?_⟩
  ·unfold shownC; rw [decide_eq_true_eq]; omega
  ·rw [e,show (34 : UInt8).toNat=34 from rfl] at h; omega
  ·rw [e,show (64 : UInt8).toNat=64 from rfl] at h; omega
 ·exact marks_shown c (by simpa using h)
theorem ad_shown {c : UInt8} (h : adC c=true) : shownC c=true:=by
 rw [ad_or,Bool.or_eq_true] at h
 rcases h with h | h
 ·exact (atom_shown h).1
 ·rw [decide_eq_true_eq] at h; rw [h]; rfl
theorem quo_shown (s : ByteArray) : ∀ (n k : Nat) (acc : List UInt8),s.size - k≤n→acc.all shownC=true→(quo s k acc).1=true→(quo s k acc).2.2.all shownC=true∧(quo s k acc).2.2 ≠ []
 | n,k,acc,h,ha,ht=>by
  rw [quo_eq] at ht ⊢
  split at ht
  ·rename_i h1
   rw [if_pos h1]
   refine ⟨ha,fun e=>?_⟩
   rw [show (k.succ,acc).2=acc from rfl] at *
   have : acc=[]:=e
   rw [this] at ht; cases ht
  ·rename_i h1
   rw [if_neg h1]
   have hg:=stepQ_ge s k
   split at ht
   ·rename_i h2
    rw [if_pos h2]
    split at ht
    ·rename_i h3
     rw [if_pos h3]
     cases n with
     | zero=>omega
     | succ n=>exact quo_shown s n (stepQ s k + 1) _ (by omega) (by rw [List.all_append,ha,List.all_cons,h3]; rfl) ht
    ·cases ht
   ·cases ht
theorem loc_good {s : ByteArray} (h : (loc s 0).1=true) : (loc s 0).2.2.data.toList.all shownC=true∧(loc s 0).2.2.size ≠ 0:=by
 unfold loc at h ⊢
 by_cases hq : hasB s 0 34=true
 ·rw [if_pos hq] at h ⊢
  obtain ⟨h1,h2⟩:=quo_shown s s.size 1 [] (by omega) rfl h
  have hs : strQ (quo s (0 + 1) [])=(quo s 1 []).2.2:=by unfold strQ; exact if_pos h
  rw [hs]
  refine ⟨h1,fun e=>h2 ?_⟩
  rw [← str_len] at e
  exact List.eq_nil_of_length_eq_zero e
 ·rw [if_neg hq] at h ⊢
  obtain ⟨h1,h2⟩:=dots_row atomC someB adC ad_or rfl s 0 (Nat.zero_le _)
  by_cases hd : dtL atomC someB (s.size + 1) ((s.data.toList.drop 0).takeWhile adC)=some []
  ·obtain ⟨a,b,c⟩:=h1 hd
   have hx : strOf s 0 (dots atomC someB s 0)=s.extract 0 (0 + rowN adC s 0):=by unfold strOf; rw [a,b,if_pos rfl]
   rw [hx]
   constructor
   ·rw [ext_row,List.all_eq_true]
    exact fun x hx=>ad_shown (tw_all adC _ x hx)
   ·rw [← str_len,ext_row]
    exact Nat.ne_of_gt c
  ·have:=h2 hd; rw [show (dots atomC someB s 0).1=true from h] at this; cases this
theorem low_nat (c : UInt8) : (Table.low1 c).toNat=if 65≤c.toNat∧c.toNat≤90 then c.toNat + 32 else c.toNat:=by
 unfold Table.low1
 split
 ·rw [UInt8.toNat_add,show (32 : UInt8).toNat=32 from rfl]; omega
 ·rfl
theorem low_name (c : UInt8) : nameC (Table.low1 c)=nameC c:=by
 unfold nameC ldC
 rw [low_nat,Bool.eq_iff_iff,Bool.or_eq_true,Bool.or_eq_true,decide_eq_true_eq,decide_eq_true_eq,decide_eq_true_eq,decide_eq_true_eq]
 split <;> omega
theorem low_not (c : UInt8) {x : Nat} (hx : ¬ (65≤x∧x≤90)∧¬ (97≤x∧x≤122)) : (Table.low1 c).toNat=x ↔ c.toNat=x:=by
 rw [low_nat]; split <;> omega
theorem low_low (l : List UInt8) : Table.lower (Table.lower l)=Table.lower l:=by
 unfold Table.lower
 rw [List.map_map]
 refine List.map_congr_left fun c _=>UInt8.toNat_inj.1 ?_
 show (Table.low1 (Table.low1 c)).toNat=_
 rw [low_nat (Table.low1 c),low_nat c]
 by_cases h : 65≤c.toNat∧c.toNat≤90
 ·rw [if_pos h,if_neg (by omega)]
 ·rw [if_neg h,if_neg h]
theorem getD_map (l : List UInt8) (k : Nat) : (l.map Table.low1).getD k 0=Table.low1 (l.getD k 0):=by
 rw [List.getD_eq_getElem?_getD,List.getD_eq_getElem?_getD,List.getElem?_map]
 cases l[k]? <;> rfl
theorem lab_low (l : List UInt8) : labelB (l.map Table.low1)=labelB l:=by
 have h0 : ∀ k,((l.map Table.low1).getD k 0).toNat=45 ↔ (l.getD k 0).toNat=45:=fun k=>by
  rw [getD_map]; exact low_not _ (by omega)
 unfold labelB
 rw [List.length_map,Bool.eq_iff_iff]
 simp only [Bool.and_eq_true,decide_eq_true_eq]
 rw [h0,h0]
theorem tw_map (q : UInt8→Bool) (f : UInt8→UInt8) (hq : ∀ c,q (f c)=q c) : ∀ (l : List UInt8),(l.map f).takeWhile q=(l.takeWhile q).map f∧(l.map f).dropWhile q=(l.dropWhile q).map f
 | []=>⟨rfl,rfl⟩
 | c :: l=>by
  have ih:=tw_map q f hq l
  rw [List.map_cons,List.takeWhile_cons,List.dropWhile_cons,List.takeWhile_cons,List.dropWhile_cons,hq]
  cases hc : q c with
  | true=>exact ⟨by show f c :: (l.map f).takeWhile q=f c :: (l.takeWhile q).map f; rw [ih.1],ih.2⟩
  | false=>exact ⟨rfl,rfl⟩
theorem dtL_low : ∀ (n : Nat) (l : List UInt8),dtL nameC labelB n (l.map Table.low1)=(dtL nameC labelB n l).map (List.map Table.low1)
 | 0,_=>rfl
 | n + 1,l=>by
  obtain ⟨h1,h2⟩:=tw_map nameC Table.low1 low_name l
  unfold dtL
  rw [h1,h2,lab_low]
  split
  ·cases hd : l.dropWhile nameC with
   | nil=>rfl
   | cons c r =>
    show (if Table.low1 c=46 then dtL nameC labelB n (r.map Table.low1) else some (Table.low1 c :: r.map Table.low1))=Option.map _ (if c=46 then dtL nameC labelB n r else some (c :: r))
    have h46 : Table.low1 c=46 ↔ c=46:=by rw [← toNat46,← toNat46]; exact low_not c (by omega)
    by_cases hc : c=46
    ·rw [if_pos (h46.2 hc),if_pos hc]; exact dtL_low n r
    ·rw [if_neg (fun x=>hc (h46.1 x)),if_neg hc]; rfl
  ·rfl
theorem nm_low (d : ByteArray) : nmB ⟨(Table.lower d.data.toList).toArray⟩=nmB d:=by
 rw [Bool.eq_iff_iff,nmB_iff,nmB_iff]
 have hs : (⟨(Table.lower d.data.toList).toArray⟩ : ByteArray).size=d.size:=by rw [← str_len,← str_len]; exact List.length_map _
 rw [hs]
 show dtL nameC labelB (d.size + 1) (d.data.toList.map Table.low1)=some [] ↔ _
 rw [dtL_low]
 cases dtL nameC labelB (d.size + 1) d.data.toList with
 | none=>exact ⟨fun h=>(by cases h),fun h=>(by cases h)⟩
 | some b=>cases b with
  | nil=>exact ⟨fun _=>rfl,fun _=>rfl⟩
  | cons x y=>exact ⟨fun h=>(by cases h),fun h=>(by cases h)⟩
theorem nm_ne {d : ByteArray} (h : nmB d=true) : d.size ≠ 0:=fun e=>by
 rw [nmB_iff] at h
 have : d.data.toList=[]:=List.eq_nil_of_length_eq_zero (by rw [str_len]; exact e)
 rw [this,dtL_nil _ _ rfl] at h; cases h
theorem litL_good (s : ByteArray) (j : Nat) (h : (litL s j).1=true) : ∃ n,Cidr.addrN (litL s j).2.2=some n∧litShow n=(litL s j).2.2:=by
 unfold litL at h ⊢
 generalize s.extract j (j + rowN notBr s j)=t at h ⊢
 unfold litB at h ⊢
 have ha:=fun n=>addr_again (s:=litU t) (n:=n)
 generalize Cidr.addrN (litU t)=o at h ha ⊢
 cases o with
 | none=>cases h
 | some n =>
  simp only [] at h ⊢
  split at h
  ·rename_i h6
   rw [if_pos h6]
   split at h
   ·rename_i h7
    rw [if_pos h7]
    exact ⟨n,ha n rfl,rfl⟩
   ·cases h
  ·cases h
theorem hst_good {s : ByteArray} {j : Nat} (hj : j≤s.size) (h : (hst litL s j).1=true) :
  ((hst litL s j).2.2.1=true∧∃ n,Cidr.addrN (hst litL s j).2.2.2=some n∧litShow n=(hst litL s j).2.2.2) ∨
  ((hst litL s j).2.2.1=false∧(hst litL s j).2.2.2.size ≠ 0∧nmB (hst litL s j).2.2.2=true∧Table.lower (hst litL s j).2.2.2.data.toList=(hst litL s j).2.2.2.data.toList):=by
 unfold hst at h ⊢
 by_cases hb : hasB s j 91=true
 ·rw [if_pos hb] at h ⊢
  have hl:=litL_good s (j + 1)
  generalize litL s (j + 1)=r at h hl ⊢
  exact Or.inl ⟨h,hl h⟩
 ·rw [if_neg hb] at h ⊢
  right
  obtain ⟨h1,h2⟩:=dots_row nameC labelB dnC dn_or rfl s j hj
  by_cases hd : dtL nameC labelB (s.size + 1) ((s.data.toList.drop j).takeWhile dnC)=some []
  ·obtain ⟨a,b,c⟩:=h1 hd
   have hx : domOf s j (dots nameC labelB s j)=⟨(Table.lower (s.extract j (j + rowN dnC s j)).data.toList).toArray⟩:=by
    unfold domOf; rw [a,b,if_pos rfl,lowS_eq]
   have hle:=row_leL dnC s j hj
   have hnm : nmB (s.extract j (j + rowN dnC s j))=true:=by
    have hz : (s.extract j (j + rowN dnC s j)).size=rowN dnC s j:=by rw [← str_len,ext_row]; rfl
    rw [nmB_iff,ext_row,hz,dtL_fuel nameC labelB _ (s.size + 1) _ (by show rowN dnC s j < _; omega) (by show rowN dnC s j < _; omega)]
    exact hd
   have hnm2:=hnm
   rw [← nm_low] at hnm2
   show false=false∧(domOf s j (dots nameC labelB s j)).size ≠ 0∧nmB (domOf s j (dots nameC labelB s j))=true∧Table.lower (domOf s j (dots nameC labelB s j)).data.toList=(domOf s j (dots nameC labelB s j)).data.toList
   rw [hx]
   exact ⟨rfl,nm_ne hnm2,hnm2,low_low _⟩
  ·have:=h2 hd; rw [show (dots nameC labelB s j).1=true from h] at this; cases this
structure GoodP (p : PV) : Prop where
 null : p.null=false
 shown : p.loc.data.toList.all shownC=true
 ne : p.loc.size ≠ 0
 may : mayG p=true
theorem hst_may {s l : ByteArray} {j : Nat} (hj : j≤s.size) (h : (hst litL s j).1=true) : mayG ⟨false,l,(hst litL s j).2.2.2,(hst litL s j).2.2.1⟩=true:=by
 unfold mayG
 rcases hst_good hj h with ⟨h1,n,h2,h3⟩ | ⟨h1,h2,h3,h4⟩
 ·rw [h1,h2]
  simp only [if_true]
  exact decide_eq_true h3
 ·rw [h1]
  simp only []
  rw [if_neg (by decide),if_neg h2,h3,decide_eq_true h4]; rfl
theorem GoodP.right {p : PV} (h : GoodP p) : rightG p=if longG p=true then 91 else 0:=by
 unfold rightG
 rw [if_neg (by rw [h.null]; decide),if_neg (by rw [h.shown]; decide),if_neg]
 rintro (h1 | h1)
 ·exact h.ne h1
 ·rw [h.may] at h1; cases h1
theorem ba_app (a b : ByteArray) : (a++b).data.toList=a.data.toList++b.data.toList:=by
 rw [ByteArray.data_append,Array.toList_append]
theorem GoodP.lit {p : PV} (h : GoodP p) (hl : p.lit=true) : ∃ n,Cidr.addrN p.dom=some n∧litShow n=p.dom∧p.dom.size ≠ 0∧p.dom.size≤50:=by
 have hm:=h.may
 unfold mayG at hm
 rw [if_pos hl] at hm
 cases ha : Cidr.addrN p.dom with
 | none=>rw [ha] at hm; cases hm
 | some n =>
  rw [ha] at hm
  have e : litShow n=p.dom:=of_decide_eq_true hm
  refine ⟨n,rfl,e,fun e2=>?_,by rw [← e]; exact addr_short ha⟩
  have : p.dom=⟨#[]⟩:=ba_ext (List.eq_nil_of_length_eq_zero (by rw [str_len]; exact e2))
  rw [this,addr_nil] at ha; cases ha
theorem six_index {d : ByteArray} {n : Cidr.NetM} (h : Cidr.addrN d=some n) : (0≤Lib.indexByte d.data.toList 58) ↔ n.six=true:=by
 rw [addr_six h,← decide_eq_true_iff (p:=0≤_),index_has]
 simp
theorem GoodP.form {p : PV} (h : GoodP p) : formG p=formR locF p:=by
 unfold formG formR
 have hn : ¬ p.null=true:=by rw [h.null]; decide
 rw [if_neg hn,if_neg hn,loc_same]
 cases hl : p.lit with
 | false=>rw [if_pos rfl]; rfl
 | true =>
  obtain ⟨n,h1,h2,h3,h4⟩:=h.lit hl
  rw [if_neg (by decide),if_neg h3,if_pos rfl]
  unfold sixOf litForm
  rw [h1]
  simp only []
  by_cases h6 : n.six=true
  ·rw [if_pos h6,if_pos ((six_index h1).2 h6)]
   apply ba_ext
   simp only [ba_app,List.append_assoc]
   rfl
  ·rw [if_neg h6,if_neg (fun x=>h6 ((six_index h1).1 x))]
   apply ba_ext
   simp only [ba_app,List.append_assoc]
   rfl
theorem GoodP.long {p : PV} (h : GoodP p) : longG p=longR locF p:=by
 unfold longG longR
 rw [h.form,loc_same]
 cases hl : p.lit with
 | false =>
  congr 2
  rw [decide_eq_decide]; omega
 | true =>
  obtain ⟨n,_,_,_,h4⟩:=h.lit hl
  rw [decide_eq_false (p:=255 < p.dom.size) (by omega)]
  congr 2
  rw [decide_eq_decide]; omega
theorem post_long : longR locF ⟨false,⟨postB.toArray⟩,⟨#[]⟩,false⟩=false:=by
 have h:=locF_le ⟨postB.toArray⟩
 have h2 : (⟨postB.toArray⟩ : ByteArray).size=10:=rfl
 have hf : formR locF ⟨false,⟨postB.toArray⟩,⟨#[]⟩,false⟩=locF ⟨postB.toArray⟩:=rfl
 unfold longR
 rw [hf]
 show (decide (64 < (locF ⟨postB.toArray⟩).size) || (decide (255 < (0 : Nat)) || decide (256 < (locF ⟨postB.toArray⟩).size + 2)))=false
 rw [decide_eq_false (by omega),decide_eq_false (by decide),decide_eq_false (by omega)]; rfl
theorem null_long : longR locF ⟨true,⟨#[]⟩,⟨#[]⟩,false⟩=false:=by
 have h:=locF_le ⟨#[]⟩
 have h2 : (⟨#[]⟩ : ByteArray).size=0:=rfl
 have hf : formR locF ⟨true,⟨#[]⟩,⟨#[]⟩,false⟩=⟨#[]⟩:=rfl
 unfold longR
 rw [hf]
 show (decide (64 < (locF ⟨#[]⟩).size) || (decide (255 < (0 : Nat)) || decide (256 < (0 : Nat) + 2)))=false
 rw [decide_eq_false (by omega),decide_eq_false (by decide),decide_eq_false (by decide)]; rfl
theorem box_same (s : ByteArray) : boxG s=mbxR litL locF s:=by
 unfold boxG mbxR tak
 by_cases h0 : s.size=0
 ·rw [if_pos h0,if_pos h0,if_pos rfl,if_neg (by rw [null_long]; decide)]
 ·rw [if_neg h0,if_neg h0]
  rcases loc_off s with ⟨l1,l2,l3⟩ | ⟨l1,l2⟩
  ·obtain ⟨g1,g2⟩:=loc_good l1
   have hle:=(loc_le s 0 (Nat.zero_le _)).1
   unfold mbG mbx
   rw [l2,if_pos l1]
   generalize (loc s 0).2.1=n at l3 hle
   generalize (loc s 0).2.2=l at g1 g2
   simp only []
   rw [if_neg (show ¬ n=0 by omega)]
   by_cases h64 : hasB s n 64=true
   ·obtain ⟨a1,a2⟩:=(hasB_iff s n 64).1 h64
    have hnc : ¬ (n=s.size∨¬ (s.data.toList.getD n 0).toNat=64):=fun x=>by
     rcases x with x | x
     ·omega
     ·exact x (by rw [a2]; rfl)
    rw [if_neg hnc,if_pos h64]
    have hgood:=fun h=>(hst_may (l:=l) (show n + 1≤s.size by omega) h)
    rcases hst_dom s (n + 1) (by omega) with ⟨b1,b2,b3⟩ | ⟨b1,b2⟩
    ·have hG : GoodP ⟨false,l,(hst litL s (n + 1)).2.2.2,(hst litL s (n + 1)).2.2.1⟩:=⟨rfl,g1,g2,hgood b1⟩
     rw [b3,b1,b2]
     clear hgood b1 b2 b3
     generalize (cutG (s.extract (n + 1) s.size)).2=k
     generalize (hst litL s (n + 1)).2.2.2=d at hG
     generalize (hst litL s (n + 1)).2.2.1=t at hG
     by_cases hend : n + 1 + k=s.size
     ·simp only [hend]
      by_cases h255 : t=false∧255 < d.size
      ·rw [if_pos h255]
       have hL : longR locF ⟨false,l,d,t⟩=true:=by
        unfold longR; simp only []; rw [decide_eq_true h255.2]; simp
       simp [hL]
      ·rw [if_neg h255]
       simp only [if_true,hG.right,hG.long]
       cases hLL : longR locF ⟨false,l,d,t⟩ <;> simp [hLL]
     ·simp [hend]
    ·rw [b2,b1]
     simp
   ·rw [if_neg h64]
    have hc : n=s.size∨¬ (s.data.toList.getD n 0).toNat=64:=by
     rcases Nat.lt_or_ge n s.size with x | x
     ·right
      intro e
      exact h64 ((hasB_iff s n 64).2 ⟨x,UInt8.toNat_inj.1 e⟩)
     ·left; omega
    rw [if_pos hc,fold_post]
    by_cases hp : Table.lower (s.extract 0 n).data.toList=postB
    ·rw [if_pos hp,decide_eq_true hp]
     by_cases hend : n=s.size
     ·simp [hend,post_long]
     ·simp [hend]
    ·rw [if_neg hp,decide_eq_false hp]
     simp
  ·unfold mbG mbx
   rw [l2,l1]
   simp
end Go.Proofs.YtghnopkgcgfcpaaGreatDoor.Path
namespace Go.Proofs.YtghnopkgcgfcpaaGreatDoor.Path
open Go.RowKit Base
theorem dtL_shift {q : UInt8→Bool} {ok : List UInt8→Bool} {n m : Nat} {l : List UInt8} {o : Option (List UInt8)} (h : dtL q ok n l=o) (h1 : l.length < n) (h2 : l.length < m) : dtL q ok m l=o:=by
 rw [← h]; exact dtL_fuel q ok m n l h2 h1
theorem esc_cons (c : UInt8) (l : List UInt8) : escB (c :: l)=(if c=34 then [92,34] else if c=92 then [92,92] else [c])++escB l:=rfl
theorem quo_esc (s : ByteArray) (rest : List UInt8) : ∀ (l : List UInt8) (k : Nat) (acc : List UInt8),l.all shownC=true→s.data.toList.drop k=escB l++34 :: rest→quo s k acc=(!(acc++l).isEmpty,k + (escB l).length + 1,acc++l)
 | [],k,acc,_,hd=>by
  have hd : s.data.toList.drop k=34 :: rest:=hd
  rw [quo_eq,if_pos ((hasB_cons hd).1.2 rfl),List.append_nil]; rfl
 | c :: l,k,acc,ha,hd=>by
  rw [List.all_cons,Bool.and_eq_true] at ha
  rw [esc_cons] at hd
  by_cases hc : c=34∨c=92
  ·have he : (if c=34 then [92,34] else if c=92 then [92,92] else [c])=[92,c]:=by
    rcases hc with rfl | rfl <;> rfl
   rw [he] at hd
   have hd : s.data.toList.drop k=92 :: (c :: (escB l++34 :: rest)):=hd
   obtain ⟨_,k1,k2,_⟩:=hasB_cons (c:=34) hd
   have h34 : ¬ hasB s k 34=true:=fun x=>by have:=(hasB_cons (c:=34) hd).1.1 x; revert this; decide
   have h92 : hasB s k 92=true:=(hasB_cons hd).1.2 rfl
   obtain ⟨_,k3,k4,k5⟩:=hasB_cons (c:=34) k2
   have ih:=quo_esc s rest l (k + 1 + 1) (acc++[c]) ha.2 k4
   have hstep : stepQ s k=k + 1:=by unfold stepQ; rw [if_pos h92]
   rw [quo_eq,if_neg h34,hstep,if_pos k3,k5,if_pos ha.1,ih,esc_cons,he]
   simp only [List.append_assoc,List.singleton_append,List.length_append,List.length_cons,List.length_nil]
   congr 2; omega
  ·have h1 : ¬ c=34:=fun e=>hc (Or.inl e)
   have h2 : ¬ c=92:=fun e=>hc (Or.inr e)
   have he : (if c=34 then [92,34] else if c=92 then [92,92] else [c])=[c]:=by rw [if_neg h1,if_neg h2]
   rw [he] at hd
   have hd : s.data.toList.drop k=c :: (escB l++34 :: rest):=hd
   obtain ⟨_,k1,k2,k3⟩:=hasB_cons (c:=34) hd
   have h34 : ¬ hasB s k 34=true:=fun x=>h1 ((hasB_cons (c:=34) hd).1.1 x)
   have h92 : ¬ hasB s k 92=true:=fun x=>h2 ((hasB_cons (c:=92) hd).1.1 x)
   have ih:=quo_esc s rest l (k + 1) (acc++[c]) ha.2 k2
   have hstep : stepQ s k=k:=by unfold stepQ; rw [if_neg h92]
   rw [quo_eq,if_neg h34,hstep,if_pos k1,k3,if_pos ha.1,ih,esc_cons,he]
   simp only [List.append_assoc,List.singleton_append,List.length_cons]
   congr 2; omega
theorem loc_form (l s : ByteArray) (r : List UInt8) (ha : l.data.toList.all shownC=true) (hne : l.size ≠ 0) (hs : s.data.toList=(locF l).data.toList++64 :: r) : loc s 0=(true,(locF l).size,l):=by
 unfold locF at hs ⊢
 by_cases hd : (dots atomC someB l 0).1=true∧(dots atomC someB l 0).2=l.size
 ·rw [if_pos hd] at hs ⊢
  have hw:=(dots_whole atomC someB l).1 hd
  have hsz : s.size=l.size + (r.length + 1):=by rw [← str_len,hs,List.length_append,str_len]; rfl
  have hat:=atom_shown (c:=64)
  have h64 : atomC 64=false:=by
   cases h : atomC 64 with
   | false=>rfl
   | true=>exact absurd rfl (hat h).2.2
  have hx:=dtL_app atomC someB (s.size + 1) l.data.toList (64 :: r) (fun x hx=>by cases hx; exact ⟨h64,by decide⟩)
  rw [dtL_shift hw (by rw [str_len]; omega) (by rw [str_len]; omega)] at hx
  have hx : dtL atomC someB (s.size + 1) (s.data.toList.drop 0)=some (64 :: r):=by rw [List.drop_zero,hs,hx]; rfl
  obtain ⟨a,b,c,_⟩:=dots_some (Nat.zero_le _) hx
  have hend : (dots atomC someB s 0).2=l.size:=by
   have e:=congrArg List.length b
   rw [List.length_drop,str_len,List.length_cons] at e
   omega
  have hq : ¬ hasB s 0 34=true:=by
   intro h
   obtain ⟨h1,h2⟩:=(hasB_iff s 0 34).1 h
   unfold dtL at hw
   have hp : 0 < l.data.toList.length:=by rw [str_len]; omega
   cases hl : l.data.toList with
   | nil=>rw [hl] at hp; exact absurd hp (by decide)
   | cons x y =>
    rw [hs,hl] at h2
    have h2 : x=34:=h2
    rw [hl,h2,List.takeWhile_cons] at hw
    have : atomC 34=false:=by
     cases h : atomC 34 with
     | false=>rfl
     | true=>exact absurd rfl (atom_shown h).2.1
    rw [this] at hw
    cases hw
  unfold loc
  rw [if_neg hq,a,hend]
  unfold strOf
  rw [a,if_pos rfl,hend]
  congr 2
  apply ba_ext
  rw [ext_list,List.drop_zero,hs,List.take_append_of_le_length (by rw [str_len]; exact Nat.le_refl _),List.take_of_length_le (by rw [str_len]; exact Nat.le_refl _)]
 ·rw [if_neg hd] at hs ⊢
  have hs : s.data.toList=34 :: (escB l.data.toList++34 :: (64 :: r)):=by
   rw [hs,ba_app,ba_app,List.append_assoc,List.append_assoc]; rfl
  have hdz : s.data.toList.drop 0=34 :: (escB l.data.toList++34 :: (64 :: r)):=hs
  obtain ⟨h1,_,h2,_⟩:=hasB_cons (c:=34) hdz
  have hq:=quo_esc s (64 :: r) l.data.toList 1 [] ha h2
  unfold loc
  rw [if_pos (h1.2 rfl),show quo s (0 + 1) []=quo s 1 [] from rfl,hq]
  have hne2 : l.data.toList.isEmpty=false:=by
   cases hl : l.data.toList with
   | nil=>rw [← str_len,hl] at hne; exact absurd rfl hne
   | cons x y=>rfl
  unfold strQ
  simp only [List.nil_append,hne2,Bool.not_false,if_true]
  congr 2
  rw [← str_len,ba_app,ba_app]
  simp only [List.length_append]
  show 1 + (escB l.data.toList).length + 1=1 + (escB l.data.toList).length + 1
  rfl
theorem hst_name (d s : ByteArray) (k : Nat) (hk : k≤s.size) (hd : s.data.toList.drop k=d.data.toList) (hn : nmB d=true) (hl : Table.lower d.data.toList=d.data.toList) : hst litL s k=(true,s.size,false,d):=by
 have hne:=nm_ne hn
 have hw:=(nmB_iff d).1 hn
 have hsz : s.size - k=d.size:=by
  have e:=congrArg List.length hd
  rw [List.length_drop,str_len,str_len] at e
  exact e
 have hx : dtL nameC labelB (s.size + 1) (s.data.toList.drop k)=some []:=by
  rw [hd]; exact dtL_shift hw (by rw [str_len]; omega) (by rw [str_len]; omega)
 obtain ⟨a,b,c,e⟩:=dots_some hk hx
 have hend : (dots nameC labelB s k).2=s.size:=by
  have:=(hasB_nil (c:=0) b).2
  omega
 have hq : ¬ hasB s k 91=true:=by
  intro h
  obtain ⟨h1,h2⟩:=(hasB_iff s k 91).1 h
  have h3:=drop_consD s h1
  rw [h2,hd] at h3
  exact nm_front h3 rfl hn
 unfold hst
 rw [if_neg hq,a,hend]
 unfold domOf
 rw [a,if_pos rfl,hend,lowS_eq]
 have : s.extract k s.size=d:=ba_ext (by rw [tail_list,hd])
 rw [this,hl]
theorem tw_stopL (q : UInt8→Bool) (a r : List UInt8) (c : UInt8) (ha : ∀ x ∈ a,q x=true) (hc : q c=false) : (a++c :: r).takeWhile q=a:=by
 induction a with
 | nil=>simp [hc]
 | cons x a ih =>
  rw [List.cons_append,List.takeWhile_cons,ha x List.mem_cons_self,if_pos rfl,ih (fun y hy=>ha y (List.mem_cons_of_mem _ hy))]
theorem hst_lit (d s : ByteArray) (k : Nat) (n : Cidr.NetM) (ha : Cidr.addrN d=some n) (hf : litShow n=d) (hd : s.data.toList.drop k=(litForm d).data.toList) : hst litL s k=(true,s.size,true,d):=by
 have hlf : ∃ h : List UInt8,(litForm d).data.toList=91 :: (h++d.data.toList++[93])∧((n.six=true∧h=[73,80,118,54,58])∨(n.six=false∧h=[])):=by
  unfold litForm
  by_cases h6 : n.six=true
  ·rw [if_pos ((six_index ha).2 h6)]
   refine ⟨[73,80,118,54,58],?_,Or.inl ⟨h6,rfl⟩⟩
   rw [ba_app,ba_app]; rfl
  ·rw [if_neg (fun x=>h6 ((six_index ha).1 x))]
   refine ⟨[],?_,Or.inr ⟨by simpa using h6,rfl⟩⟩
   rw [ba_app,ba_app]; rfl
 obtain ⟨h,hl,hcase⟩:=hlf
 rw [hl] at hd
 obtain ⟨h1,h2,h3,_⟩:=hasB_cons (c:=91) hd
 have hnb : ∀ x ∈ h++d.data.toList,notBr x=true:=fun x hx=>by
  rcases List.mem_append.1 hx with hx | hx
  ·rcases hcase with ⟨_,rfl⟩ | ⟨_,rfl⟩
   ·exact (show ∀ x ∈ ([73,80,118,54,58] : List UInt8),notBr x=true by decide) x hx
   ·cases hx
  ·exact addr_noBr ha x hx
 have hrow : (s.data.toList.drop (k + 1)).takeWhile notBr=h++d.data.toList:=by rw [h3]; exact tw_stopL notBr _ [] 93 hnb rfl
 have htl : (s.extract (k + 1) (k + 1 + rowN notBr s (k + 1))).data.toList=h++d.data.toList:=by rw [ext_row,hrow]
 have hrn : rowN notBr s (k + 1)=(h++d.data.toList).length:=by unfold rowN; rw [hrow]
 have hdr : s.data.toList.drop (k + 1 + rowN notBr s (k + 1))=[93]:=by
  rw [drop_row,dw_drop,hrow,h3,List.drop_append_of_le_length (Nat.le_refl _),List.drop_length]; rfl
 obtain ⟨g1,g2,g3,_⟩:=hasB_cons (c:=93) hdr
 have hend : k + 1 + rowN notBr s (k + 1) + 1=s.size:=by
  have:=(hasB_nil (c:=0) g3).2
  omega
 have hlit : litL s (k + 1)=(true,s.size,d):=by
  unfold litL litB
  generalize hT : s.extract (k + 1) (k + 1 + rowN notBr s (k + 1))=t at htl
  have h6 : isSixT t=n.six∧litU t=d:=by
   rcases hcase with ⟨c1,rfl⟩ | ⟨c1,rfl⟩
   ·have hts : t.size=5 + d.size:=by rw [← str_len,htl,List.length_append,str_len]; rfl
    have hsix : isSixT t=true:=by
     unfold isSixT
     rw [six_low,ext_list,List.drop_zero,htl,decide_eq_true (by omega),Bool.true_and,decide_eq_true_eq]
     rfl
    refine ⟨by rw [hsix,c1],?_⟩
    unfold litU
    rw [if_pos hsix]
    apply ba_ext
    rw [tail_list,htl]; rfl
   ·have htd : t=d:=ba_ext htl
    have hsix : isSixT t=false:=by
     cases hc : isSixT t with
     | false=>rfl
     | true =>
      exfalso
      unfold isSixT at hc
      rw [six_low,Bool.and_eq_true,decide_eq_true_eq,decide_eq_true_eq,ext_list,List.drop_zero,htd] at hc
      have hmem : (58 : UInt8) ∈ Table.lower (d.data.toList.take 5):=by rw [hc.2]; decide
      unfold Table.lower at hmem
      obtain ⟨x,hx1,hx2⟩:=List.mem_map.1 hmem
      have hx3 : x=58:=by
       have:=congrArg UInt8.toNat hx2
       rw [show (58 : UInt8).toNat=58 from rfl,low_not x (by omega)] at this
       exact UInt8.toNat_inj.1 this
      rw [hx3] at hx1
      have:=(addr_six ha).2 (List.mem_of_mem_take hx1)
      rw [c1] at this; cases this
    refine ⟨by rw [hsix,c1],?_⟩
    unfold litU
    rw [if_neg (by rw [hsix]; decide),htd]
  rw [h6.2,ha]
  simp only []
  rw [if_pos h6.1.symm,if_pos (g1.2 rfl),hend,hf]
 unfold hst
 rw [if_pos (h1.2 rfl),hlit]
theorem GoodP.back {p : PV} (h : GoodP p) (hpost : p.loc=⟨postB.toArray⟩→tak litL (locF p.loc)=(true,⟨false,⟨postB.toArray⟩,⟨#[]⟩,false⟩)) : tak litL (formR locF p)=(true,p):=by
 obtain ⟨n,l,d,t⟩:=p
 have hn : n=false:=h.null
 subst hn
 have hsh : l.data.toList.all shownC=true:=h.shown
 have hne : l.size ≠ 0:=h.ne
 have hm:=h.may
 by_cases hz : d.size=0
 ·have hd : d=⟨#[]⟩:=ba_ext (List.eq_nil_of_length_eq_zero (by rw [str_len]; exact hz))
  subst hd
  have ht : t=false:=by
   cases ht : t with
   | false=>rfl
   | true=>obtain ⟨_,_,_,h3,_⟩:=h.lit ht; exact absurd rfl h3
  subst ht
  unfold mayG at hm
  have hl : l=⟨postB.toArray⟩:=of_decide_eq_true hm
  have e:=hpost hl
  have hf : formR locF ⟨false,l,⟨#[]⟩,false⟩=locF l:=rfl
  rw [hf,show locF l=locF (PV.loc ⟨false,l,⟨#[]⟩,false⟩) from rfl,e,hl]
 ·have hs : ∃ r : ByteArray,formR locF ⟨false,l,d,t⟩=locF l++⟨#[64]⟩++r∧∀ (s : ByteArray) (k : Nat),k≤s.size→s.data.toList.drop k=r.data.toList→hst litL s k=(true,s.size,t,d):=by
   cases t with
   | true =>
    obtain ⟨m,g1,g2,g3,g4⟩:=h.lit rfl
    refine ⟨litForm d,?_,fun s k _ hd=>hst_lit d s k m g1 g2 hd⟩
    unfold formR; simp only []
    rw [if_neg (by decide),if_neg hz,if_pos trivial]
   | false =>
    unfold mayG at hm
    simp only [] at hm
    rw [if_neg (by decide),if_neg hz,Bool.and_eq_true,decide_eq_true_eq] at hm
    refine ⟨d,?_,fun s k hk hd=>hst_name d s k hk hd hm.1 hm.2⟩
    unfold formR; simp only []
    rw [if_neg (by decide),if_neg hz,if_neg (by decide)]
  obtain ⟨r,hf,hr⟩:=hs
  rw [hf]
  generalize hS : locF l++⟨#[64]⟩++r=s
  have hsl : s.data.toList=(locF l).data.toList++64 :: r.data.toList:=by
   rw [← hS,ba_app,ba_app,List.append_assoc]; rfl
  have hlf:=loc_form l s r.data.toList hsh hne hsl
  have hsz : s.size=(locF l).size + (r.size + 1):=by rw [← str_len,hsl,List.length_append,str_len,List.length_cons,str_len]
  have hdr : s.data.toList.drop (locF l).size=64 :: r.data.toList:=by
   rw [hsl,← str_len,List.drop_append_of_le_length (Nat.le_refl _),List.drop_length]; rfl
  obtain ⟨g1,g2,g3,_⟩:=hasB_cons (c:=64) hdr
  have hh:=hr s ((locF l).size + 1) (by omega) g3
  have hmb : mbx litL s 0=(true,s.size,⟨false,l,d,t⟩):=by
   unfold mbx
   rw [hlf]
   simp only []
   rw [if_pos trivial,if_pos (g1.2 rfl),hh]
   simp only [if_true]
  unfold tak
  rw [if_neg (by omega),hmb]
  simp
theorem tak_good {s : ByteArray} {p : PV} (h : tak litL s=(true,p)) : p=⟨true,⟨#[]⟩,⟨#[]⟩,false⟩∨GoodP p:=by
 unfold tak at h
 split at h
 ·left; injection h with _ h; exact h.symm
 ·right
  split at h
  ·rename_i hm
   injection h with _ h
   obtain ⟨h1,_⟩:=hm
   unfold mbx at h1 h
   split at h1
   ·rename_i hl
    obtain ⟨g1,g2⟩:=loc_good hl
    rw [if_pos hl] at h
    split at h1
    ·rename_i h64
     rw [if_pos h64] at h
     have h1 : (hst litL s ((loc s 0).2.1 + 1)).1=true:=h1
     simp only [h1,if_true] at h
     have hlt:=((hasB_iff _ _ _).1 h64).1
     rw [← h]
     exact ⟨rfl,g1,g2,hst_may (by omega) h1⟩
    ·rename_i h64
     rw [if_neg h64] at h
     split at h1
     ·rename_i hp
      rw [if_pos hp] at h
      rw [← h]
      show GoodP ⟨false,⟨postB.toArray⟩,⟨#[]⟩,false⟩
      exact ⟨rfl,by decide,by decide,rfl⟩
     ·cases h1
   ·cases h1
  ·cases h
theorem right_same (p : PV) (hpost : tak litL (locF ⟨postB.toArray⟩)=(true,⟨false,⟨postB.toArray⟩,⟨#[]⟩,false⟩)) : rightR litL locF p=rightG p:=by
 unfold rightR
 by_cases hg : GoodP p
 ·have hb:=hg.back (fun e=>by rw [e]; exact hpost)
  rw [hb,hg.right,hg.long,if_pos ⟨rfl,rfl⟩]
 ·by_cases hn : p=⟨true,⟨#[]⟩,⟨#[]⟩,false⟩
  ·have hf : formR locF ⟨true,⟨#[]⟩,⟨#[]⟩,false⟩=⟨#[]⟩:=rfl
   rw [hn,hf,null_long,if_pos ⟨rfl,rfl⟩,if_neg (by decide)]
   rfl
  ·have hno : ¬ ((tak litL (formR locF p)).1=true∧(tak litL (formR locF p)).2=p):=fun ⟨h1,h2⟩=>by
    have ht : tak litL (formR locF p)=(true,p):=Prod.ext h1 h2
    rcases tak_good ht with h | h
    ·exact hn h
    ·exact hg h
   rw [if_neg hno]
   unfold rightG
   by_cases h1 : p.null=true
   ·rw [if_pos h1,if_neg]
    rintro ⟨a,b,c⟩
    apply hn
    obtain ⟨n,l,d,t⟩:=p
    have e1 : l=⟨#[]⟩:=ba_ext (List.eq_nil_of_length_eq_zero (by rw [str_len]; exact a))
    have e2 : d=⟨#[]⟩:=ba_ext (List.eq_nil_of_length_eq_zero (by rw [str_len]; exact b))
    have e3 : t=false:=c
    have e4 : n=true:=h1
    rw [e1,e2,e3,e4]
   ·rw [if_neg h1]
    split
    ·rfl
    ·rename_i h2
     split
     ·rfl
     ·rename_i h3
      exfalso
      apply hg
      exact ⟨by simpa using h1,by simpa using h2,fun e=>h3 (Or.inl e),by
       cases hm : mayG p with
       | true=>rfl
       | false=>exact absurd (Or.inr hm) h3⟩
end Go.Proofs.YtghnopkgcgfcpaaGreatDoor.Path
namespace Go.Proofs.YtghnopkgcgfcpaaGreatDoor.Path
open Go.RowKit Base
theorem cut_all {s : ByteArray} (h : (cutG s).2=s.size) : (cutG s).1=s:=by
 have he : s.extract 0 s.size=s:=ba_ext (by rw [tail_list,List.drop_zero])
 unfold cutG at h ⊢
 split
 ·rename_i h1
  rw [if_pos h1] at h
  split
  ·rename_i h2
   rw [if_pos h2] at h
   have h : rowN notBr s 0 + 1=s.size:=h
   rw [h]; exact he
  ·rename_i h2
   rw [if_neg h2] at h
   have h : 0=s.size:=h
   omega
 ·rename_i h1
  rw [if_neg h1] at h
  have h : rowN dnC s 0=s.size:=h
  rw [h]; exact he
theorem litU_br {t : ByteArray} (h : (93 : UInt8) ∈ t.data.toList) : Cidr.addrN (litU t)=none:=by
 cases ha : Cidr.addrN (litU t) with
 | none=>rfl
 | some n =>
  have hn:=addr_noBr ha 93
  unfold litU at hn
  split at hn
  ·rename_i h6
   unfold isSixT at h6
   rw [six_low,Bool.and_eq_true,decide_eq_true_eq,decide_eq_true_eq,ext_list,List.drop_zero] at h6
   rw [tail_list] at hn
   rw [← List.take_append_drop 5 t.data.toList] at h
   rcases List.mem_append.1 h with h | h
   ·have hm : Table.low1 93 ∈ Table.lower (t.data.toList.take 5):=List.mem_map_of_mem h
    rw [h6.2] at hm
    exact absurd hm (by decide)
   ·exact absurd (hn h) (by decide)
  ·exact absurd (hn h) (by decide)
theorem cut_part {s : ByteArray} (h : ¬ (cutG s).2=s.size) : domG s=(⟨#[]⟩,false,90):=by
 unfold cutG at h
 split at h
 ·rename_i h1
  have hc:=drop_consD s h1.1
  rw [List.drop_zero] at hc
  have h91 : s.data.toList.getD 0 0=91:=UInt8.toNat_inj.1 h1.2
  rw [h91] at hc
  refine dom_no ?_ (nm_front hc rfl)
  unfold litG
  split
  ·rename_i h2
   have hr : rowN notBr s 0 < s.size∧1≤rowN notBr s 0∧s.data.toList.getD (rowN notBr s 0) 0=93:=by
    have hl1 : 1≤rowN notBr s 0:=by
     unfold rowN
     rw [List.drop_zero,hc,List.takeWhile_cons,if_pos (by rfl),List.length_cons]; omega
    have hle:=row_leL notBr s 0 (Nat.zero_le _)
    rw [Nat.zero_add] at hle
    rcases Nat.lt_or_ge (rowN notBr s 0) s.size with x | x
    ·refine ⟨x,hl1,?_⟩
     have hstop:=drop_head notBr (s.data.toList.drop 0)
     rw [← drop_row,Nat.zero_add,drop_consD s x] at hstop
     have:=hstop _ rfl
     unfold notBr at this
     rw [decide_eq_false_iff_not,Decidable.not_not] at this
     exact UInt8.toNat_inj.1 this
    ·exfalso
     have hall:=tw_all notBr (s.data.toList.drop 0)
     have hx : (s.data.toList.drop 0).takeWhile notBr=s.data.toList:=by
      rw [tw_take]
      show (s.data.toList.drop 0).take (rowN notBr s 0)=_
      rw [List.drop_zero,List.take_of_length_le (by rw [str_len]; exact x)]
     rw [hx] at hall
     have hp : s.size - 1 < s.data.toList.length:=by rw [str_len]; omega
     have hm:=hall _ (List.getElem_mem hp)
     have e : s.data.toList[s.size - 1]=93:=by
      have:=h2.2.2
      rw [List.getD_eq_getElem?_getD,List.getElem?_eq_getElem hp] at this
      exact UInt8.toNat_inj.1 this
     rw [e] at hm; revert hm; decide
   obtain ⟨r1,r2,r3⟩:=hr
   rw [if_pos r1] at h
   have h : ¬ rowN notBr s 0 + 1=s.size:=h
   have hmem : (93 : UInt8) ∈ (s.extract 1 (s.size - 1)).data.toList:=by
    rw [ext_list]
    have hp : rowN notBr s 0 < s.data.toList.length:=by rw [str_len]; exact r1
    rw [List.getD_eq_getElem?_getD,List.getElem?_eq_getElem hp] at r3
    refine List.mem_of_getElem? (i:=rowN notBr s 0 - 1) ?_
    rw [List.getElem?_drop,List.getElem?_take,if_pos (by omega),show 1 + (rowN notBr s 0 - 1)=rowN notBr s 0 by omega,List.getElem?_eq_getElem hp]
    congr 1
   rw [litU_br hmem]
  ·rfl
 ·rename_i h1
  have h : ¬ rowN dnC s 0=s.size:=h
  have hle:=row_leL dnC s 0 (Nat.zero_le _)
  rw [Nat.zero_add] at hle
  refine dom_no ?_ ?_
  ·unfold litG
   rw [if_neg (fun x=>h1 ⟨by omega,x.2.1⟩)]
  ·rw [nmB_iff]
   intro hd
   have hcut:=dtL_cut nameC labelB dnC dn_or (s.size + 1) s.data.toList
   rw [hd] at hcut
   split at hcut
   ·injection hcut with hcut
    have hlen:=tw_len dnC s.data.toList
    rw [← hcut,List.length_nil,Nat.add_zero,str_len] at hlen
    apply h
    unfold rowN
    rw [List.drop_zero]; exact hlen
   ·cases hcut
theorem dom_same (s : ByteArray) : domR litL s=domG s:=by
 have he : s.extract 0 s.size=s:=ba_ext (by rw [tail_list,List.drop_zero])
 have hd:=hst_dom s 0 (Nat.zero_le _)
 rw [he] at hd
 unfold domR
 by_cases hc : (cutG s).2=s.size
 ·rw [cut_all hc] at hd
  rcases hd with ⟨b1,b2,b3⟩ | ⟨b1,b2⟩
  ·rw [if_pos ⟨b1,by rw [b2,hc,Nat.zero_add]⟩,b3]
   by_cases h255 : 255 < (hst litL s 0).2.2.2.size
   ·have hlf : (hst litL s 0).2.2.1=false:=by
     rcases hst_good (Nat.zero_le _) b1 with ⟨g1,n,g2,g3⟩ | ⟨g1,_⟩
     ·have:=addr_short g2
      rw [g3] at this; omega
     ·exact g1
    rw [if_pos h255,if_pos ⟨hlf,h255⟩]
   ·rw [if_neg h255,if_neg (fun x=>h255 x.2)]
  ·rw [if_neg (fun x=>by rw [b1] at x; cases x.1),b2]
 ·rw [cut_part hc]
  rcases hd with ⟨b1,b2,b3⟩ | ⟨b1,b2⟩
  ·rw [if_neg (fun x=>hc (by rw [← x.2,b2,Nat.zero_add]))]
  ·rw [if_neg (fun x=>by rw [b1] at x; cases x.1)]
end Go.Proofs.YtghnopkgcgfcpaaGreatDoor.Path
