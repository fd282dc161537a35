/-
  MERGED by mergefill.py: R9Cid.
-/
import Derived.Test.YtghnopkgcgfcpaaGreatDoorR9L1Mg
import Derived.Test.YtghnopkgcgfcpaaGreatDoorCidrPShowMg
import Derived.Test.YtghnopkgcgfcpaaGreatDoorCidrPSixMg
namespace Go.Proofs.YtghnopkgcgfcpaaGreatDoor.Path
open Go.RowKit Base
theorem zero_all (a : List UInt8) : ∀ (n k : Nat),(∀ j,k≤j→Cidr.bitA a j=0)→Cidr.zeroF a n k=true
 | 0,_,_=>rfl
 | n + 1,k,h=>by
  unfold Cidr.zeroF
  rw [h k (Nat.le_refl _),zero_all a n (k + 1) (fun j hj=>h j (by omega))]; rfl
theorem addr_right {s : ByteArray} {n : Cidr.NetM} (h : Cidr.addrN s=some n) : n.a.length=16∧Cidr.rightN n=true∧n.bits=Cidr.sizeN n.six:=by
 unfold Cidr.addrN at h
 split at h
 ·rename_i m hf
  cases h
  unfold Cidr.fourN Cidr.fourB at hf
  split at hf
  ·rename_i hl
   cases hm : Cidr.mapO Cidr.byteN (splitB 46 s.data.toList) with
   | none=>rw [hm] at hf; cases hf
   | some ns =>
    rw [hm] at hf
    cases hf
    have h4 : ns.length=4:=by rw [Cidr.mapO_len _ hm,hl]
    refine ⟨Cidr.addr4_len (by omega),?_,rfl⟩
    unfold Cidr.rightN
    rw [Bool.and_eq_true,decide_eq_true_eq]
    refine ⟨(show (0 : Int)≤32∧(32 : Int)≤Cidr.sizeN false by decide),zero_all _ _ _ fun j hj=>?_⟩
    have hj : 32≤j:=hj
    unfold Cidr.bitA Cidr.addr4
    have : (ns.map UInt8.ofNat++List.replicate (16 - ns.length) 0).getD (j / 8) 0=0:=by
     rw [List.getD_eq_getElem?_getD,List.getElem?_append_right (by rw [List.length_map]; omega),List.getElem?_replicate]
     split <;> rfl
    rw [this]
    show 0 / _ % 2=0
    rw [Nat.zero_div]
  ·cases hf
 ·unfold Cidr.sixS at h
  split at h
  ·rename_i A B hA hB
   split at h
   ·rename_i hok
    cases h
    refine ⟨?_,?_,rfl⟩
    ·have hB0 : Cidr.firstCC s.data.toList=none→B=[]:=fun e=>by
      rw [e] at hB
      have hB : Cidr.grpsN []=some B:=hB
      unfold Cidr.grpsN at hB
      rw [if_pos rfl] at hB
      cases hB; rfl
     have hlen : (Cidr.allG A B).length=8:=by
      unfold Cidr.allG
      rw [List.length_append,List.length_append,List.length_replicate]
      unfold Cidr.okG at hok
      split at hok
      ·rename_i e
       have:=of_decide_eq_true hok
       rw [hB0 e,List.length_nil]; omega
      ·have:=of_decide_eq_true hok
       omega
     have hfm : ∀ (l : List Nat),(l.flatMap Cidr.two).length=2 * l.length:=fun l=>by
      induction l with
      | nil=>rfl
      | cons x l ih=>rw [List.flatMap_cons,List.length_append,ih,List.length_cons]; show 2 + _=_; omega
     show ((Cidr.allG A B).flatMap Cidr.two).length=16
     rw [hfm,hlen]
    ·unfold Cidr.rightN
     rw [Bool.and_eq_true,decide_eq_true_eq]
     exact ⟨(show (0 : Int)≤128∧(128 : Int)≤Cidr.sizeN true by decide),Cidr.zeroFrom_end _ (show 128≤(128 : Int).toNat by decide)⟩
   ·cases h
  ·cases h
theorem addr_shown {s : ByteArray} {n : Cidr.NetM} (h : Cidr.addrN s=some n) : Cidr.showN n=some (Cidr.addrS n):=by
 obtain ⟨_,h2,h3⟩:=addr_right h
 unfold Cidr.showN
 rw [if_pos h2,if_pos h3]
theorem addr_again {s : ByteArray} {n : Cidr.NetM} (h : Cidr.addrN s=some n) : Cidr.addrN (litShow n)=some n:=by
 obtain ⟨h1,h2,h3⟩:=addr_right h
 unfold litShow
 rw [addr_shown h]
 show Cidr.addrN ⟨(Cidr.addrS n).toArray⟩=some n
 rw [Cidr.addr_back h1 h2,← h3]
theorem addr_short {s : ByteArray} {n : Cidr.NetM} (h : Cidr.addrN s=some n) : (litShow n).size≤50:=by
 unfold litShow
 rw [addr_shown h]
 show (Cidr.addrS n).toArray.size≤50
 rw [List.size_toArray]
 exact Cidr.show_len (addr_shown h)
theorem addr_six {s : ByteArray} {n : Cidr.NetM} (h : Cidr.addrN s=some n) : n.six=true ↔ (58 : UInt8) ∈ s.data.toList:=by
 unfold Cidr.addrN at h
 split at h
 ·rename_i m hf
  cases h
  constructor
  ·intro h6
   have:=Cidr.four_kind hf
   rw [← this] at h6; cases h6
  ·intro hm
   rw [Cidr.four_colon hm] at hf; cases hf
 ·constructor
  ·intro _
   apply Classical.byContradiction
   intro hno
   rw [Cidr.six_none (fun x hx e=>hno (by rw [← e]; exact hx))] at h; cases h
  ·intro _
   have:=Cidr.six_kind h
   rw [← this]
theorem addr_nil : Cidr.addrN ⟨#[]⟩=none:=by decide +kernel
theorem grps_hex {l : List UInt8} {A : List Nat} (h : Cidr.grpsN l=some A) : ∀ x ∈ l,x=58∨Cidr.isHex x=true:=fun x hx=>by
 unfold Cidr.grpsN at h
 split at h
 ·rename_i e; rw [e] at hx; cases hx
 ·rcases Cidr.mem_split (c:=58) hx with h1 | ⟨p,hp,hxp⟩
  ·exact Or.inl h1
  ·right
   obtain ⟨y,hy⟩:=(Cidr.mapO_all h).2 p hp
   unfold Cidr.grpN at hy
   split at hy
   ·rename_i hh
    exact List.all_eq_true.1 hh.2.2 x hxp
   ·cases hy
theorem addr_noBr {s : ByteArray} {n : Cidr.NetM} (h : Cidr.addrN s=some n) : ∀ c ∈ s.data.toList,notBr c=true:=fun c hc=>by
 have hgo : ¬ c=93→notBr c=true:=fun h=>by
  unfold notBr
  rw [decide_eq_true_eq]
  exact fun e=>h (UInt8.toNat_inj.1 e)
 apply hgo
 rintro rfl
 unfold Cidr.addrN at h
 split at h
 ·rename_i m hf
  unfold Cidr.fourN Cidr.fourB at hf
  split at hf
  ·cases hm : Cidr.mapO Cidr.byteN (splitB 46 s.data.toList) with
   | none=>rw [hm] at hf; cases hf
   | some ns =>
    rcases Cidr.mem_split (c:=46) hc with h1 | ⟨p,hp,hx⟩
    ·exact absurd h1 (by decide)
    ·obtain ⟨y,hy⟩:=(Cidr.mapO_all hm).2 p hp
     have hd:=(Cidr.byteN_le hy).2
     unfold Cidr.decN at hd
     split at hd
     ·rename_i hh
      exact absurd (List.all_eq_true.1 hh.2.2.2 93 hx) (by decide)
     ·cases hd
  ·cases hf
 ·unfold Cidr.sixS at h
  split at h
  ·rename_i A B hA hB
   cases hcc : Cidr.firstCC s.data.toList with
   | none =>
    rw [hcc] at hA
    rcases grps_hex hA 93 hc with h1 | h1
    ·exact absurd h1 (by decide)
    ·exact absurd h1 (by decide)
   | some k =>
    rw [hcc] at hA hB
    have hck : Cidr.ccB s.data.toList k=true:=by
     unfold Cidr.firstCC at hcc
     exact List.find?_some hcc
    unfold Cidr.ccB at hck
    rw [Bool.and_eq_true,decide_eq_true_eq,decide_eq_true_eq] at hck
    have hA : Cidr.grpsN (s.extract 0 k).data.toList=some A:=hA
    have hB : Cidr.grpsN (s.extract (k + 2) s.size).data.toList=some B:=hB
    obtain ⟨j,hj,he⟩:=List.getElem_of_mem hc
    have hg : s.data.toList.getD j 0=93:=by rw [List.getD_eq_getElem?_getD,List.getElem?_eq_getElem hj,he]; rfl
    rcases Nat.lt_or_ge j k with hlt | hge
    ·have hm : (93 : UInt8) ∈ (s.extract 0 k).data.toList:=by
      rw [extract_bytes]
      refine List.mem_of_getElem? (i:=j) ?_
      show ((s.data.toList.take k).drop 0)[j]?=some 93
      rw [List.drop_zero,List.getElem?_take,if_pos hlt,List.getElem?_eq_getElem hj,he]
     rcases grps_hex hA 93 hm with h1 | h1
     ·exact absurd h1 (by decide)
     ·exact absurd h1 (by decide)
    ·by_cases h1 : j=k
     ·rw [h1,hck.1] at hg; exact absurd hg (by decide)
     ·by_cases h2 : j=k + 1
      ·rw [h2,hck.2] at hg; exact absurd hg (by decide)
      ·have hm : (93 : UInt8) ∈ (s.extract (k + 2) s.size).data.toList:=by
        rw [extract_bytes]
        refine List.mem_of_getElem? (i:=j - (k + 2)) ?_
        show ((s.data.toList.take s.size).drop (k + 2))[j - (k + 2)]?=some 93
        rw [List.getElem?_drop,show k + 2 + (j - (k + 2))=j by omega,List.getElem?_take,if_pos (by rw [← str_len]; exact hj),List.getElem?_eq_getElem hj,he]
       rcases grps_hex hB 93 hm with h1 | h1
       ·exact absurd h1 (by decide)
       ·exact absurd h1 (by decide)
  ·cases h
end Go.Proofs.YtghnopkgcgfcpaaGreatDoor.Path
