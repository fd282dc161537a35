/-
  MERGED by mergefill.py: CidrPShow, CidrPParse, CidrBackP.
-/
import Derived.Test.YtghnopkgcgfcpaaGreatDoorCidrG5Mg
import Derived.Test.YtghnopkgcgfcpaaGreatDoorCidrPRightMg
import Derived.Test.YtghnopkgcgfcpaaGreatDoorCidrPSixMg
set_option maxHeartbeats 16000000
set_option maxRecDepth 100000
namespace Go.Proofs.YtghnopkgcgfcpaaGreatDoor.Cidr
open Go.RowKit Base
def bitsS (n : NetM) : List UInt8:=if n.bits=sizeN n.six then [] else 47 :: Lib.decDigits n.bits.toNat
theorem pFormBits (n : NetM) (h0 : 0≤n.bits) (h1 : n.bits≤128) (w : World) (he : Env w) : Calls Tryz.prog 137 #[netV n] w fun e w'=>e=.returned (S (bitsS n))∧Below w.heap.size w w':=by
 have HN0:=Lib.hid (NetAt.new w n)
 have HB0:=Lib.hid (Below.alloc1 w (.cells (netC n) 70))
 have HM:=Lib.hid (fun wx=>pMost n.six wx)
 obtain ⟨o,ho⟩ : ∃ o,o=bitsS n:=⟨_,rfl⟩
 have HO:=Lib.hid ho
 rw [← ho]
 obtain ⟨w1,hw1⟩ : ∃ w1,w1=w.alloc (.cells (netC n) 70):=⟨_,rfl⟩
 rw [← hw1] at HN0 HB0
 have HE1:=Lib.hid (he.on HB0.out)
 have hs0:=HN0.out.six
 have hb:=HN0.out.bits
 unfold bitsS at HO
 generalize sizeN n.six=sz at HM HO
 clear ho
 by_cases hq : n.bits=sz
 ·have e1 : (n.bits == sz)=true:=by rw [hq]; simp
  have HY : Hid (o=[]):=by have:=HO.out; rw [if_pos hq] at this; exact this
  clear hq
  have HST : Hid (Below w1.heap.size w1 w1.drew∧w1.drew.cell? ⟨w.heap.size,0,none⟩=some (.bool n.six)∧w1.drew.cell? ⟨w.heap.size,1,none⟩=some (.int .i64 n.bits)):=⟨⟨rfl,rfl,rfl,Nat.le_refl _,fun _ _=>rfl⟩,hs0,hb⟩
  go_enter Tryz.func137,Tryz.ntmps137
  go_upto_region 1 with fail
  rw [← hw1]
  clear hw1
  go_region_held3 (fun w'=>Below w1.heap.size w1 w'∧w'.cell? ⟨w.heap.size,0,none⟩=some (.bool n.six)∧w'.cell? ⟨w.heap.size,1,none⟩=some (.int .i64 n.bits))
   (first | exact HST.out | assumption | fail)
   (first | (go_at_call 133; refine (HM.out _).mono ?_; rintro e wn ⟨rfl,rfl⟩) | fail)
  go_wp2
  go_ret
  exact ⟨by rw [HY.out]; rfl,(HB0.out.trans (Below.mono (Below.refl _ _).drew HB0.out.size))⟩
 ·have e1 : (n.bits == sz)=false:=by rw [beq_eq_false_iff_ne]; exact hq
  obtain ⟨m,hm⟩:=Int.eq_ofNat_of_zero_le h0
  have HY : Hid (o=47 :: Lib.decDigits m):=by have:=HO.out; rw [if_neg hq,hm] at this; exact this
  have hdl:=dec_len0 2 m (by omega)
  have hds : (⟨(Lib.decDigits m).toArray⟩ : ByteArray).size≤3:=by rw [arr_size]; exact hdl
  have hb1 : ¬ 9223372036854775807 < 1 + (⟨(Lib.decDigits m).toArray⟩ : ByteArray).size:=by omega
  have HI : Hid (∀ wx,Env wx→Calls Tryz.prog 179 #[.int .i64 (m : Int)] wx fun e w'=>e=.returned (.string ⟨(Lib.decDigits m).toArray⟩)∧Below wx.heap.size wx w'):=fun wx hx=>pItoa m (by omega) wx hx
  have HFIN : Hid ((⟨#[47]⟩ : ByteArray)++(⟨(Lib.decDigits m).toArray⟩ : ByteArray)=⟨o.toArray⟩):=by
   show _=_
   apply ByteArray.ext
   apply Array.toList_inj.1
   rw [Joins.data_append,HY.out]
   simp
  rw [hm] at hb e1
  have HST : Hid (Below w1.heap.size w1 w1.drew∧w1.drew.cell? ⟨w.heap.size,0,none⟩=some (.bool n.six)∧w1.drew.cell? ⟨w.heap.size,1,none⟩=some (.int .i64 (m : Int))):=⟨⟨rfl,rfl,rfl,Nat.le_refl _,fun _ _=>rfl⟩,hs0,hb⟩
  clear hq hm HO
  generalize (⟨(Lib.decDigits m).toArray⟩ : ByteArray)=DX at HI hds hb1 HFIN
  go_enter Tryz.func137,Tryz.ntmps137
  go_upto_region 1 with fail
  rw [← hw1]
  clear hw1
  go_region_held3 (fun w'=>Below w1.heap.size w1 w'∧w'.cell? ⟨w.heap.size,0,none⟩=some (.bool n.six)∧w'.cell? ⟨w.heap.size,1,none⟩=some (.int .i64 (m : Int)))
   (first | exact HST.out | assumption | fail)
   (first | (go_at_call 133; refine (HM.out _).mono ?_; rintro e wn ⟨rfl,rfl⟩) | fail)
  have HE2:=Lib.hid (HE1.out.on (Below.refl _ _).drew)
  go_wp2_with (first | (go_at_call 179; refine (HI.out _ HE2.out).mono ?_; rintro e w5 ⟨rfl,b5⟩; refine Hid.out ?_) | fail)
  refine Lib.hid ?_
  have HB5 : Hid (Below w.heap.size w w5):=HB0.out.trans (((Below.refl _ _).drew.trans (b5.mono (Nat.le_refl _))).mono HB0.out.size)
  clear b5
  go_wp2
  go_ret
  exact ⟨by rw [HFIN.out]; rfl,HB5.out⟩
theorem pShow (n : NetM) (ha : n.a.length=16) (w : World) (he : EnvS w) : Calls Tryz.prog 99 #[netV n] w (ShowEnd (showN n) w):=by
 obtain ⟨o,ho⟩ : ∃ o,o=showN n:=⟨_,rfl⟩
 rw [← ho]
 unfold showN at ho
 have hnb:=fun h=>rightN_bits (n:=n) h
 have HRI:=Lib.hid (fun wx=>pRight n ha wx)
 have HA:=Lib.hid ha
 have HN0:=Lib.hid (NetAt.new w n)
 have HB0:=Lib.hid (Below.alloc1 w (.cells (netC n) 70))
 have HE0:=Lib.hid (he.on HB0.out)
 have HS:=Lib.hid (size25_of ha)
 have HS23:=Lib.hid (size23_of ha)
 have HPB:=Lib.hid (fun h0 h1 wx hx=>pFormBits n h0 h1 wx hx)
 have HF4:=Lib.hid (fun wx hx=>pFormFour n.a ha wx hx)
 have HF6:=Lib.hid (fun wx hx=>pFormSix n.a ha wx hx)
 generalize rightN n=r at ho hnb HRI
 have HO:=Lib.hid ho
 clear ho ha he
 go_enter Tryz.func99,Tryz.ntmps99
 go_wp2_with (first | (refine wpList_load_mid rfl 70 (.tmp 1) rfl w.heap.size 0 rfl (netL n) _ HN0.out.range0 Tryz.underlying70 rfl HS.out ?_) | (go_at_call 134; refine (HRI.out _).mono ?_; rintro e w1 ⟨rfl,b1⟩; refine Hid.out ?_) | fail)
 refine Lib.hid ?_
 have HN1:=Lib.hid (HN0.out.on b1)
 have HB1 : Hid (Below w.heap.size w w1):=HB0.out.trans (b1.mono HB0.out.size)
 have HE1:=Lib.hid (HE0.out.on b1)
 clear b1
 cases r with
 | false =>
  have HNO : Hid (o=none):=HO.out
  go_wp2
  go_ret2
  exact ⟨HB1.out,Or.inl ⟨HNO.out,rfl⟩⟩
 | true =>
  obtain ⟨hb0,hb1⟩:=hnb rfl
  have HYES : Hid (o=some (addrS n++bitsS n)):=by
   show _=_
   rw [HO.out,if_pos rfl]
   unfold bitsS
   split
   ·simp
   ·simp
  have HPB2:=Lib.hid (HPB.out hb0 (by have : sizeN n.six≤128:=(by unfold sizeN; split <;> decide); omega))
  have HRG:=Lib.hid HN1.out.range
  have hsix:=HN1.out.six
  clear hnb HO
  go_wp2_with (first | (refine wpList_load_mid rfl 68 (.tmp 8) rfl w.heap.size 2 rfl (n.a.map B8) _ HRG.out Tryz.underlying68 rfl HS23.out ?_) | (go_at_call 135; refine (HF4.out _ HE1.out.env).mono ?_; rintro e w2 ⟨rfl,b2⟩; refine Hid.out ?_) | fail)
  refine Lib.hid ?_
  have HN2:=Lib.hid (HN1.out.on b2)
  have HB2 : Hid (Below w.heap.size w w2):=HB1.out.trans (b2.mono HB1.out.size)
  have HE2:=Lib.hid (HE1.out.on b2)
  clear b2 hsix
  have hsix:=HN2.out.six
  obtain ⟨T,hT⟩ : ∃ T : ByteArray,T=⟨(addrS n).toArray⟩:=⟨_,rfl⟩
  have HT:=Lib.hid hT
  clear hT
  go_upto_if 12 with fail
  go_cut [4] (fun s wx=>s=.string T∧Below w2.heap.size w2 wx∧T.size≤100)
  case first =>
   cases h6 : n.six with
   | true =>
    have HRG2:=Lib.hid HN2.out.range
    have HF:=Lib.hid (HF6.out w2 HE2.out)
    rw [h6] at hsix
    have HE : Hid ((⟨(form6 n.a).toArray⟩ : ByteArray)=T):=by
     show _=_
     rw [HT.out]; unfold addrS; rw [if_pos h6]
    have HL : Hid (T.size≤100):=by
     have:=form6_len n.a
     show T.size≤100
     rw [← HE.out,arr_size]; omega
    clear h6
    go_wp2_with (first | (refine wpList_load_mid rfl 68 (.tmp 13) rfl w.heap.size 2 rfl (n.a.map B8) _ HRG2.out Tryz.underlying68 rfl HS23.out ?_) | (go_at_call 136; refine HF.out.mono ?_; rintro e w3 ⟨rfl,b3⟩; refine Hid.out ?_) | fail)
    refine Lib.hid ?_
    have B3:=Lib.hid b3
    clear b3
    go_wp2
    go_meet
    exact ⟨by rw [← HE.out],B3.out,HL.out⟩
   | false =>
    rw [h6] at hsix
    have HE : Hid ((⟨(fourA n.a 4).toArray⟩ : ByteArray)=T):=by
     show _=_
     rw [HT.out]; unfold addrS; rw [if_neg (by rw [h6]; simp)]
    have HL : Hid (T.size≤100):=by
     have:=fourA_len n.a 4
     show T.size≤100
     rw [← HE.out,arr_size]; omega
    clear h6
    go_wp2
    go_meet
    exact ⟨by rw [← HE.out],Below.refl _ _,HL.out⟩
  case rest =>
   obtain ⟨rfl,hbc,hTl⟩:=hcut
   have HN3:=Lib.hid (HN2.out.on hbc)
   have HB3 : Hid (Below w.heap.size w wc):=HB2.out.trans (hbc.mono HB2.out.size)
   have HE3:=Lib.hid (HE2.out.on hbc)
   have hbl : (bitsS n).length≤4:=by
    unfold bitsS
    split
    ·simp
    ·have:=dec_len0 2 n.bits.toNat (by omega)
     rw [List.length_cons]; omega
   have HP : Hid (Calls Tryz.prog 137 #[netV n] wc fun e w'=>e=.returned (.string ⟨(bitsS n).toArray⟩)∧Below wc.heap.size wc w'):=HPB2.out wc HE3.out.env
   have hds : (⟨(bitsS n).toArray⟩ : ByteArray).size≤4:=by rw [arr_size]; exact hbl
   have HFIN : Hid (T++(⟨(bitsS n).toArray⟩ : ByteArray)=⟨(addrS n++bitsS n).toArray⟩):=by
    show _=_
    apply ByteArray.ext
    apply Array.toList_inj.1
    rw [Joins.data_append,HT.out]
   generalize (⟨(bitsS n).toArray⟩ : ByteArray)=DX at HP hds HFIN
   have hb9 : ¬ 9223372036854775807 < T.size + DX.size:=by omega
   clear hbc hsix hbl
   go_wp2_with (first | (refine wpList_load_mid rfl 70 (.tmp 1) rfl w.heap.size 0 rfl (netL n) _ HN3.out.range0 Tryz.underlying70 rfl HS.out ?_) | (go_at_call 137; refine HP.out.mono ?_; rintro e w5 ⟨rfl,b5⟩; refine Hid.out ?_) | fail)
   refine Lib.hid ?_
   have HB5 : Hid (Below w.heap.size w w5):=HB3.out.trans (b5.mono HB3.out.size)
   clear b5
   go_wp2
   go_ret2
   exact ⟨HB5.out,Or.inr ⟨_,HYES.out,by rw [HFIN.out]; rfl⟩⟩
end Go.Proofs.YtghnopkgcgfcpaaGreatDoor.Cidr
namespace Go.Proofs.YtghnopkgcgfcpaaGreatDoor.Cidr
open Go.RowKit Base
end Go.Proofs.YtghnopkgcgfcpaaGreatDoor.Cidr
namespace Go.Proofs.YtghnopkgcgfcpaaGreatDoor.Cidr
open Go.RowKit Base
theorem join_two (x y : List UInt8) (q : List (List UInt8)) (c : UInt8) : Lib.join (x :: y :: q) [c]=x++c :: Lib.join (y :: q) [c]:=by
 rw [Lib.join_cons,Lib.join_cons]
 simp [Lib.joinTail]
theorem split_join (c : UInt8) : ∀ (r : List (List UInt8)) (x : List UInt8),(∀ l ∈ x :: r,∀ y ∈ l,y ≠ c)→splitB c (Lib.join (x :: r) [c])=x :: r
 | [],x,h=>by rw [Lib.join_one]; exact splitB_none (h x List.mem_cons_self)
 | y :: q,x,h=>by
  rw [join_two,splitB_at (h x List.mem_cons_self),split_join c q y fun l hl=>h l (List.mem_cons_of_mem _ hl)]
theorem mem_join {c z : UInt8} : ∀ {ls : List (List UInt8)},z ∈ Lib.join ls [c]→z=c∨∃ l ∈ ls,z ∈ l
 | [],h=>by rw [Lib.join_nil] at h; cases h
 | [x],h=>by rw [Lib.join_one] at h; exact Or.inr ⟨x,List.mem_cons_self,h⟩
 | x :: y :: q,h=>by
  rw [join_two] at h
  rcases List.mem_append.1 h with h | h
  ·exact Or.inr ⟨x,List.mem_cons_self,h⟩
  ·rcases List.mem_cons.1 h with h | h
   ·exact Or.inl h
   ·rcases mem_join h with h | ⟨l,hl,hz⟩
    ·exact Or.inl h
    ·exact Or.inr ⟨l,List.mem_cons_of_mem _ hl,hz⟩
theorem dec_back0 : ∀ n : Fin 1000,decN (Lib.decDigits n.val)=some n.val:=by decide +kernel
theorem dec_back (n : Nat) (h : n≤999) : decN (Lib.decDigits n)=some n:=dec_back0 ⟨n,by omega⟩
theorem dec_dig {n : Nat} (h : n≤999) : ∀ x ∈ Lib.decDigits n,isDig x=true:=by
 have:=dec_back n h
 unfold decN at this
 split at this
 ·rename_i hh; exact List.all_eq_true.1 hh.2.2.2
 ·cases this
theorem byte_back (x : UInt8) : byteN (Lib.decDigits x.toNat)=some x.toNat:=by
 have hx:=x.toNat_lt
 unfold byteN
 rw [dec_back x.toNat (by omega)]
 simp only
 rw [if_pos (by omega)]
theorem dig_ne {x : UInt8} (h : isDig x=true) : x ≠ 46∧x ≠ 47∧x ≠ 58:=by
 have:=(dig_iff x).1 h
 refine ⟨?_,?_,?_⟩
 all_goals
  rintro rfl
  revert this
  decide
theorem hexDig_hex (n : Nat) (h : n < 16) : isHex (hexDig n)=true∧hexV (hexDig n)=n:=by
 have : ∀ k : Fin 16,isHex (hexDig k.val)=true∧hexV (hexDig k.val)=k.val:=by decide +kernel
 exact this ⟨n,h⟩
theorem hexD_hex (n : Nat) : (hexD n).all isHex=true∧hexF (hexD n)=n:=by
 induction n using Nat.strongRecOn with
 | ind n ih =>
  rw [hexD]
  split
  ·rename_i h
   obtain ⟨h1,h2⟩:=hexDig_hex n h
   exact ⟨by simp [h1],by simp [hexF,h2]⟩
  ·rename_i h
   obtain ⟨h1,h2⟩:=hexDig_hex (n % 16) (Nat.mod_lt _ (by decide))
   obtain ⟨h3,h4⟩:=ih (n / 16) (by omega)
   exact ⟨by rw [List.all_append,h3]; simp [h1],by rw [hexF_snoc,h4,h2]; omega⟩
theorem hex_ne {x : UInt8} (h : isHex x=true) : x ≠ 46∧x ≠ 47∧x ≠ 58:=by
 have:=(hex_iff x).1 h
 refine ⟨?_,?_,?_⟩
 all_goals
  rintro rfl
  revert this
  decide
theorem grp_back (n : Nat) (h : n≤65535) : grpN (hexD n)=some n:=by
 obtain ⟨h1,h2⟩:=hexD_hex n
 have h3:=hexD_len n h
 have h4:=List.length_pos_iff.2 (hexD_last n).1
 unfold grpN
 rw [if_pos ⟨by omega,h3,h1⟩,h2]
theorem grps_map : ∀ (gs : List Nat),(∀ g ∈ gs,g≤65535)→mapO grpN (gs.map hexD)=some gs
 | [],_=>rfl
 | g :: r,h=>by
  rw [List.map_cons,mapO,grp_back g (h g List.mem_cons_self),grps_map r fun x hx=>h x (List.mem_cons_of_mem _ hx)]
theorem hex_piece {gs : List Nat} : ∀ l ∈ gs.map hexD,l ≠ []∧∀ x ∈ l,x ≠ 46∧x ≠ 47∧x ≠ 58:=fun l hl=>by
 obtain ⟨g,_,rfl⟩:=List.mem_map.1 hl
 exact ⟨(hexD_last g).1,fun x hx=>hex_ne (List.all_eq_true.1 (hexD_hex g).1 x hx)⟩
theorem join_ne {x : List UInt8} {r : List (List UInt8)} (h : x ≠ []) : Lib.join (x :: r) [58] ≠ []:=by
 rw [Lib.join_cons]
 intro e
 exact h (List.append_eq_nil_iff.1 e).1
theorem grps_join (gs : List Nat) (h : ∀ g ∈ gs,g≤65535) : grpsN (Lib.join (gs.map hexD) [58])=some gs:=by
 cases gs with
 | nil=>rfl
 | cons g r =>
  unfold grpsN
  rw [List.map_cons,if_neg (join_ne (hexD_last g).1),split_join 58 (r.map hexD) (hexD g) fun l hl y hy=>((hex_piece l (by rw [← List.map_cons] at hl; exact hl)).2 y hy).2.2,← List.map_cons]
  exact grps_map _ h
theorem cc_cons {a : UInt8} {l : List UInt8} (h : ∀ j,ccB l j=false) (ha : a ≠ 58∨l.getD 0 0 ≠ 58) : ∀ j,ccB (a :: l) j=false
 | 0=>by
  unfold ccB
  rw [Bool.and_eq_false_iff,decide_eq_false_iff_not,decide_eq_false_iff_not]
  simpa using ha
 | j + 1=>by
  have:=h j
  unfold ccB at this ⊢
  simpa using this
theorem cc_app {l : List UInt8} (h : ∀ j,ccB l j=false) : ∀ (x : List UInt8),(∀ y ∈ x,y ≠ 58)→∀ j,ccB (x++l) j=false
 | [],_=>h
 | y :: r,hx=>cc_cons (cc_app h r fun z hz=>hx z (List.mem_cons_of_mem _ hz)) (Or.inl (hx y List.mem_cons_self))
theorem cc_tail : ∀ (r : List (List UInt8)),(∀ l ∈ r,l ≠ []∧∀ y ∈ l,y ≠ 58)→∀ j,ccB (Lib.joinTail [58] r) j=false
 | [],_=>fun j=>by simp [Lib.joinTail,ccB]
 | y :: q,h=>by
  have e : Lib.joinTail [58] (y :: q)=58 :: (y++Lib.joinTail [58] q):=by simp [Lib.joinTail]
  rw [e]
  obtain ⟨h1,h2⟩:=h y List.mem_cons_self
  refine cc_cons (cc_app (cc_tail q fun l hl=>h l (List.mem_cons_of_mem _ hl)) y h2) (Or.inr ?_)
  cases y with
  | nil=>exact absurd rfl h1
  | cons z t=>simpa using h2 z List.mem_cons_self
theorem cc_join (ls : List (List UInt8)) (h : ∀ l ∈ ls,l ≠ []∧∀ y ∈ l,y ≠ 58) : ∀ j,ccB (Lib.join ls [58]) j=false:=by
 cases ls with
 | nil=>intro j; simp [Lib.join_nil,ccB]
 | cons x r =>
  rw [Lib.join_cons]
  exact cc_app (cc_tail r fun l hl=>h l (List.mem_cons_of_mem _ hl)) x (h x List.mem_cons_self).2
theorem last_tail : ∀ (r : List (List UInt8)) (x : List UInt8),(∀ l ∈ x :: r,l ≠ []∧∀ y ∈ l,y ≠ 58)→(x++Lib.joinTail [58] r).getLastD 0 ≠ 58
 | [],x,h=>by
  obtain ⟨h1,h2⟩:=h x List.mem_cons_self
  rw [show Lib.joinTail [58] ([] : List (List UInt8))=[] from rfl,List.append_nil,List.getLastD_eq_getLast?,List.getLast?_eq_some_getLast h1]
  exact h2 _ (List.getLast_mem h1)
 | y :: q,x,h=>by
  have e : x++Lib.joinTail [58] (y :: q)=(x++[58])++(y++Lib.joinTail [58] q):=by simp [Lib.joinTail]
  have hy:=(h y (List.mem_cons_of_mem _ List.mem_cons_self)).1
  rw [e,getLastD_append (by intro e; exact hy (List.append_eq_nil_iff.1 e).1)]
  exact last_tail q y fun l hl=>h l (List.mem_cons_of_mem _ hl)
theorem getD_last {l : List UInt8} {j : Nat} (h : j + 1=l.length) : l.getD j 0=l.getLastD 0:=by
 rw [List.getLastD_eq_getLast?,List.getLast?_eq_getElem?,List.getD_eq_getElem?_getD,show l.length - 1=j by omega]
theorem getD_app {l R : List UInt8} {j : Nat} (h : j < l.length) : (l++R).getD j 0=l.getD j 0:=by
 rw [List.getD_eq_getElem?_getD,List.getElem?_append_left h,← List.getD_eq_getElem?_getD]
theorem cc_front (ls : List (List UInt8)) (h : ∀ l ∈ ls,l ≠ []∧∀ y ∈ l,y ≠ 58) (R : List UInt8) : ∀ j,j < (Lib.join ls [58]).length→ccB (Lib.join ls [58]++R) j=false:=fun j hj=>by
 by_cases h1 : j + 1 < (Lib.join ls [58]).length
 ·have:=cc_join ls h j
  unfold ccB at this ⊢
  rw [getD_app hj,getD_app h1]
  exact this
 ·have hl : (Lib.join ls [58]).getD j 0 ≠ 58:=by
   rw [getD_last (by omega)]
   cases ls with
   | nil=>rw [Lib.join_nil] at hj; simp at hj
   | cons x r=>rw [Lib.join_cons]; exact last_tail r x h
  unfold ccB
  rw [getD_app hj,decide_eq_false hl,Bool.false_and]
theorem best_run (G : List Nat) : ∀ (k i : Nat),(bestN G k).1=some i→(bestN G k).2=runN G i
 | 0,i,h=>by cases h
 | k + 1,i,h=>by
  unfold bestN at h ⊢
  split at h
  ·rename_i hh
   rw [if_pos hh]
   simp only [Option.some.injEq] at h
   rw [h]
  ·rename_i hh
   rw [if_neg hh]
   exact best_run G k i h
theorem run_zeros {G : List Nat} {i : Nat} (h : i + runN G i≤G.length) : G=G.take i++(List.replicate (runN G i) 0++G.drop (i + runN G i)):=by
 apply List.ext_getElem?
 intro j
 by_cases h1 : j < i
 ·rw [List.getElem?_append_left (by rw [List.length_take]; omega),List.getElem?_take_of_lt h1]
 ·have hl : (G.take i).length=i:=by rw [List.length_take]; omega
  rw [List.getElem?_append_right (by omega),hl]
  by_cases h2 : j - i < runN G i
  ·rw [List.getElem?_append_left (by rw [List.length_replicate]; exact h2),List.getElem?_replicate,if_pos h2]
   have:=runN_zero h2
   rw [show i + (j - i)=j by omega,List.getD_eq_getElem?_getD,List.getElem?_eq_getElem (by omega),Option.getD_some] at this
   rw [List.getElem?_eq_getElem (by omega),this]
  ·rw [List.getElem?_append_right (by rw [List.length_replicate]; omega),List.length_replicate,List.getElem?_drop,show i + runN G i + (j - i - runN G i)=j by omega]
theorem groups_back {a : List UInt8} (ha : a.length=16) : (grpsA a).flatMap two=a:=by
 obtain ⟨a0,a1,a2,a3,a4,a5,a6,a7,a8,a9,a10,a11,a12,a13,a14,a15,rfl⟩:=list16 ha
 have h : ∀ x y : UInt8,two (256 * x.toNat + y.toNat)=[x,y]:=fun x y=>by
  have h1:=x.toNat_lt
  have h2:=y.toNat_lt
  unfold two
  rw [show (256 * x.toNat + y.toNat) / 256=x.toNat by omega,show (256 * x.toNat + y.toNat) % 256=y.toNat by omega]
  simp
 have e : ∀ l : List UInt8,grpsA l=[grpA l 0,grpA l 1,grpA l 2,grpA l 3,grpA l 4,grpA l 5,grpA l 6,grpA l 7]:=fun l=>by
  unfold grpsA; rw [show List.range 8=[0,1,2,3,4,5,6,7] from rfl]; rfl
 rw [e]
 simp only [List.flatMap_cons,List.flatMap_nil,grpA,h,List.append_nil]
 rfl
theorem grps_le (a : List UInt8) : ∀ g ∈ grpsA a,g≤65535:=fun g hg=>by
 unfold grpsA at hg
 obtain ⟨i,_,rfl⟩:=List.mem_map.1 hg
 exact grpA_le a i
theorem toList_arr (l : List UInt8) : (⟨l.toArray⟩ : ByteArray).data.toList=l:=rfl
theorem six_back (a : List UInt8) (ha : a.length=16) : sixS ⟨(form6 a).toArray⟩=some ⟨true,128,a⟩:=by
 have hf : form6 a=form6P (grpsA a):=form6_eq (grpsA a) (grpsA_len a)
 have hz:=zeros_best (grpsA a) (grpsA_len a)
 have hG:=grpsA_len a
 have hle:=grps_le a
 have hba:=groups_back ha
 have hbr:=best_run (grpsA a) 8
 have hpc : ∀ gs : List Nat,∀ l ∈ gs.map hexD,l ≠ []∧∀ y ∈ l,y ≠ 58:=fun gs l hl=>⟨(hex_piece l hl).1,fun y hy=>((hex_piece l hl).2 y hy).2.2⟩
 rw [hf]
 unfold form6P
 generalize grpsA a=G at hf hz hG hle hba hbr
 cases ho : (bestN G 8).1 with
 | none =>
  rw [ho] at hz
  simp only at hz
  rw [if_pos hz]
  have hno : firstCC (Lib.join (G.map hexD) [58])=none:=by
   have:=firstCC_none (s:=⟨(Lib.join (G.map hexD) [58]).toArray⟩) (k:=(Lib.join (G.map hexD) [58]).length) (by rw [arr_size]; omega) (fun j _=>cc_join _ (hpc G) j)
   exact this
  unfold sixS
  rw [toList_arr,hno]
  show (match grpsN (Lib.join (G.map hexD) [58]),grpsN [] with | some A,some B=>if okG none A.length B.length=true then some (⟨true,128,(allG A B).flatMap two⟩ : NetM) else none | _,_=>none)=_
  rw [grps_join G hle]
  show (if decide (G.length=8)=true then some (⟨true,128,(allG G []).flatMap two⟩ : NetM) else none)=_
  rw [if_pos (by rw [hG]; rfl)]
  have : allG G []=G:=by unfold allG; rw [hG]; simp
  rw [this,hba]
 | some k =>
  rw [ho] at hz
  simp only at hz
  obtain ⟨h1,h2,h3,h4⟩:=hz
  rw [if_neg (by omega),h1,h2]
  have hm:=hbr k ho
  rw [hm] at h2 h3 h4 ⊢
  have hdec:=run_zeros (G:=G) (i:=k) (by omega)
  obtain ⟨m,hmm⟩ : ∃ m,m=runN G k:=⟨_,rfl⟩
  rw [← hmm] at hdec h3 h4 ⊢
  have hA : ∀ g ∈ G.take k,g≤65535:=fun g hg=>hle g (List.mem_of_mem_take hg)
  have hB : ∀ g ∈ G.drop (k + m),g≤65535:=fun g hg=>hle g (List.mem_of_mem_drop hg)
  have hla : (G.take k).length=k:=by rw [List.length_take]; omega
  have hlb : (G.drop (k + m)).length=8 - (k + m):=by rw [List.length_drop,hG]
  generalize G.take k=A at hdec hA hla
  generalize G.drop (k + m)=B at hdec hB hlb
  have hga:=grps_join A hA
  have hgb:=grps_join B hB
  have hfr:=cc_front (A.map hexD) (hpc A) (58 :: 58 :: Lib.join (B.map hexD) [58])
  have e : (Lib.join (A.map hexD) [58]++[58,58])++Lib.join (B.map hexD) [58]=Lib.join (A.map hexD) [58]++58 :: 58 :: Lib.join (B.map hexD) [58]:=by simp
  rw [e]
  generalize Lib.join (A.map hexD) [58]=X at hga hfr
  generalize Lib.join (B.map hexD) [58]=Y at hgb hfr
  have hcc : firstCC (X++58 :: 58 :: Y)=some X.length:=by
   refine firstCC_some (s:=⟨(X++58 :: 58 :: Y).toArray⟩) (k:=X.length) (by rw [arr_size,List.length_append]; simp) hfr ?_
   unfold ccB
   rw [toList_arr,List.getD_eq_getElem?_getD,List.getD_eq_getElem?_getD,List.getElem?_append_right (Nat.le_refl _),List.getElem?_append_right (by omega),Nat.sub_self,show X.length + 1 - X.length=1 by omega]
   rfl
  have hh : (headS ⟨(X++58 :: 58 :: Y).toArray⟩ (some X.length)).data.toList=X:=by
   show (ByteArray.extract _ 0 _).data.toList=_
   rw [extract_bytes,toList_arr]; simp
  have ht : (tailS ⟨(X++58 :: 58 :: Y).toArray⟩ (some X.length)).data.toList=Y:=by
   show (ByteArray.extract _ (X.length + 2) _).data.toList=_
   rw [extract_bytes,toList_arr,arr_size,List.take_of_length_le (Nat.le_refl _),List.drop_append]
   simp
  unfold sixS
  rw [toList_arr,hcc,hh,ht,hga,hgb]
  show (if decide (A.length + B.length≤7)=true then some (⟨true,128,(allG A B).flatMap two⟩ : NetM) else none)=_
  rw [if_pos (by rw [decide_eq_true_iff]; omega)]
  have : allG A B=G:=by
   unfold allG
   rw [hla,hlb,show 8 - k - (8 - (k + m))=m by omega,← hdec]
  rw [this,hba]
theorem form6_chars (a : List UInt8) : ∀ x ∈ form6 a,x ≠ 46∧x ≠ 47:=by
 have hf : form6 a=form6P (grpsA a):=form6_eq (grpsA a) (grpsA_len a)
 have hj : ∀ gs : List Nat,∀ x ∈ Lib.join (gs.map hexD) [58],x ≠ 46∧x ≠ 47:=fun gs x hx=>by
  rcases mem_join hx with rfl | ⟨l,hl,hz⟩
  ·decide
  ·have:=(hex_piece l hl).2 x hz; exact ⟨this.1,this.2.1⟩
 rw [hf]
 unfold form6P
 intro x hx
 split at hx
 ·exact hj _ x hx
 ·rcases List.mem_append.1 hx with hx | hx
  ·rcases List.mem_append.1 hx with hx | hx
   ·exact hj _ x hx
   ·simp only [List.mem_cons,List.mem_nil_iff,or_false] at hx
    rcases hx with rfl | rfl <;> decide
  ·exact hj _ x hx
theorem right_zero0 {n : NetM} (h : rightN n=true) : ∀ j,n.bits.toNat≤j→j < 128→bitA n.a j=0:=by
 unfold rightN at h
 rw [Bool.and_eq_true,zeroFrom_iff] at h
 exact h.2
theorem fourA_join (a : List UInt8) : fourA a 4=Lib.join [Lib.decDigits (a.getD 0 0).toNat,Lib.decDigits (a.getD 1 0).toNat,Lib.decDigits (a.getD 2 0).toNat,Lib.decDigits (a.getD 3 0).toNat] [46]:=by
 rw [← four_join,show List.range 4=[0,1,2,3] from rfl]; rfl
theorem four_digs (a : List UInt8) : ∀ l ∈ [Lib.decDigits (a.getD 0 0).toNat,Lib.decDigits (a.getD 1 0).toNat,Lib.decDigits (a.getD 2 0).toNat,Lib.decDigits (a.getD 3 0).toNat],∀ y ∈ l,y ≠ 46∧y ≠ 47∧y ≠ 58:=fun l hl y hy=>by
 have h : ∀ i,∀ y ∈ Lib.decDigits (a.getD i 0).toNat,y ≠ 46∧y ≠ 47∧y ≠ 58:=fun i y hy=>dig_ne (dec_dig (by have:=(a.getD i 0).toNat_lt; omega) y hy)
 simp only [List.mem_cons,List.mem_nil_iff,or_false] at hl
 rcases hl with rfl | rfl | rfl | rfl
 ·exact h 0 y hy
 ·exact h 1 y hy
 ·exact h 2 y hy
 ·exact h 3 y hy
theorem four_zero {n : NetM} (ha : n.a.length=16) (h6 : n.six=false) (hr : rightN n=true) : n.a=[n.a.getD 0 0,n.a.getD 1 0,n.a.getD 2 0,n.a.getD 3 0]++List.replicate 12 0:=by
 have hb : n.bits.toNat≤32:=by
  unfold rightN at hr
  rw [Bool.and_eq_true,decide_eq_true_iff,h6] at hr
  have:=hr.1.2
  have : n.bits≤32:=this
  omega
 have hz:=right_zero0 hr
 refine (addr_ext ha (by simp)).2 fun j hj=>?_
 by_cases h32 : j < 32
 ·unfold bitA
  have h4 : j / 8 < 4:=by omega
  congr 3
  rw [getD_app (by simpa using h4)]
  rcases (by omega : j / 8=0∨j / 8=1∨j / 8=2∨j / 8=3) with h | h | h | h <;> rw [h] <;> rfl
 ·rw [hz j (by omega) hj]
  unfold bitA
  rw [List.getD_eq_getElem?_getD,List.getElem?_append_right (by simp; omega),List.getElem?_replicate]
  split <;> simp
theorem four_back {n : NetM} (ha : n.a.length=16) (h6 : n.six=false) (hr : rightN n=true) : fourN (fourA n.a 4)=some ⟨false,32,n.a⟩:=by
 have hd:=four_digs n.a
 have hz:=four_zero ha h6 hr
 rw [fourA_join]
 unfold fourN fourB
 rw [split_join 46 _ _ fun l hl y hy=>(hd l hl y hy).1]
 rw [if_pos (by rfl)]
 simp only [mapO,byte_back,Option.map_some]
 congr 2
 unfold addr4
 conv=>rhs; rw [hz]
 simp
theorem addr_back {n : NetM} (ha : n.a.length=16) (hr : rightN n=true) : addrN ⟨(addrS n).toArray⟩=some ⟨n.six,sizeN n.six,n.a⟩:=by
 unfold addrN addrS
 cases h6 : n.six with
 | true =>
  rw [if_pos rfl,toList_arr]
  have hsp : splitB 46 (form6 n.a)=[form6 n.a]:=splitB_none fun x hx=>(form6_chars n.a x hx).1
  have hno : fourN (form6 n.a)=none:=by
   unfold fourN fourB
   rw [hsp,if_neg (by simp)]; rfl
  rw [hno]
  exact six_back n.a ha
 | false =>
  rw [if_neg (by simp),toList_arr,four_back ha h6 hr]
  rfl
theorem show_len {n : NetM} {l : List UInt8} (h : showN n=some l) : l.length≤50:=by
 unfold showN at h
 split at h
 ·rename_i hr
  have hb:=rightN_bits hr
  have h1:=addrS_len n
  have h2:=dec_len0 2 n.bits.toNat (by omega)
  simp only [Option.some.injEq] at h
  subst h
  split
  ·omega
  ·simp; omega
 ·cases h
end Go.Proofs.YtghnopkgcgfcpaaGreatDoor.Cidr
