/-
  MERGED by mergefill.py: R9L1, R9Loc, R9L2, R9Lit.
-/
import Derived.Test.YtghnopkgcgfcpaaGreatDoorBaseMg
import Derived.Test.YtghnopkgcgfcpaaGreatDoorR9DotMg
import Derived.Test.YtghnopkgcgfcpaaGreatDoorPthRepPMg
import Derived.Test.YtghnopkgcgfcpaaGreatDoorR9NamMg
import Derived.Test.YtghnopkgcgfcpaaGreatDoorPthBldMg
import Derived.Test.YtghnopkgcgfcpaaGreatDoorCidrAddrMg
import Derived.Test.YtghnopkgcgfcpaaGreatDoorCidrForm2Mg
import Derived.Test.YtghnopkgcgfcpaaGreatDoorTabWordsMg
namespace Go.Proofs.YtghnopkgcgfcpaaGreatDoor.Path
open Go.RowKit Base
def dtL (q : UInt8→Bool) (ok : List UInt8→Bool) : Nat→List UInt8→Option (List UInt8)
 | 0,_=>none
 | n + 1,l=>if ok (l.takeWhile q)=true then (match l.dropWhile q with | []=>some [] | c :: r=>if c=46 then dtL q ok n r else some (c :: r)) else none
theorem tw_app (q : UInt8→Bool) : ∀ (a r : List UInt8),(∀ x ∈ r.head?,q x=false)→(a++r).takeWhile q=a.takeWhile q∧(a++r).dropWhile q=a.dropWhile q++r
 | [],r,h=>by
  cases r with
  | nil=>exact ⟨rfl,rfl⟩
  | cons x r=>have:=h x rfl; simp [List.takeWhile,List.dropWhile,this]
 | c :: a,r,h=>by
  have ih:=tw_app q a r h
  cases hc : q c with
  | true=>simp [List.takeWhile,List.dropWhile,hc,ih.1,ih.2]
  | false=>simp [List.takeWhile,List.dropWhile,hc]
theorem dtL_app (q : UInt8→Bool) (ok : List UInt8→Bool) : ∀ (n : Nat) (a r : List UInt8),(∀ x ∈ r.head?,q x=false∧x ≠ 46)→dtL q ok n (a++r)=(dtL q ok n a).map (·++r)
 | 0,_,_,_=>rfl
 | n + 1,a,r,h=>by
  obtain ⟨h1,h2⟩:=tw_app q a r (fun x hx=>(h x hx).1)
  unfold dtL
  rw [h1,h2]
  by_cases hk : ok (a.takeWhile q)=true
  ·rw [if_pos hk,if_pos hk]
   cases hd : a.dropWhile q with
   | nil =>
    cases r with
    | nil=>rfl
    | cons x r=>show (if x=46 then _ else _)=_; rw [if_neg (h x rfl).2]; rfl
   | cons c b =>
    show (if c=46 then dtL q ok n (b++r) else some (c :: (b++r)))=Option.map _ (if c=46 then dtL q ok n b else some (c :: b))
    by_cases hc : c=46
    ·rw [if_pos hc,if_pos hc]; exact dtL_app q ok n b r h
    ·rw [if_neg hc,if_neg hc]; rfl
  ·rw [if_neg hk,if_neg hk]; rfl
theorem drop_head (q : UInt8→Bool) : ∀ (l : List UInt8),∀ x ∈ (l.dropWhile q).head?,q x=false
 | [],x,h=>by cases h
 | c :: l,x,h=>by
  cases hc : q c with
  | true=>rw [List.dropWhile_cons,hc] at h; exact drop_head q l x h
  | false=>rw [List.dropWhile_cons,hc] at h; cases h; exact hc
theorem drop_sub (q : UInt8→Bool) : ∀ (l : List UInt8),∀ x ∈ l.dropWhile q,x ∈ l
 | [],x,h=>h
 | c :: l,x,h=>by
  rw [List.dropWhile_cons] at h
  split at h
  ·exact List.mem_cons_of_mem _ (drop_sub q l x h)
  ·exact h
theorem dtL_all (q : UInt8→Bool) (ok : List UInt8→Bool) : ∀ (n : Nat) (a b : List UInt8),(∀ x ∈ a,q x=true∨x=46)→dtL q ok n a=some b→b=[]
 | 0,_,_,_,h=>by cases h
 | n + 1,a,b,ha,h=>by
  unfold dtL at h
  split at h
  ·split at h
   ·cases h; rfl
   ·rename_i c r hd
    have hc:=drop_head q a c (by rw [hd]; rfl)
    have hm:=drop_sub q a
    rw [hd] at hm
    split at h
    ·exact dtL_all q ok n r b (fun x hx=>ha x (hm x (List.mem_cons_of_mem _ hx))) h
    ·rename_i hne
     rcases ha c (hm c List.mem_cons_self) with h1 | h1
     ·rw [hc] at h1; cases h1
     ·exact absurd h1 hne
  ·cases h
theorem tw_all (q : UInt8→Bool) : ∀ (l : List UInt8),∀ x ∈ l.takeWhile q,q x=true
 | [],x,h=>by cases h
 | c :: l,x,h=>by
  rw [List.takeWhile_cons] at h
  split at h
  ·rcases List.mem_cons.1 h with rfl | h
   ·assumption
   ·exact tw_all q l x h
  ·cases h
theorem dtL_cut (q : UInt8→Bool) (ok : List UInt8→Bool) (d : UInt8→Bool) (hd : ∀ x,d x=(q x || decide (x=46))) (n : Nat) (l : List UInt8) :
  dtL q ok n l=if dtL q ok n (l.takeWhile d)=some [] then some (l.dropWhile d) else none:=by
 have hl : l=l.takeWhile d++l.dropWhile d:=List.takeWhile_append_dropWhile.symm
 have h1:=dtL_app q ok n (l.takeWhile d) (l.dropWhile d) (fun x hx=>by
  have:=drop_head d l x hx
  rw [hd] at this
  simp only [Bool.or_eq_false_iff,decide_eq_false_iff_not] at this
  exact this)
 rw [← hl] at h1
 rw [h1]
 cases hz : dtL q ok n (l.takeWhile d) with
 | none=>rw [if_neg (fun h=>by cases h)]; rfl
 | some b =>
  have hb:=dtL_all q ok n _ b (fun x hx=>by
   have hx2 : d x=true:=by
    exact tw_all d l x hx
   rw [hd] at hx2
   simpa using hx2) hz
  subst hb
  rw [if_pos rfl]; rfl
def dB (q : UInt8→Bool) : Bool→List UInt8→Bool
 | b,[]=>!b
 | b,c :: r=>if c=46 then !b && dB q true r else q c && dB q false r
theorem dB_row (q : UInt8→Bool) (hq : q 46=false) : ∀ (l : List UInt8),dB q false l=match l.dropWhile q with | []=>true | c :: r=>decide (c=46) && dB q true r
 | []=>rfl
 | c :: r=>by
  cases hc : q c with
  | true =>
   have h46 : ¬ c=46:=fun e=>by rw [e,hq] at hc; cases hc
   rw [List.dropWhile_cons,hc]
   show dB q false (c :: r)=match r.dropWhile q with | []=>true | c :: r=>decide (c=46) && dB q true r
   rw [← dB_row q hq r]
   show (if c=46 then _ else _)=_
   rw [if_neg h46,hc]; rfl
  | false =>
   rw [List.dropWhile_cons,hc]
   show (if c=46 then (!false && dB q true r) else q c && dB q false r)=(decide (c=46) && dB q true r)
   by_cases h46 : c=46
   ·rw [if_pos h46,decide_eq_true h46]; rfl
   ·rw [if_neg h46,hc,decide_eq_false h46]; rfl
theorem dB_true (q : UInt8→Bool) (hq : q 46=false) (l : List UInt8) : dB q true l=(!(l.takeWhile q).isEmpty && dB q false l):=by
 cases l with
 | nil=>rfl
 | cons c r =>
  show (if c=46 then (!true && dB q true r) else q c && dB q false r)=(!((c :: r).takeWhile q).isEmpty && (if c=46 then (!false && dB q true r) else q c && dB q false r))
  by_cases h46 : c=46
  ·rw [if_pos h46,if_pos h46,h46,List.takeWhile_cons,hq]; rfl
  ·rw [if_neg h46,if_neg h46,List.takeWhile_cons]
   cases hc : q c with
   | true=>rfl
   | false=>rfl
theorem drop_len (q : UInt8→Bool) : ∀ (l : List UInt8),(l.dropWhile q).length≤l.length
 | []=>Nat.le_refl _
 | c :: l=>by
  rw [List.dropWhile_cons]
  split
  ·have:=drop_len q l; simp; omega
  ·exact Nat.le_refl _
theorem dtL_dB (q : UInt8→Bool) (hq : q 46=false) : ∀ (n : Nat) (l : List UInt8),l.length < n→(dtL q (fun l=>!l.isEmpty) n l=some [] ↔ dB q true l=true)
 | 0,_,h=>by omega
 | n + 1,l,h=>by
  rw [dB_true q hq,dB_row q hq]
  unfold dtL
  cases hk : (l.takeWhile q).isEmpty with
  | true=>simp
  | false =>
   simp only [Bool.not_false,if_true,Bool.true_and]
   have hlen:=drop_len q l
   cases hd : l.dropWhile q with
   | nil=>exact ⟨fun _=>rfl,fun _=>rfl⟩
   | cons c r =>
    rw [hd] at hlen
    show (if c=46 then dtL q (fun l=>!l.isEmpty) n r else some (c :: r))=some [] ↔ (decide (c=46) && dB q true r)=true
    by_cases hc : c=46
    ·rw [if_pos hc,decide_eq_true hc,dtL_dB q hq n r (by simp at hlen; omega)]; rfl
    ·rw [if_neg hc,decide_eq_false hc]; simp
def nmL (nd : UInt8→Bool) (lab : List UInt8→Bool) : Nat→List UInt8→Bool
 | 0,_=>false
 | n + 1,l=>lab (l.takeWhile nd) && (match l.dropWhile nd with | []=>true | _ :: r=>nmL nd lab n r)
theorem tw_same (q nd : UInt8→Bool) (hqd : ∀ x,q x=true→nd x=true) : ∀ (l : List UInt8),(l.takeWhile nd).all q=true→l.takeWhile q=l.takeWhile nd∧l.dropWhile q=l.dropWhile nd
 | [],_=>⟨rfl,rfl⟩
 | c :: l,h=>by
  cases hn : nd c with
  | true =>
   rw [List.takeWhile_cons,hn] at h
   simp only [if_true,List.all_cons,Bool.and_eq_true] at h
   have ih:=tw_same q nd hqd l h.2
   simp [hn,h.1,ih.1,ih.2]
  | false =>
   have hc : q c=false:=by
    cases hc : q c with
    | false=>rfl
    | true=>rw [hqd c hc] at hn; cases hn
   simp [hn,hc]
theorem tw_diff (q nd : UInt8→Bool) : ∀ (l : List UInt8),(l.takeWhile nd).all q=false→∃ c r,l.dropWhile q=c :: r∧nd c=true
 | [],h=>by cases h
 | c :: l,h=>by
  cases hn : nd c with
  | true =>
   rw [List.takeWhile_cons,hn] at h
   cases hc : q c with
   | true =>
    simp only [if_true,List.all_cons,hc,Bool.true_and] at h
    obtain ⟨x,r,h1,h2⟩:=tw_diff q nd l h
    exact ⟨x,r,by rw [List.dropWhile_cons,hc]; exact h1,h2⟩
   | false=>exact ⟨c,l,by rw [List.dropWhile_cons,hc]; rfl,hn⟩
  | false=>rw [List.takeWhile_cons,hn] at h; cases h
theorem nmL_dtL (q nd : UInt8→Bool) (ok : List UInt8→Bool) (hqd : ∀ x,q x=true→nd x=true) (hnd : ∀ x,nd x=decide (¬ x=46)) : ∀ (n : Nat) (l : List UInt8),nmL nd (fun l=>l.all q && ok l) n l=true ↔ dtL q ok n l=some []
 | 0,l=>by simp [nmL,dtL]
 | n + 1,l=>by
  unfold nmL dtL
  cases ha : (l.takeWhile nd).all q with
  | true =>
   obtain ⟨h1,h2⟩:=tw_same q nd hqd l ha
   rw [h1,h2]
   simp only [Bool.true_and]
   cases hk : ok (l.takeWhile nd) with
   | false=>simp
   | true =>
    simp only [Bool.true_and,if_true]
    cases hd : l.dropWhile nd with
    | nil=>simp
    | cons c r =>
     have hc:=drop_head nd l c (by rw [hd]; rfl)
     rw [hnd] at hc
     have hc : c=46:=by simpa using hc
     show nmL nd _ n r=true ↔ (if c=46 then _ else _)=_
     rw [if_pos hc]
     exact nmL_dtL q nd ok hqd hnd n r
  | false =>
   obtain ⟨c,r,h1,h2⟩:=tw_diff q nd l ha
   simp only [Bool.false_and]
   have hc : ¬ c=46:=by rw [hnd] at h2; simpa using h2
   rw [h1]
   simp [hc]
theorem dtL_fuel (q : UInt8→Bool) (ok : List UInt8→Bool) : ∀ (n m : Nat) (l : List UInt8),l.length < n→l.length < m→dtL q ok n l=dtL q ok m l
 | 0,_,_,h,_=>by omega
 | _ + 1,0,_,_,h=>by omega
 | n + 1,m + 1,l,h1,h2=>by
  unfold dtL
  split
  ·have hlen:=drop_len q l
   split
   ·rfl
   ·rename_i c r hd
    rw [hd] at hlen
    split
    ·exact dtL_fuel q ok n m r (by simp at hlen; omega) (by simp at hlen; omega)
    ·rfl
  ·rfl
end Go.Proofs.YtghnopkgcgfcpaaGreatDoor.Path
set_option maxHeartbeats 16000000
set_option maxRecDepth 100000
namespace Go.Proofs.YtghnopkgcgfcpaaGreatDoor.Path
open Go.RowKit Base
theorem owns_one (w : World) (z : Int) (d : UInt8) (h : z=(d.toNat : Int)) : Owns (w.alloc (.cells #[.int .u8 z] 5)) w.heap.size (.slice (some ⟨w.heap.size,0,none⟩) 1 1) [d]:=by
 subst h
 exact World.ownsRow_lit w #[.int .u8 (d.toNat : Int)] 1 (Nat.le_refl _) (by decide) rfl
def locG (s : ByteArray) : ByteArray:=if dotB s=true then s else ⟨#[34]⟩++⟨(escB s.data.toList).toArray⟩++⟨#[34]⟩
theorem escB_snoc (l : List UInt8) (c : UInt8) : escB (l++[c])=escB l++(if c=34 then [92,34] else if c=92 then [92,92] else [c]):=by
 unfold escB; rw [List.flatMap_append]; simp
theorem take_snoc (s : ByteArray) (k : Nat) (h : k < s.size) : s.data.toList.take (k + 1)=s.data.toList.take k++[s[k]]:=by
 rw [List.take_succ_eq_append_getElem (by rw [str_len]; exact h)]
 exact congrArg (fun x=>s.data.toList.take k++[x]) (Array.getElem_toList _)
theorem three_app (l : List UInt8) : (⟨([34]++l++[34]).toArray⟩ : ByteArray)=⟨#[34]⟩++⟨l.toArray⟩++⟨#[34]⟩:=by
 apply ByteArray.ext
 rw [ByteArray.data_append,ByteArray.data_append]
 simp
theorem rLocalForm (s : ByteArray) (w : World) (hs : s.size≤1000000000000) : Calls Tryz.prog 27 #[.string s] w fun e w'=>e=.returned (.string (locG s))∧Below w.heap.size w w':=by
 have HD:=Lib.hid (rDotted s w (by omega))
 have HO : Hid (locG s=if dotB s=true then s else ⟨#[34]⟩++⟨(escB s.data.toList).toArray⟩++⟨#[34]⟩):=rfl
 generalize locG s=out at HO
 generalize dotB s=db at HO HD
 cases db with
 | true =>
  have HT : Hid (out=s):=HO.out
  go_enter Tryz.func27,Tryz.ntmps27
  go_wp2_with (first | (go_at_call 62; refine HD.out.mono ?_; rintro ee w1 ⟨rfl,rfl⟩; refine Hid.out ?_) | fail)
  refine Lib.hid ?_
  go_wp2
  go_ret
  exact ⟨by rw [HT.out]; rfl,Below.refl _ _⟩
 | false =>
  have HT : Hid (out=⟨#[34]⟩++⟨(escB s.data.toList).toArray⟩++⟨#[34]⟩):=HO.out
  clear HO
  go_enter Tryz.func27,Tryz.ntmps27
  go_wp2_with (first | (go_at_call 62; refine HD.out.mono ?_; rintro ee w1 ⟨rfl,rfl⟩; refine Hid.out ?_) | fail)
  refine Lib.hid ?_
  go_wp2
  go_loopw [4,5] (fun ov iv wr=>∃ (k : Nat) (acc : List UInt8),iv=.int .i64 (k : Int)∧k≤s.size∧Hid (Owns wr w.heap.size ov acc)∧Hid (Below w.heap.size w wr)∧acc.length≤1 + 2 * k∧Hid (acc=[34]++escB (s.data.toList.take k))) (fun _ iv _=>s.size - (intOf iv).toNat)
  case atStart=>exact ⟨0,[34],rfl,Nat.zero_le _,owns_one _ _ _ rfl,Below.alloc1 _ _,by simp,rfl⟩
  case round =>
   obtain ⟨k,acc,rfl,hk,hown,hbel,hlen,hacc⟩:=hrel
   by_cases hlt : k < s.size
   ·have i0 : (0 : Int)≤(k : Int):=by omega
    have i1 : (k : Int) < (s.size : Int):=by omega
    have HE : Hid (escB (s.data.toList.take (k + 1))=escB (s.data.toList.take k)++(if s[k]=34 then [92,34] else if s[k]=92 then [92,92] else [s[k]])):=by
     show _=_; rw [take_snoc s k hlt,escB_snoc]
    have hcb:=s[k].toNat_lt
    by_cases hesc : s[k].toNat=34∨s[k].toNat=92
    ·have HT1 : Hid ((acc++[92])++[s[k]]=[34]++escB (s.data.toList.take (k + 1))):=by
      show _=_
      rw [HE.out,hacc.out]
      rcases hesc with h | h
      ·have : s[k]=34:=UInt8.toNat_inj.1 h
       rw [this]; simp
      ·have : s[k]=92:=UInt8.toNat_inj.1 h
       rw [this]; simp
     have e : ((s[k].toNat : Int) == 34)=true∨(((s[k].toNat : Int) == 34)=false∧((s[k].toNat : Int) == 92)=true):=by
      rcases hesc with h | h
      ·exact Or.inl (by rw [beq_iff_eq]; omega)
      ·exact Or.inr ⟨by rw [beq_eq_false_iff_ne]; omega,by rw [beq_iff_eq]; omega⟩
     clear HE hacc hesc
     rcases e with e | ⟨e,e2⟩
     all_goals
      obtain ⟨va,vc,rfl⟩:=hown.out.reads.form
      go_wp2_with (at_builtin; go_must (refine wp_append_reads _ rfl _ _ rfl w.heap.size _ _ acc [92] rfl rfl (hown.out.on (Below.alloc1 wr _)) (reads_one wr _ _ 92 rfl) (by simp; omega) (Nat.le_trans hbel.out.size (Below.alloc1 wr _).size) ?_); intro v3 w3 own3 b3; refine Hid.out ?_)
      refine Lib.hid ?_
      have HO3:=Lib.hid own3
      have HB3 : Hid (Below w.heap.size w w3):=(hbel.out.trans ((Below.alloc1 wr _).mono hbel.out.size)).trans b3
      obtain ⟨va3,vc3,rfl⟩:=own3.reads.form
      clear own3 b3
      go_wp2_with (at_builtin; go_must (refine wp_append_reads _ rfl _ _ rfl w.heap.size _ _ (acc++[92]) [s[k]] rfl rfl (HO3.out.on (Below.alloc1 w3 _)) (reads_one w3 _ _ s[k] rfl) (by simp; omega) (Nat.le_trans HB3.out.size (Below.alloc1 w3 _).size) ?_); intro v4 w4 own4 b4; refine Hid.out ?_)
      refine Lib.hid ?_
      have HO4:=Lib.hid own4
      have HB4 : Hid (Below w.heap.size w w4):=(HB3.out.trans ((Below.alloc1 w3 _).mono HB3.out.size)).trans b4
      clear own4 b4
      go_wp2
      go_roundw
      case rel=>exact ⟨k + 1,(acc++[92])++[s[k]],by go_num,by omega,HO4,HB4,by simp; omega,HT1⟩
      case measure=>simp [intOf]; omega
    ·have HT1 : Hid (acc++[s[k]]=[34]++escB (s.data.toList.take (k + 1))):=by
      show _=_
      rw [HE.out,hacc.out,if_neg (fun h=>hesc (Or.inl (by rw [h]; rfl))),if_neg (fun h=>hesc (Or.inr (by rw [h]; rfl)))]
      simp
     have e : ((s[k].toNat : Int) == 34)=false:=by rw [beq_eq_false_iff_ne]; omega
     have e2 : ((s[k].toNat : Int) == 92)=false:=by rw [beq_eq_false_iff_ne]; omega
     obtain ⟨va,vc,rfl⟩:=hown.out.reads.form
     clear HE hacc hesc
     go_wp2_with (at_builtin; go_must (refine wp_append_reads _ rfl _ _ rfl w.heap.size _ _ acc [s[k]] rfl rfl (hown.out.on (Below.alloc1 wr _)) (reads_one wr _ _ s[k] rfl) (by simp; omega) (Nat.le_trans hbel.out.size (Below.alloc1 wr _).size) ?_); intro v4 w4 own4 b4; refine Hid.out ?_)
     refine Lib.hid ?_
     have HO4:=Lib.hid own4
     have HB4 : Hid (Below w.heap.size w w4):=(hbel.out.trans ((Below.alloc1 wr _).mono hbel.out.size)).trans b4
     clear own4 b4
     go_wp2
     go_roundw
     case rel=>exact ⟨k + 1,acc++[s[k]],by go_num,by omega,HO4,HB4,by simp; omega,HT1⟩
     case measure=>simp [intOf]; omega
   ·have i1 : ¬ (k : Int) < (s.size : Int):=by omega
    have HA : Hid (acc=[34]++escB s.data.toList):=by
     have:=hacc.out
     rwa [List.take_of_length_le (by rw [str_len]; omega)] at this
    obtain ⟨va,vc,rfl⟩:=hown.out.reads.form
    clear hacc
    go_wp2_with (at_builtin; go_must (refine wp_append_reads _ rfl _ _ rfl w.heap.size _ _ acc [34] rfl rfl (hown.out.on (Below.alloc1 wr _)) (reads_one wr _ _ 34 rfl) (by simp; omega) (Nat.le_trans hbel.out.size (Below.alloc1 wr _).size) ?_); intro v3 w3 own3 b3; refine Hid.out ?_)
    refine Lib.hid ?_
    have HO3:=Lib.hid own3
    have HB3 : Hid (Below w.heap.size w w3):=(hbel.out.trans ((Below.alloc1 wr _).mono hbel.out.size)).trans b3
    clear own3 b3
    have hcv:=conv_reads HO3.out.reads
    go_wp2
    go_ret
    refine ⟨?_,HB3.out⟩
    rw [HT.out]
    show Ending.returned (.string ⟨(acc++[34]).toArray⟩)=_
    rw [HA.out,three_app]
end Go.Proofs.YtghnopkgcgfcpaaGreatDoor.Path
namespace Go.Proofs.YtghnopkgcgfcpaaGreatDoor.Path
open Go.RowKit Base
theorem dw_drop (q : UInt8→Bool) : ∀ (l : List UInt8),l.dropWhile q=l.drop (l.takeWhile q).length
 | []=>rfl
 | c :: l=>by
  rw [List.takeWhile_cons,List.dropWhile_cons]
  split
  ·rw [List.length_cons,List.drop_succ_cons]; exact dw_drop q l
  ·rfl
theorem tw_take (q : UInt8→Bool) : ∀ (l : List UInt8),l.takeWhile q=l.take (l.takeWhile q).length
 | []=>rfl
 | c :: l=>by
  rw [List.takeWhile_cons]
  split
  ·rw [List.length_cons,List.take_succ_cons,← tw_take q l]
  ·rfl
theorem tw_len (q : UInt8→Bool) (l : List UInt8) : (l.takeWhile q).length + (l.dropWhile q).length=l.length:=by
 rw [← List.length_append,List.takeWhile_append_dropWhile]
theorem ext_list (s : ByteArray) (a b : Nat) : (s.extract a b).data.toList=(s.data.toList.take b).drop a:=by rw [extract_bytes]
theorem ext_row (q : UInt8→Bool) (s : ByteArray) (k : Nat) : (s.extract k (k + rowN q s k)).data.toList=(s.data.toList.drop k).takeWhile q:=by
 rw [ext_list,List.drop_take,Nat.add_sub_cancel_left]
 exact (tw_take q _).symm
theorem drop_row (q : UInt8→Bool) (s : ByteArray) (k : Nat) : s.data.toList.drop (k + rowN q s k)=(s.data.toList.drop k).dropWhile q:=by
 rw [dw_drop,List.drop_drop]; rfl
theorem row_leL (q : UInt8→Bool) (s : ByteArray) (k : Nat) (h : k≤s.size) : k + rowN q s k≤s.size:=by
 have h1:=tw_len q (s.data.toList.drop k)
 rw [List.length_drop,str_len] at h1
 unfold rowN; omega
theorem drop_consD (s : ByteArray) {k : Nat} (h : k < s.size) : s.data.toList.drop k=s.data.toList.getD k 0 :: s.data.toList.drop (k + 1):=by
 have hk : k < s.data.toList.length:=by rw [str_len]; exact h
 rw [List.drop_eq_getElem_cons hk,List.getD_eq_getElem?_getD,List.getElem?_eq_getElem hk]; rfl
theorem drop_nilD (s : ByteArray) {k : Nat} (h : s.size≤k) : s.data.toList.drop k=[]:=List.drop_eq_nil_of_le (by rw [str_len]; exact h)
theorem hasB_iff (s : ByteArray) (k : Nat) (c : UInt8) : hasB s k c=true ↔ k < s.size∧s.data.toList.getD k 0=c:=by
 unfold hasB
 rw [Bool.and_eq_true,decide_eq_true_eq,decide_eq_true_eq]
 exact ⟨fun h=>⟨h.1,UInt8.toNat_inj.1 h.2⟩,fun h=>⟨h.1,by rw [h.2]⟩⟩
theorem hasB_cons {s : ByteArray} {k : Nat} {c x : UInt8} {r : List UInt8} (h : s.data.toList.drop k=x :: r) : (hasB s k c=true ↔ x=c)∧k < s.size∧s.data.toList.drop (k + 1)=r∧s.data.toList.getD k 0=x:=by
 by_cases hk : k < s.size
 ·rw [drop_consD s hk] at h
  injection h with h1 h2
  exact ⟨by rw [hasB_iff,← h1]; exact ⟨fun h=>h.2,fun h=>⟨hk,h⟩⟩,hk,h2,h1⟩
 ·rw [drop_nilD s (by omega)] at h; cases h
theorem hasB_nil {s : ByteArray} {k : Nat} {c : UInt8} (h : s.data.toList.drop k=[]) : ¬ hasB s k c=true∧s.size≤k:=by
 by_cases hk : k < s.size
 ·rw [drop_consD s hk] at h; cases h
 ·exact ⟨fun h2=>by rw [hasB_iff] at h2; exact hk h2.1,by omega⟩
theorem dots_dtL (q : UInt8→Bool) (ok : List UInt8→Bool) (s : ByteArray) : ∀ (n k : Nat),s.size - k < n→k≤s.size→(match dtL q ok n (s.data.toList.drop k) with | some r=>(dots q ok s k).1=true∧s.data.toList.drop (dots q ok s k).2=r∧(dots q ok s k).2≤s.size∧k≤(dots q ok s k).2 | none=>(dots q ok s k).1=false)
 | 0,_,h,_=>by omega
 | n + 1,k,h,hk=>by
  rw [dots_eq,ext_row]
  unfold dtL
  have hle:=row_leL q s k hk
  by_cases ho : ok ((s.data.toList.drop k).takeWhile q)=true
  ·rw [if_pos ho,if_pos ho,← drop_row]
   cases hd : s.data.toList.drop (k + rowN q s k) with
   | nil =>
    rw [if_neg (hasB_nil hd).1]
    exact ⟨rfl,hd,hle,by simp⟩
   | cons c r =>
    obtain ⟨h1,h2,h3,_⟩:=hasB_cons (c:=46) hd
    by_cases hc : c=46
    ·rw [if_pos (h1.2 hc)]
     have ih:=dots_dtL q ok s n (k + rowN q s k + 1) (by omega) (by omega)
     rw [h3] at ih
     show match (if c=46 then dtL q ok n r else some (c :: r)) with | some r=>_ | none=>_
     rw [if_pos hc]
     revert ih
     cases dtL q ok n r with
     | none=>exact id
     | some b=>exact fun ih=>⟨ih.1,ih.2.1,ih.2.2.1,by have:=ih.2.2.2; omega⟩
    ·rw [if_neg (fun h=>hc (h1.1 h))]
     show match (if c=46 then dtL q ok n r else some (c :: r)) with | some r=>_ | none=>_
     rw [if_neg hc]
     exact ⟨rfl,hd,hle,by simp⟩
  ·rw [if_neg ho,if_neg ho]
theorem dots_some {q : UInt8→Bool} {ok : List UInt8→Bool} {s : ByteArray} {k : Nat} {r : List UInt8} (hk : k≤s.size) (h : dtL q ok (s.size + 1) (s.data.toList.drop k)=some r) : (dots q ok s k).1=true∧s.data.toList.drop (dots q ok s k).2=r∧(dots q ok s k).2≤s.size∧k≤(dots q ok s k).2:=by
 have:=dots_dtL q ok s (s.size + 1) k (by omega) hk
 rw [h] at this; exact this
theorem dots_none {q : UInt8→Bool} {ok : List UInt8→Bool} {s : ByteArray} {k : Nat} (hk : k≤s.size) (h : dtL q ok (s.size + 1) (s.data.toList.drop k)=none) : (dots q ok s k).1=false:=by
 have:=dots_dtL q ok s (s.size + 1) k (by omega) hk
 rw [h] at this; exact this
theorem dots_whole (q : UInt8→Bool) (ok : List UInt8→Bool) (s : ByteArray) : ((dots q ok s 0).1=true∧(dots q ok s 0).2=s.size) ↔ dtL q ok (s.size + 1) s.data.toList=some []:=by
 have h0:=dots_dtL q ok s (s.size + 1) 0 (by omega) (by omega)
 rw [List.drop_zero] at h0
 constructor
 ·rintro ⟨h1,h2⟩
  revert h0
  cases hd : dtL q ok (s.size + 1) s.data.toList with
  | none=>intro h0; rw [h1] at h0; cases h0
  | some r=>intro h0; rw [h2,drop_nilD s (Nat.le_refl _)] at h0; rw [← h0.2.1]
 ·intro h
  rw [h] at h0
  refine ⟨h0.1,?_⟩
  have:=(hasB_nil (c:=0) h0.2.1).2
  omega
theorem toNat46 (c : UInt8) : c.toNat=46 ↔ c=46:=⟨fun h=>UInt8.toNat_inj.1 h,fun h=>by rw [h]; rfl⟩
theorem atom46 : atomC 46=false:=by unfold atomC; rw [index_has]; rfl
theorem name46 : nameC 46=false:=rfl
theorem chk_dB (s : ByteArray) : ∀ (n k : Nat),s.size - k≤n→1≤k→k≤s.size→(dB atomC (decide (s.data.toList.getD (k - 1) 0=46)) (s.data.toList.drop k)=true ↔ (∀ i,k≤i→i < s.size→chk s i=true)∧(k=s.size→¬ s.data.toList.getD (k - 1) 0=46))
 | 0,k,h,h1,hk=>by
  rw [drop_nilD s (by omega)]
  show (!decide _)=true ↔ _
  rw [Bool.not_eq_true',decide_eq_false_iff_not]
  exact ⟨fun h=>⟨fun i _ _=>by omega,fun _=>h⟩,fun h=>h.2 (by omega)⟩
 | n + 1,k,h,h1,hk=>by
  by_cases hlt : k < s.size
  ·rw [drop_consD s hlt]
   have ih:=chk_dB s n (k + 1) (by omega) (by omega) (by omega)
   rw [Nat.add_sub_cancel] at ih
   have hsp : (∀ i,k≤i→i < s.size→chk s i=true) ↔ chk s k=true∧∀ i,k + 1≤i→i < s.size→chk s i=true :=
    ⟨fun h=>⟨h k (Nat.le_refl _) hlt,fun i h1 h2=>h i (by omega) h2⟩,fun h i h1 h2=>by
     by_cases he : i=k
     ·rw [he]; exact h.1
     ·exact h.2 i (by omega) h2⟩
   rw [hsp]
   have hck : chk s k=if s.data.toList.getD k 0=46 then decide (k + 1 < s.size) && decide (¬ s.data.toList.getD (k - 1) 0=46) else atomC (s.data.toList.getD k 0):=by
    unfold chk
    by_cases h46 : s.data.toList.getD k 0=46
    ·rw [if_pos ((toNat46 _).2 h46),if_pos h46,decide_eq_true (p:=0 < k) (by omega),Bool.true_and]
     congr 1
     rw [decide_eq_decide,toNat46]
    ·rw [if_neg (fun e=>h46 ((toNat46 _).1 e)),if_neg h46]
   rw [hck]
   show (if s.data.toList.getD k 0=46 then (!decide (s.data.toList.getD (k - 1) 0=46) && dB atomC true (s.data.toList.drop (k + 1))) else (atomC (s.data.toList.getD k 0) && dB atomC false (s.data.toList.drop (k + 1))))=true ↔ _
   by_cases h46 : s.data.toList.getD k 0=46
   ·rw [if_pos h46,if_pos h46]
    rw [decide_eq_true h46] at ih
    rw [Bool.and_eq_true,ih,Bool.and_eq_true,Bool.not_eq_true',decide_eq_false_iff_not,decide_eq_true_eq,decide_eq_true_eq]
    exact ⟨fun ⟨a,b,c⟩=>⟨⟨⟨by rcases Nat.lt_or_ge (k + 1) s.size with x | x; exact x; exact absurd h46 (c (by omega)),a⟩,b⟩,fun _=>a⟩,fun ⟨⟨⟨a,b⟩,c⟩,_⟩=>⟨b,c,fun e=>by omega⟩⟩
   ·rw [if_neg h46,if_neg h46]
    rw [decide_eq_false h46] at ih
    rw [Bool.and_eq_true,ih]
    exact ⟨fun ⟨a,b,_⟩=>⟨⟨a,b⟩,fun e=>by omega⟩,fun ⟨⟨a,b⟩,_⟩=>⟨a,b,fun _=>h46⟩⟩
  ·rw [drop_nilD s (by omega)]
   show (!decide _)=true ↔ _
   rw [Bool.not_eq_true',decide_eq_false_iff_not]
   exact ⟨fun h=>⟨fun i _ _=>by omega,fun _=>h⟩,fun h=>h.2 (by omega)⟩
theorem dotB_iff (s : ByteArray) : dotB s=true ↔ dtL atomC someB (s.size + 1) s.data.toList=some []:=by
 have h1:=dtL_dB atomC atom46 (s.size + 1) s.data.toList (by rw [str_len]; omega)
 show _ ↔ dtL atomC (fun l=>!l.isEmpty) (s.size + 1) s.data.toList=some []
 rw [h1]
 unfold dotB
 rw [decide_eq_true_eq]
 by_cases hz : 0 < s.size
 ·have hd : s.data.toList=s.data.toList.getD 0 0 :: s.data.toList.drop 1:=by
   have:=drop_consD s hz
   rwa [List.drop_zero] at this
  have ih:=chk_dB s s.size 1 (by omega) (by omega) (by omega)
  have hsp : (∀ i,i < s.size→chk s i=true) ↔ chk s 0=true∧∀ i,1≤i→i < s.size→chk s i=true :=
   ⟨fun h=>⟨h 0 hz,fun i _ h2=>h i h2⟩,fun h i h2=>by
    by_cases he : i=0
    ·rw [he]; exact h.1
    ·exact h.2 i (by omega) h2⟩
  rw [hsp]
  have hck : chk s 0=if s.data.toList.getD 0 0=46 then false else atomC (s.data.toList.getD 0 0):=by
   unfold chk
   by_cases h46 : s.data.toList.getD 0 0=46
   ·rw [if_pos ((toNat46 _).2 h46),if_pos h46]; rfl
   ·rw [if_neg (fun e=>h46 ((toNat46 _).1 e)),if_neg h46]
  have hdB : dB atomC true s.data.toList=if s.data.toList.getD 0 0=46 then false else (atomC (s.data.toList.getD 0 0) && dB atomC false (s.data.toList.drop 1)):=by
   generalize s.data.toList.getD 0 0=c0 at hd
   generalize s.data.toList.drop 1=r0 at hd
   rw [hd]; rfl
  rw [hck,hdB]
  by_cases h46 : s.data.toList.getD 0 0=46
  ·rw [if_pos h46,if_pos h46]; simp
  ·rw [if_neg h46,if_neg h46]
   rw [show (1 : Nat) - 1=0 from rfl,decide_eq_false h46] at ih
   rw [Bool.and_eq_true,ih]
   exact ⟨fun ⟨_,a,b⟩=>⟨a,b,fun _=>h46⟩,fun ⟨a,b,_⟩=>⟨hz,a,b⟩⟩
 ·have hn : s.data.toList=[]:=by
   have:=drop_nilD s (k:=0) (by omega)
   rwa [List.drop_zero] at this
  rw [hn]
  exact ⟨fun h=>absurd h.1 hz,fun h=>by cases h⟩
theorem loc_same (s : ByteArray) : locG s=locF s:=by
 unfold locG locF
 have h : dotB s=true ↔ ((dots atomC someB s 0).1=true∧(dots atomC someB s 0).2=s.size):=by rw [dotB_iff,dots_whole]
 by_cases hd : dotB s=true
 ·rw [if_pos hd,if_pos (h.1 hd)]
 ·rw [if_neg hd,if_neg (fun x=>hd (h.2 x))]
theorem nmF_nmL (s : ByteArray) : ∀ (n k : Nat),nmF s n k=nmL noDot (fun l=>l.all nameC && labelB l) n (s.data.toList.drop k)
 | 0,_=>rfl
 | n + 1,k=>by
  unfold nmF nmL
  rw [ext_row,← drop_row]
  congr 1
  by_cases h : k + rowN noDot s k < s.size
  ·rw [if_pos h,drop_consD s h]
   exact nmF_nmL s n _
  ·rw [if_neg h,drop_nilD s (by omega)]
theorem nmB_iff (s : ByteArray) : nmB s=true ↔ dtL nameC labelB (s.size + 1) s.data.toList=some []:=by
 unfold nmB
 rw [nmF_nmL,List.drop_zero]
 refine nmL_dtL nameC noDot labelB (fun x hx=>?_) (fun x=>?_) _ _
 ·unfold noDot
  rw [decide_eq_true_eq]
  intro e
  rw [(toNat46 x).1 e,name46] at hx; cases hx
 ·unfold noDot
  rw [decide_eq_decide,Ne,toNat46]
end Go.Proofs.YtghnopkgcgfcpaaGreatDoor.Path
set_option maxHeartbeats 16000000
set_option maxRecDepth 100000
namespace Go.Proofs.YtghnopkgcgfcpaaGreatDoor.Path
open Go.RowKit Base
theorem low_fold (x a b : UInt8) (h : (a.toNat=b.toNat∧¬ (65≤b.toNat∧b.toNat≤90)∧¬ (97≤b.toNat∧b.toNat≤122))∨(97≤b.toNat∧b.toNat≤122∧(a.toNat=b.toNat∨a.toNat + 32=b.toNat))) : Lib.foldEq x a=decide (Table.low1 x=b):=by
 unfold Lib.foldEq
 rw [Bool.eq_iff_iff,decide_eq_true_eq,decide_eq_true_eq,← UInt8.toNat_inj]
 unfold Table.low1
 have hx:=x.toNat_lt
 split
 ·rw [UInt8.toNat_add,show (32 : UInt8).toNat=32 from rfl]
  omega
 ·omega
def okP (p : UInt8 × UInt8) : Prop:=(p.1.toNat=p.2.toNat∧¬ (65≤p.2.toNat∧p.2.toNat≤90)∧¬ (97≤p.2.toNat∧p.2.toNat≤122))∨(97≤p.2.toNat∧p.2.toNat≤122∧(p.1.toNat=p.2.toNat∨p.1.toNat + 32=p.2.toNat))
theorem fold_low : ∀ (ps : List (UInt8 × UInt8)) (_ : ∀ p ∈ ps,okP p) (l : List UInt8),Lib.equalFold l (ps.map (·.1))=decide (Table.lower l=ps.map (·.2))
 | [],_,[]=>by rfl
 | [],_,x :: l=>by
  rw [List.map_nil,List.map_nil,decide_eq_false (by simp [Table.lower])]; rfl
 | p :: ps,_,[]=>by
  rw [List.map_cons,List.map_cons,decide_eq_false (by simp [Table.lower])]; rfl
 | p :: ps,h,x :: l=>by
  have ih:=fold_low ps (fun q hq=>h q (List.mem_cons_of_mem _ hq)) l
  have h1:=low_fold x p.1 p.2 (h p List.mem_cons_self)
  show (Lib.foldEq x p.1 && Lib.equalFold l (ps.map (·.1)))=_
  rw [h1,ih,Bool.eq_iff_iff]
  simp only [Bool.and_eq_true,decide_eq_true_eq]
  show _ ↔ Table.low1 x :: Table.lower l=p.2 :: ps.map (·.2)
  rw [List.cons.injEq]
theorem six_low (l : List UInt8) : Lib.equalFold l [73,80,118,54,58]=decide (Table.lower l=[105,112,118,54,58]) :=
 fold_low [(73,105),(80,112),(118,118),(54,54),(58,58)] (by
  intro p hp
  simp only [List.mem_cons,List.not_mem_nil,or_false] at hp
  rcases hp with rfl | rfl | rfl | rfl | rfl <;> (unfold okP; decide)) l
def litG (s : ByteArray) : Option ByteArray :=
 if 2≤s.size∧(s.data.toList.getD 0 0).toNat=91∧(s.data.toList.getD (s.size - 1) 0).toNat=93 then
  match Cidr.addrN (litU (s.extract 1 (s.size - 1))) with
  | none=>none
  | some n=>if n.six=isSixT (s.extract 1 (s.size - 1)) then some (litShow n) else none
 else none
theorem ref_show (n : Cidr.NetM) (ha : n.a.length=16) (w : World) : Calls Tryz.prog 25 #[Cidr.netV n] w fun e w'=>∃ z : Int,e=.returned (.tuple #[.string (litShow n),.int .i64 z])∧Below w.heap.size w w' :=
 (Cidr.rShow n ha w).mono fun e w' h=>by
  rcases h with ⟨hb,⟨h1,rfl⟩ | ⟨l,h1,rfl⟩⟩
  ·exact ⟨70,by unfold litShow; rw [h1],hb⟩
  ·exact ⟨0,by unfold litShow; rw [h1],hb⟩
def LitEnd (o : Option ByteArray) (w : World) (e : Ending) (w' : World) : Prop:=e=.returned (.tuple #[.string (o.getD ⟨#[]⟩),.bool o.isSome])∧Below w.heap.size w w'
theorem rLit (s : ByteArray) (w : World) (hs : s.size≤4294967280) : Calls Tryz.prog 45 #[.string s] w (LitEnd (litG s) w):=by
 by_cases h2 : 2≤s.size
 ·have i0 : ¬ (s.size : Int) < 2:=by omega
  have i2 : (0 : Int) < (s.size : Int):=by omega
  have HG0 : Hid ((s.data.toList.getD 0 0)=s[0]'(by omega)):=str_get s 0 (by omega)
  have HG1 : Hid ((s.data.toList.getD (s.size - 1) 0)=s[s.size - 1]'(by omega)):=str_get s (s.size - 1) (by omega)
  by_cases h3 : (s[0]'(by omega)).toNat=91∧(s[s.size - 1]'(by omega)).toNat=93
  ·have e0 : (((s[0]'(by omega)).toNat : Int) != 91)=false:=by rw [bne_eq_false_iff_eq]; omega
   have e1 : (((s[s.size - 1]'(by omega)).toNat : Int) != 93)=false:=by rw [bne_eq_false_iff_eq]; omega
   go_enter Tryz.func45,Tryz.ntmps45
   go_upto_if 34 with fail
   obtain ⟨t,ht⟩ : ∃ t,t=s.extract 1 (s.size - 1):=⟨_,rfl⟩
   rw [← ht]
   have hts : t.size=s.size - 1 - 1:=by rw [ht,ByteArray.size_extract]; omega
   have HD : Hid (litG s=match Cidr.addrN (litU t) with
    | none=>none
    | some n=>if n.six=isSixT t then some (litShow n) else none):=by
    show _=_; unfold litG; rw [HG0.out,HG1.out,if_pos ⟨h2,h3.1,h3.2⟩,← ht]
   clear ht h3 e0 e1 HG0 HG1 i2 i0
   go_cut [4,5] (fun t4 t5 wx=>t4=.string (litU t)∧t5=.bool (isSixT t)∧Hid (Below w.heap.size w wx))
   case first =>
    by_cases h5 : 5≤t.size
    ·have i5 : (5 : Int)≤(t.size : Int):=by omega
     have i6 : (5 : Int)≤((s.size - 1 - 1 : Nat) : Int):=by omega
     have C2:=Lib.hid (Table.rLower (t.extract 0 5) w (by rw [ByteArray.size_extract]; omega))
     unfold Table.LowEnd at C2
     have HS : Hid (isSixT t=decide (Table.lower (t.extract 0 5).data.toList=[105,112,118,54,58])):=by
      show _=_; unfold isSixT; rw [decide_eq_true h5,six_low]; rfl
     generalize Table.lower (t.extract 0 5).data.toList=L at C2 HS
     by_cases hL : L=[105,112,118,54,58]
     ·have HT : Hid (isSixT t=true):=by show _=_; rw [HS.out,decide_eq_true hL]
      subst hL
      go_wp2_with (first | (go_at_call 23; refine C2.out.mono ?_; rintro ee w2 ⟨rfl,hb⟩; refine Hid.out ?_) | fail)
      refine Lib.hid ?_
      have HB:=Lib.hid hb
      clear hb
      go_wp2
      go_meet
      case rel=>exact ⟨by unfold litU; rw [HT.out,if_pos rfl,hts],by rw [HT.out],HB⟩
     ·have HT : Hid (isSixT t=false):=by show _=_; rw [HS.out,decide_eq_false hL]
      have hne : (L == [105,112,118,54,58])=false:=by rw [beq_eq_false_iff_ne]; exact hL
      go_wp2_with (first | (go_at_call 23; refine C2.out.mono ?_; rintro ee w2 ⟨rfl,hb⟩; refine Hid.out ?_) | fail)
      refine Lib.hid ?_
      have HB:=Lib.hid hb
      clear hb
      go_wp2
      go_meet
      case rel=>exact ⟨by unfold litU; rw [HT.out]; rfl,by rw [HT.out],HB⟩
    ·have i6 : ¬ (5 : Int)≤((s.size - 1 - 1 : Nat) : Int):=by omega
     have HT : Hid (isSixT t=false):=by show _=_; unfold isSixT; rw [decide_eq_false h5]; rfl
     clear h5
     go_wp2
     go_meet
     case rel=>exact ⟨by unfold litU; rw [HT.out]; rfl,by rw [HT.out],Below.refl _ _⟩
   case rest =>
    obtain ⟨rfl,rfl,hb⟩:=hcut
    have HB0 : Hid (Below w.heap.size w wc):=hb
    have CA:=Lib.hid (Cidr.rAddr (litU t) wc (by unfold litU; split; (rw [ByteArray.size_extract]; omega); omega))
    clear hb
    generalize isSixT t=sx at HD
    generalize Cidr.addrN (litU t)=o at CA HD
    generalize litU t=u at CA
    cases o with
    | none =>
     have HT : Hid (litG s=none):=HD.out
     have CA2:=Lib.hid (Cidr.addr_no CA.out)
     clear CA HD
     go_wp2_with (first | (go_at_call 24; refine CA2.out.mono ?_; rintro ee w3 ⟨rfl,hb⟩; refine Hid.out ?_) | fail)
     refine Lib.hid ?_
     have HB3 : Hid (Below w.heap.size w w3):=HB0.out.trans (hb.mono HB0.out.size)
     have HT3:=Lib.hid (Cidr.there_net (Cidr.NetAt.new w3 Cidr.zeroN) rfl (n:=Cidr.zeroN) rfl)
     have HC3:=Lib.hid (Cidr.size25c (n:=Cidr.zeroN) rfl)
     clear hb
     go_wp2_with (first | (refine wpList_store_mid rfl 70 (.tmp 7) (.tmp 45) rfl w3.heap.size 0 (Cidr.netC Cidr.zeroN) rfl rfl HT3.out HC3.out (Cidr.netC_all _) ?_; generalize hw4 : World.setCells _ _ _ _=w4; refine Hid.out ?_) | fail)
     refine Lib.hid ?_
     obtain ⟨hn4,hb4⟩:=Cidr.net_new (n:=Cidr.zeroN) rfl hw4
     have HB4 : Hid (Below w.heap.size w w4):=HB3.out.trans (hb4.mono HB3.out.size)
     clear hw4 hn4 hb4 HT3 HC3
     go_wp2
     go_ret2
     rw [HT.out]
     exact ⟨rfl,HB4.out⟩
    | some n =>
     have HT : Hid (litG s=if n.six=sx then some (litShow n) else none):=HD.out
     have CA2:=Lib.hid (Cidr.addr_yes CA.out)
     clear CA HD
     go_wp2_with (first | (go_at_call 24; refine CA2.out.mono ?_; rintro ee w3 ⟨hna,rfl,hb⟩; refine Hid.out ?_) | fail)
     refine Lib.hid ?_
     have HNA:=Lib.hid hna
     have HB3 : Hid (Below w.heap.size w w3):=HB0.out.trans (hb.mono HB0.out.size)
     have HT3:=Lib.hid (Cidr.there_net (Cidr.NetAt.new w3 Cidr.zeroN) rfl (n:=n) hna)
     have HC3:=Lib.hid (Cidr.size25c (n:=n) hna)
     clear hb hna
     go_wp2_with (first | (refine wpList_store_mid rfl 70 (.tmp 7) (.tmp 45) rfl w3.heap.size 0 (Cidr.netC n) rfl rfl HT3.out HC3.out (Cidr.netC_all _) ?_; generalize hw4 : World.setCells _ _ _ _=w4; refine Hid.out ?_) | fail)
     refine Lib.hid ?_
     obtain ⟨hn4,hb4⟩:=Cidr.net_new (n:=n) HNA.out hw4
     have HN4:=Lib.hid hn4
     have HB4 : Hid (Below w.heap.size w w4):=HB3.out.trans (hb4.mono HB3.out.size)
     clear hw4 hn4 hb4 HT3 HC3
     have y0 : w4.cell? ⟨w3.heap.size,0,none⟩=some (.bool n.six):=HN4.out.six
     go_upto_if 54 with fail
     clear y0
     by_cases hsx : n.six=sx
     ·have HT2 : Hid (litG s=some (litShow n)):=by show _=_; rw [HT.out,if_pos hsx]
      have C6:=Lib.hid (ref_show n HNA.out w4)
      have HSt:=Lib.hid (Cidr.size25_of (n:=n) HNA.out)
      have hq : (!(n.six == sx))=false:=by rw [hsx]; cases sx <;> rfl
      clear HT
      rw [hq]
      go_wp2_with (first | (refine wpList_load_mid rfl 70 (.tmp 7) rfl w3.heap.size 0 rfl (Cidr.netL n) _ HN4.out.range0 Tryz.underlying70 rfl HSt.out ?_) | (go_at_call 25; refine C6.out.mono ?_; rintro ee w6 ⟨z,rfl,hb⟩; refine Hid.out ?_) | fail)
      refine Lib.hid ?_
      have HB6 : Hid (Below w.heap.size w w6):=HB4.out.trans (hb.mono HB4.out.size)
      clear hb
      go_wp2
      go_ret2
      rw [HT2.out]
      exact ⟨rfl,HB6.out⟩
     ·have HT2 : Hid (litG s=none):=by show _=_; rw [HT.out,if_neg hsx]
      have hne : (!(n.six == sx))=true:=by rw [beq_eq_false_iff_ne.2 hsx]; rfl
      clear HT
      rw [hne]
      go_wp2
      go_ret2
      rw [HT2.out]
      exact ⟨rfl,HB4.out⟩
  ·have HT : Hid (litG s=none):=by
    show _=_; unfold litG; rw [HG0.out,HG1.out,if_neg (fun h=>h3 h.2)]
   have e : ((((s[0]'(by omega)).toNat : Int) != 91)=true)∨((((s[0]'(by omega)).toNat : Int) != 91)=false∧(((s[s.size - 1]'(by omega)).toNat : Int) != 93)=true):=by
    by_cases h : (s[0]'(by omega)).toNat=91
    ·exact Or.inr ⟨by rw [bne_eq_false_iff_eq]; omega,by rw [bne_iff_ne]; omega⟩
    ·exact Or.inl (by rw [bne_iff_ne]; omega)
   clear h3 HG0 HG1
   rcases e with e | ⟨e,e2⟩
   all_goals
    go_enter Tryz.func45,Tryz.ntmps45
    go_wp2
    go_ret2
    rw [HT.out]
    exact ⟨rfl,Below.refl _ _⟩
 ·have HT : Hid (litG s=none):=by
   show _=_; unfold litG; rw [if_neg (fun h=>h2 h.1)]
  have i0 : (s.size : Int) < 2:=by omega
  clear h2
  go_enter Tryz.func45,Tryz.ntmps45
  go_wp2
  go_ret2
  rw [HT.out]
  exact ⟨rfl,Below.refl _ _⟩
end Go.Proofs.YtghnopkgcgfcpaaGreatDoor.Path
