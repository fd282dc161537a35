/-
  MERGED by mergefill.py: CidrPNum, CidrPHex, CidrPWithin, CidrPFour, CidrPGrps, CidrPSixP.
-/
import Derived.Test.YtghnopkgcgfcpaaGreatDoorCidrAddrMg
import Derived.Lib.ParseIntBMem
import Derived.Test.YtghnopkgcgfcpaaGreatDoorCidrPRightMg
import Derived.Laws.CopyOwn
set_option maxHeartbeats 16000000
set_option maxRecDepth 100000
namespace Go.Proofs.YtghnopkgcgfcpaaGreatDoor.Cidr
open Go.RowKit Base
theorem p10 : ∀ (l : List UInt8) (a : Nat),(a + 1) * 10 ^ l.length≤65536→Lib.parseUintM 65535 a l=if l.all isDig=true then .ok (l.foldl (fun n c=>10 * n + (c.toNat - 48)) a) else .syntax
 | [],a,_=>by simp [Lib.parseUintM]
 | c :: r,a,h=>by
  rw [List.length_cons,Nat.pow_succ] at h
  have h0 : 1≤10 ^ r.length:=Nat.one_le_pow _ _ (by omega)
  have h1 : (a + 1) * 10≤65536:=Nat.le_trans (by rw [show (a + 1) * (10 ^ r.length * 10)=(a + 1) * 10 * 10 ^ r.length by rw [Nat.mul_comm (10 ^ r.length) 10,← Nat.mul_assoc]]; exact Nat.le_mul_of_pos_right _ (by omega)) h
  rw [Lib.parseUintM,List.all_cons,List.foldl_cons]
  by_cases hd : 48≤c.toNat∧c.toNat≤57
  ·rw [if_pos hd,if_neg (by omega),if_neg (by omega)]
   have ih:=p10 r (a * 10 + (c.toNat - 48)) (Nat.le_trans (by rw [show (a + 1) * (10 ^ r.length * 10)=(a * 10 + 10) * 10 ^ r.length by rw [Nat.mul_comm (10 ^ r.length) 10,← Nat.mul_assoc]; congr 1; omega]; exact Nat.mul_le_mul_right _ (by omega)) h)
   rw [ih,(dig_iff c).2 hd,Bool.true_and,Nat.mul_comm a 10]
  ·have : isDig c=false:=by rw [Bool.eq_false_iff]; exact fun h=>hd ((dig_iff c).1 h)
   rw [if_neg hd,this,Bool.false_and,if_neg (by simp)]
def digsN (l : List UInt8) : Option Nat:=if l ≠ []∧l.all isDig=true then some (decF l) else none
theorem parse10 (l : List UInt8) (h : l.length≤3) : Lib.parseUintB 16 l=match digsN l with | some n=>.ok n | none=>.syntax:=by
 unfold Lib.parseUintB digsN
 by_cases h0 : l=[]
 ·subst h0; simp
 ·have hp : 10 ^ l.length≤10 ^ 3:=Nat.pow_le_pow_right (by decide) h
  rw [if_neg h0,show (2 ^ 16 - 1 : Nat)=65535 from rfl,p10 l 0 (by omega)]
  by_cases hd : l.all isDig=true
  ·rw [if_pos hd,if_pos ⟨h0,hd⟩]; rfl
  ·rw [if_neg hd,if_neg (fun h=>hd h.2)]
theorem bytesWorld_below (w : World) (s : ByteArray) : Below w.heap.size w (Lib.bytesWorld w 5 s):=Joins.below_bytesWorld _ w 5 s (Nat.le_refl _)
def ParseEnd (o : Option Nat) (w : World) (e : Ending) (w' : World) : Prop :=
 Below w.heap.size w w'∧((∃ n : Nat,o=some n∧e=.returned (.tuple #[.int .u64 (n : Int),.nilIface]))∨(o=none∧∃ x t p,e=.returned (.tuple #[.int .u64 x,.iface t p])))
theorem pParse10 (s : ByteArray) (w : World) (hs : s.size≤3) (he : Env w) : Calls Tryz.prog 201 #[.string s,.int .i64 10,.int .i64 16] w (ParseEnd (digsN s.data.toList) w):=by
 have hp:=parse10 s.data.toList (by rw [str_len]; exact hs)
 cases hd : digsN s.data.toList with
 | some n =>
  rw [hd] at hp
  refine (Tryz.strconv_ParseUint_10_at16_ok s (by omega) n hp w).mono ?_
  rintro e w' ⟨rfl,h⟩
  refine ⟨?_,Or.inl ⟨n,rfl,rfl⟩⟩
  rcases h with rfl | rfl
  ·exact Below.refl _ _
  ·exact bytesWorld_below w s
 | none =>
  rw [hd] at hp
  obtain ⟨tp,p,hv⟩:=he.syn
  refine (Tryz.strconv_ParseUint_10_at16_syntax_var s (by omega) hp tp p w hv).mono ?_
  rintro e w' ⟨N,rfl,_,_,hb⟩
  exact ⟨hb,Or.inr ⟨rfl,_,_,_,rfl⟩⟩
theorem parse_yes {f : FuncId} {args : Array Value} {w : World} {n : Nat} (h : Calls Tryz.prog f args w (ParseEnd (some n) w)) : Calls Tryz.prog f args w (fun e w'=>e=.returned (.tuple #[.int .u64 (n : Int),.nilIface])∧Below w.heap.size w w') :=
 h.mono fun e w' h=>by
  rcases h with ⟨hb,⟨m,h1,h2⟩ | ⟨h1,_⟩⟩
  ·cases h1; exact ⟨h2,hb⟩
  ·cases h1
theorem parse_no {f : FuncId} {args : Array Value} {w : World} (h : Calls Tryz.prog f args w (ParseEnd none w)) : Calls Tryz.prog f args w (fun e w'=>∃ x t p,e=.returned (.tuple #[.int .u64 x,.iface t p])∧Below w.heap.size w w') :=
 h.mono fun e w' h=>by
  rcases h with ⟨hb,⟨m,h1,_⟩ | ⟨_,x,t,p,h2⟩⟩
  ·cases h1
  ·exact ⟨x,t,p,h2,hb⟩
theorem decN_digs (l : List UInt8) (h3 : l.length≤3) (h0 : ¬ (l.getD 0 0=48∧1 < l.length)) : decN l=digsN l:=by
 unfold decN digsN
 have : 1≤l.length ↔ l ≠ []:=by cases l <;> simp
 by_cases hd : l ≠ []∧l.all isDig=true
 ·rw [if_pos ⟨this.2 hd.1,h3,h0,hd.2⟩,if_pos hd]
 ·rw [if_neg (fun h=>hd ⟨this.1 h.1,h.2.2.2⟩),if_neg hd]
theorem digs_small {l : List UInt8} {n : Nat} (h : digsN l=some n) (h3 : l.length≤3) : n≤999:=by
 unfold digsN at h
 split at h
 ·rename_i hh
  cases h; exact decF_small l hh.2 h3
 ·cases h
def NumEnd2 (o : Option Nat) (w : World) (e : Ending) (w' : World) : Prop:=e=.returned (.tuple #[.int .i64 (o.getD 0 : Nat),.bool o.isSome])∧Below w.heap.size w w'
theorem num2_none {o : Option Nat} (h : o=none) {w w' : World} (hb : Below w.heap.size w w') : NumEnd2 o w (.returned (.tuple #[.int .i64 0,.bool false])) w':=by subst h; exact ⟨rfl,hb⟩
theorem num2_some {o : Option Nat} {n : Nat} (h : o=some n) {w w' : World} (hb : Below w.heap.size w w') : NumEnd2 o w (.returned (.tuple #[.int .i64 (n : Int),.bool true])) w':=by subst h; exact ⟨rfl,hb⟩
theorem pNumber (s : ByteArray) (w : World) (he : Env w) : Calls Tryz.prog 175 #[.string s] w (NumEnd2 (decN s.data.toList) w):=by
 have HL:=Lib.hid (str_len s)
 have HE:=Lib.hid he
 obtain ⟨o,ho⟩ : ∃ o,o=decN s.data.toList:=⟨_,rfl⟩
 rw [← ho]
 clear he
 by_cases h3 : s.size≤3
 ·by_cases h1 : 1 < s.size
  ·have hg:=str_get s 0 (by omega)
   by_cases h0 : s[0]=48
   ·have ho2:=Lib.hid (show o=none by rw [ho]; unfold decN; rw [if_neg (fun h=>h.2.2.1 ⟨by rw [hg]; exact h0,by rw [HL.out]; exact h1⟩)])
    have e2 : ¬ (3 : Int) < (s.size : Int):=by omega
    have e3 : ((s[0].toNat : Int) == 48)=true:=by rw [h0]; rfl
    have e4 : (1 : Int) < (s.size : Int):=by omega
    clear ho h0 hg
    go_enter Tryz.func175,Tryz.ntmps175
    go_wp2
    go_ret2
    exact num2_none ho2.out (Below.refl _ _)
   ·have ho2 : o=digsN s.data.toList:=by rw [ho]; exact decN_digs _ (by rw [HL.out]; exact h3) (by rw [hg]; exact fun h=>h0 h.1)
    have HSM : Hid (∀ n,o=some n→n≤999):=fun n hn=>digs_small (ho2.symm.trans hn) (by rw [HL.out]; exact h3)
    have HP:=Lib.hid (pParse10 s w h3 HE.out)
    rw [← ho2] at HP
    have e2 : ¬ (3 : Int) < (s.size : Int):=by omega
    have e3 : ((s[0].toNat : Int) == 48)=false:=by
     rw [beq_eq_false_iff_ne]; intro h; exact h0 (UInt8.toNat_inj.1 (by rw [show (48 : UInt8).toNat=48 from rfl]; omega))
    have e4 : (1 : Int) < (s.size : Int):=by omega
    clear ho ho2 h0 hg
    cases o with
    | none =>
     have HP2:=Lib.hid (parse_no HP.out)
     clear HP HSM
     go_enter Tryz.func175,Tryz.ntmps175
     go_wp2_with (first | (go_at_call 201; refine HP2.out.mono ?_; rintro e w1 ⟨x,t,p,rfl,hb⟩; refine Hid.out ?_) | fail)
     refine Lib.hid ?_
     go_wp2
     go_ret2
     exact num2_none rfl hb
    | some n =>
     have HP2:=Lib.hid (parse_yes HP.out)
     have hn:=HSM.out n rfl
     clear HP HSM
     have i5 : IntKind.i64.wrap (n : Int)=(n : Int):=IntWalk.i64_in _ (by omega)
     go_enter Tryz.func175,Tryz.ntmps175
     go_wp2_with (first | (go_at_call 201; refine HP2.out.mono ?_; rintro e w1 ⟨rfl,hb⟩; refine Hid.out ?_) | fail)
     refine Lib.hid ?_
     go_wp2
     go_ret2
     exact num2_some rfl hb
  ·have ho2 : o=digsN s.data.toList:=by rw [ho]; exact decN_digs _ (by rw [HL.out]; exact h3) (by rw [HL.out]; exact fun h=>h1 h.2)
   have HSM : Hid (∀ n,o=some n→n≤999):=fun n hn=>digs_small (ho2.symm.trans hn) (by rw [HL.out]; exact h3)
   have HP:=Lib.hid (pParse10 s w h3 HE.out)
   rw [← ho2] at HP
   have e2 : ¬ (3 : Int) < (s.size : Int):=by omega
   have e4 : ¬ (1 : Int) < (s.size : Int):=by omega
   clear ho ho2
   cases o with
   | none =>
    have HP2:=Lib.hid (parse_no HP.out)
    clear HP HSM
    go_enter Tryz.func175,Tryz.ntmps175
    go_wp2_with (first | (go_at_call 201; refine HP2.out.mono ?_; rintro e w1 ⟨x,t,p,rfl,hb⟩; refine Hid.out ?_) | fail)
    refine Lib.hid ?_
    go_wp2
    go_ret2
    exact num2_none rfl hb
   | some n =>
    have HP2:=Lib.hid (parse_yes HP.out)
    have hn:=HSM.out n rfl
    clear HP HSM
    have i5 : IntKind.i64.wrap (n : Int)=(n : Int):=IntWalk.i64_in _ (by omega)
    go_enter Tryz.func175,Tryz.ntmps175
    go_wp2_with (first | (go_at_call 201; refine HP2.out.mono ?_; rintro e w1 ⟨rfl,hb⟩; refine Hid.out ?_) | fail)
    refine Lib.hid ?_
    go_wp2
    go_ret2
    exact num2_some rfl hb
 ·have ho2:=Lib.hid (show o=none by rw [ho]; unfold decN; rw [if_neg (fun h=>h3 (by have:=h.2.1; rw [HL.out] at this; exact this))])
  have e2 : (3 : Int) < (s.size : Int):=by omega
  clear ho
  go_enter Tryz.func175,Tryz.ntmps175
  go_wp2
  go_ret2
  exact num2_none ho2.out (Below.refl _ _)
end Go.Proofs.YtghnopkgcgfcpaaGreatDoor.Cidr
set_option maxHeartbeats 16000000
set_option maxRecDepth 100000
namespace Go.Proofs.YtghnopkgcgfcpaaGreatDoor.Cidr
open Go.RowKit Base
def hexM (acc : Nat) : List UInt8→Lib.NumEnd Nat
 | []=>.ok acc
 | c :: r=>if isHex c=true then (if 65535 < acc * 16 + hexV c then .range else hexM (acc * 16 + hexV c) r) else .syntax
theorem hexM_hex {acc : Nat} {c : UInt8} {r : List UInt8} (h : isHex c=true) : hexM acc (c :: r)=if 65535 < acc * 16 + hexV c then .range else hexM (acc * 16 + hexV c) r:=by rw [hexM,if_pos h]
theorem hexM_no {acc : Nat} {c : UInt8} {r : List UInt8} (h : isHex c=false) : hexM acc (c :: r)=.syntax:=by rw [hexM,h]; rfl
theorem hexM_small : ∀ (l : List UInt8) (a : Nat),(a + 1) * 16 ^ l.length≤65536→hexM a l=if l.all isHex=true then .ok (l.foldl (fun n c=>16 * n + hexV c) a) else .syntax
 | [],a,_=>by simp [hexM]
 | c :: r,a,h=>by
  rw [List.length_cons,Nat.pow_succ] at h
  have h0 : 1≤16 ^ r.length:=Nat.one_le_pow _ _ (by omega)
  have h1 : (a + 1) * 16≤65536:=Nat.le_trans (by rw [show (a + 1) * (16 ^ r.length * 16)=(a + 1) * 16 * 16 ^ r.length by rw [Nat.mul_comm (16 ^ r.length) 16,← Nat.mul_assoc]]; exact Nat.le_mul_of_pos_right _ (by omega)) h
  rw [List.all_cons,List.foldl_cons]
  cases hd : isHex c with
  | true =>
   have hv:=hexV_lt hd
   rw [hexM_hex hd,if_neg (by omega)]
   have ih:=hexM_small r (a * 16 + hexV c) (Nat.le_trans (by rw [show (a + 1) * (16 ^ r.length * 16)=(a * 16 + 16) * 16 ^ r.length by rw [Nat.mul_comm (16 ^ r.length) 16,← Nat.mul_assoc]; congr 1; omega]; exact Nat.mul_le_mul_right _ (by omega)) h)
   rw [ih,Bool.true_and,Nat.mul_comm a 16]
  | false=>rw [hexM_no hd,Bool.false_and,if_neg (by simp)]
theorem low_of (c : UInt8) (h : ¬ (48≤c.toNat∧c.toNat≤57)) : ∃ lo : Nat,bits .or .u8 (c.toNat : Int) 32=(lo : Int)∧lo < 256∧((isHex c=true∧97≤lo∧lo≤102∧hexV c=lo - 87∧c.toNat ≠ 95)∨(isHex c=false∧103≤lo∧lo≤122∧c.toNat ≠ 95)∨(isHex c=false∧lo < 97∧c.toNat ≠ 95)∨(isHex c=false∧122 < lo)):=by
 have e : ∀ y : Fin 256,¬ (48≤y.val∧y.val≤57)→∃ lo : Fin 256,bits .or .u8 (y.val : Int) 32=(lo.val : Int)∧((decide (48≤y.val∧y.val≤57∨97≤y.val∧y.val≤102∨65≤y.val∧y.val≤70)=true∧97≤lo.val∧lo.val≤102∧(if y.val≤57 then y.val - 48 else if 97≤y.val then y.val - 87 else y.val - 55)=lo.val - 87∧y.val ≠ 95)∨(decide (48≤y.val∧y.val≤57∨97≤y.val∧y.val≤102∨65≤y.val∧y.val≤70)=false∧103≤lo.val∧lo.val≤122∧y.val ≠ 95)∨(decide (48≤y.val∧y.val≤57∨97≤y.val∧y.val≤102∨65≤y.val∧y.val≤70)=false∧lo.val < 97∧y.val ≠ 95)∨(decide (48≤y.val∧y.val≤57∨97≤y.val∧y.val≤102∨65≤y.val∧y.val≤70)=false∧122 < lo.val)):=by
  intro y hy
  refine ⟨⟨y.val ||| 32,?_⟩,?_⟩
  ·exact Nat.or_lt_two_pow (n:=8) y.isLt (by decide)
  ·revert hy; revert y; decide +kernel
 obtain ⟨lo,h1,h2⟩:=e ⟨c.toNat,c.toNat_lt⟩ h
 exact ⟨lo.val,h1,lo.isLt,h2⟩
theorem pUint16 (t : ByteArray) (hne : t.size ≠ 0) (hmax : t.size≤9223372036854775806) (w : World) :
  Calls Tryz.prog 218 #[.string t,.int .i64 16,.int .i64 16] w fun e w'=>e=.returned (Lib.uintTupleM 298 65535 (hexM 0 t.data.toList))∧w'=Lib.bytesWorld w 5 t:=by
 have hemp : t.toList.isEmpty=false:=by
  rw [← decide_eq_emptyBytes]
  exact decide_eq_false (fun h=>hne (by rw [h]; rfl))
 have hcv:=Lib.run_convert_string_bytes (P:=Tryz.prog) w 9 86 5 t (u:=.string) Tryz.underlying9 Tryz.underlying86 Tryz.underlying5
 have hB : ∀ j,j < t.size→(Lib.bytesWorld w 5 t).cell? ⟨w.heap.size,j,none⟩=some (.int .u8 (t.data.toList.getD j 0).toNat):=fun j hj=>Lib.bytesWorld_cell w 5 t j hj
 obtain ⟨W1,hW1⟩ : ∃ W1,W1=Lib.bytesWorld w 5 t:=⟨_,rfl⟩
 rw [← hW1] at hcv hB ⊢
 clear hW1
 obtain ⟨bs,hL⟩ : ∃ bs,bs=t.data.toList:=⟨_,rfl⟩
 have hLn : bs.length=t.size:=by rw [hL,Lib.size_eq]
 rw [← hL] at hB ⊢
 clear hL
 have hmv : IntKind.u64.wrap (IntKind.u64.wrap 65536 - 1)=65535:=by
  rw [IntKind.wrap_u64,IntKind.wrap_u64]
  decide
 go_enter Tryz.func218,Tryz.ntmps218
 go_wp2
 go_loop [12,13,101] (fun vu vn vi=>∃ (k acc : Nat) (a : Int),vu=.bool false∧vn=.int .u64 a∧vi=.int .i64 k∧k≤t.size∧Hid (a=(acc : Int)∧acc≤65535∧hexM 0 bs=hexM acc (bs.drop k)))
  (fun _ _ vi=>t.size - (intOf vi).toNat)
 case atStart=>exact ⟨0,0,0,rfl,rfl,rfl,by omega,rfl,by omega,rfl⟩
 case round =>
  obtain ⟨k,acc,a,rfl,rfl,rfl,hk,hh⟩:=hrel
  obtain ⟨ha,hacc,hdec⟩:=hh.out
  clear hh
  have a0 : 0≤a:=by omega
  have a1 : a≤65535:=by omega
  by_cases hkn : k < t.size
  ·have hc:=hB k hkn
   have hdrop : bs.drop k=bs[k]'(by omega) :: bs.drop (k + 1):=List.drop_eq_getElem_cons (by omega)
   have hget : bs.getD k 0=bs[k]'(by omega):=by simp [List.getD,List.getElem?_eq_getElem (show k < bs.length by omega)]
   rw [hdrop] at hdec
   rw [hget] at hc
   generalize bs[k]'(by omega)=c at hc hdec
   have hc256 : c.toNat < 256:=c.toNat_lt
   clear hB hdrop hget
   by_cases hdig : 48≤c.toNat∧c.toNat≤57
   ·obtain ⟨hd0,hd1⟩:=hdig
    have hx : isHex c=true:=(hex_iff c).2 (Or.inl ⟨hd0,hd1⟩)
    have hv : hexV c=c.toNat - 48:=by unfold hexV; rw [if_pos hd1]
    rw [hexM_hex hx,hv] at hdec
    by_cases hov : 65535 < acc * 16 + (c.toNat - 48)
    ·rw [if_pos hov] at hdec
     have iov : 65535 < a * 16 + ((c.toNat : Int) - 48):=by omega
     clear hacc hov ha hx hv
     go_wp2
     go_ret2
     first | exact ⟨rfl,rfl⟩ | exact ⟨by rw [hdec]; rfl,rfl⟩
    ·rw [if_neg hov] at hdec
     have HN : Hid (a * 16 + ((c.toNat : Int) - 48)=((acc * 16 + (c.toNat - 48) : Nat) : Int)∧acc * 16 + (c.toNat - 48)≤65535∧hexM 0 bs=hexM (acc * 16 + (c.toNat - 48)) (bs.drop (k + 1))):=Lib.hid ⟨by omega,by omega,hdec⟩
     have iov : a * 16 + ((c.toNat : Int) - 48)≤65535:=by omega
     clear hacc hov hdec ha hx hv
     go_wp2
     refine ⟨⟨k + 1,acc * 16 + (c.toNat - 48),a * 16 + ((c.toNat : Int) - 48),rfl,(by first | rfl | (congr 1; omega)),(by first | rfl | (congr 1; omega)),by omega,HN⟩,by simp [intOf]; omega⟩
   ·obtain ⟨lo,hlo,hl256,hcase⟩:=low_of c hdig
    have HLOW : Hid (∀ w,Calls Tryz.prog 229 #[.int .u8 (c.toNat : Int)] w fun e w'=>e=.returned (.int .u8 (lo : Int))∧w'=w):=fun w=>by
     have:=Tryz.internal_strconv_lower (c.toNat : Int) w
     rwa [hlo] at this
    clear hlo
    rcases hcase with ⟨hx,l1,l2,hv,l3⟩ | ⟨hx,l1,l2,l3⟩ | ⟨hx,l1,l3⟩ | ⟨hx,l1⟩
    ·rw [hexM_hex hx,hv] at hdec
     have l4 : ((c.toNat : Int) == 95)=false:=by rw [beq_eq_false_iff_ne]; omega
     by_cases hov : 65535 < acc * 16 + (lo - 87)
     ·rw [if_pos hov] at hdec
      have iov : 65535 < a * 16 + ((lo : Int) - 97 + 10):=by omega
      clear hacc hov ha hx hv l3
      go_wp2_with (first | (go_at_call 229; refine (HLOW.out _).mono ?_; rintro e w' ⟨rfl,rfl⟩) | fail)
      all_goals go_ret2
      all_goals first | exact ⟨rfl,rfl⟩ | exact ⟨by rw [hdec]; rfl,rfl⟩
     ·rw [if_neg hov] at hdec
      have HN : Hid (a * 16 + ((lo : Int) - 97 + 10)=((acc * 16 + (lo - 87) : Nat) : Int)∧acc * 16 + (lo - 87)≤65535∧hexM 0 bs=hexM (acc * 16 + (lo - 87)) (bs.drop (k + 1))):=Lib.hid ⟨by omega,by omega,hdec⟩
      have iov : a * 16 + ((lo : Int) - 97 + 10)≤65535:=by omega
      clear hacc hov hdec ha hx hv l3
      go_wp2_with (first | (go_at_call 229; refine (HLOW.out _).mono ?_; rintro e w' ⟨rfl,rfl⟩) | fail)
      all_goals refine ⟨⟨k + 1,acc * 16 + (lo - 87),a * 16 + ((lo : Int) - 97 + 10),rfl,(by first | rfl | (congr 1; omega)),(by first | rfl | (congr 1; omega)),by omega,HN⟩,by simp [intOf]; omega⟩
    ·rw [hexM_no hx] at hdec
     have l4 : ((c.toNat : Int) == 95)=false:=by rw [beq_eq_false_iff_ne]; omega
     clear hacc ha hx l3
     go_wp2_with (first | (go_at_call 229; refine (HLOW.out _).mono ?_; rintro e w' ⟨rfl,rfl⟩) | fail)
     all_goals go_ret2
     all_goals first | exact ⟨rfl,rfl⟩ | exact ⟨by rw [hdec]; rfl,rfl⟩
    ·rw [hexM_no hx] at hdec
     have l4 : ((c.toNat : Int) == 95)=false:=by rw [beq_eq_false_iff_ne]; omega
     clear hacc ha hx l3
     go_wp2_with (first | (go_at_call 229; refine (HLOW.out _).mono ?_; rintro e w' ⟨rfl,rfl⟩) | fail)
     all_goals go_ret2
     all_goals first | exact ⟨rfl,rfl⟩ | exact ⟨by rw [hdec]; rfl,rfl⟩
    ·rw [hexM_no hx] at hdec
     rcases (show ((c.toNat : Int) == 95)=true∨((c.toNat : Int) == 95)=false by cases ((c.toNat : Int) == 95) <;> simp) with l4 | l4
     all_goals
      clear hacc ha hx
      go_wp2_with (first | (go_at_call 229; refine (HLOW.out _).mono ?_; rintro e w' ⟨rfl,rfl⟩) | fail)
      all_goals go_ret2
      all_goals first | exact ⟨rfl,rfl⟩ | exact ⟨by rw [hdec]; rfl,rfl⟩
  ·have hkk : k=t.size:=by omega
   subst hkk
   have hF : hexM acc (bs.drop t.size)=.ok acc:=by rw [List.drop_eq_nil_of_le (by omega)]; rfl
   rw [hF] at hdec
   subst ha
   clear hacc hF a0 a1
   go_wp2
   go_ret2
   first | exact ⟨rfl,rfl⟩ | exact ⟨by rw [hdec]; rfl,rfl⟩
theorem var_err {w : World} {n : String} {tp : TypeId} {p : Value} (g : Nat) (hg : Tryz.prog.globalNamed n=some g) (h : w.var? Tryz.prog n=some #[.iface tp p]) : w.cell? ⟨g,0,none⟩=some (.iface tp p):=var_cell hg h
def hexO (l : List UInt8) : Option Nat:=if l=[] then none else match hexM 0 l with | .ok n=>some n | _=>none
theorem hexM_le : ∀ (l : List UInt8) (a n : Nat),a≤65535→hexM a l=.ok n→n≤65535
 | [],a,n,h,e=>by rw [hexM] at e; cases e; exact h
 | c :: r,a,n,h,e=>by
  cases hd : isHex c with
  | false=>rw [hexM_no hd] at e; cases e
  | true =>
   rw [hexM_hex hd] at e
   split at e
   ·cases e
   ·exact hexM_le r _ n (by omega) e
theorem hexO_le {l : List UInt8} {n : Nat} (h : hexO l=some n) : n≤65535:=by
 unfold hexO at h
 split at h
 ·cases h
 ·split at h
  ·rename_i m hm; cases h; exact hexM_le l 0 _ (by omega) hm
  ·cases h
theorem hexO_grp (l : List UInt8) (h : l.length≤4) : grpN l=hexO l:=by
 unfold grpN hexO
 by_cases h0 : l=[]
 ·subst h0; simp
 ·have hp : 16 ^ l.length≤16 ^ 4:=Nat.pow_le_pow_right (by decide) h
  have h1 : 1≤l.length:=by cases l with | nil=>exact absurd rfl h0 | cons=>simp
  rw [if_neg h0,hexM_small l 0 (by omega)]
  by_cases hd : l.all isHex=true
  ·rw [if_pos hd,if_pos ⟨h1,h,hd⟩]; rfl
  ·rw [if_neg hd,if_neg (fun h=>hd h.2.2)]
theorem pParse16 (s : ByteArray) (w : World) (hs : s.size≤100) (he : Env w) : Calls Tryz.prog 201 #[.string s,.int .i64 16,.int .i64 16] w (ParseEnd (hexO s.data.toList) w):=by
 obtain ⟨tp,p,hv⟩:=he.syn
 obtain ⟨tp2,p2,hv2⟩:=he.rng
 have hc1:=var_err 6 gSyn hv
 have hc2:=var_err 7 gRng hv2
 clear hv hv2 he
 by_cases h0 : s.size=0
 ·obtain rfl:=str_empty h0
  have HO : Hid (hexO (⟨#[]⟩ : ByteArray).data.toList=none):=rfl
  have HI:=Lib.hid (Tryz.internal_strconv_ParseUint_empty 16 16 w)
  have HE:=Lib.hid (Tryz.strconv_toError_syntax ⟨#[80,97,114,115,101,85,105,110,116]⟩ ⟨#[]⟩ 16 16 _ w (by decide) hc1 (Or.inr ⟨_,_,rfl⟩))
  go_enter Tryz.func201,Tryz.ntmps201
  go_wp2_with (first | (go_at_call 218; refine HI.out.mono ?_; rintro e w' ⟨rfl,rfl⟩; refine Hid.out ?_) | fail)
  refine Lib.hid ?_
  go_wp2_with (first | (go_at_call 219; refine HE.out.mono ?_; rintro e w' ⟨N,rfl,_,_,hb⟩; refine Hid.out ?_) | fail)
  refine Lib.hid ?_
  go_wp2
  go_ret2
  exact ⟨hb,Or.inr ⟨HO.out,_,_,_,rfl⟩⟩
 ·have hl0 : s.data.toList ≠ []:=fun h=>h0 (by rw [← str_len,h]; rfl)
  have HI:=Lib.hid (pUint16 s h0 (by omega) w)
  have HB:=Lib.hid (bytesWorld_below w s)
  have hb1:=bytesWorld_below w s
  have HO : Hid (hexO s.data.toList=match hexM 0 s.data.toList with | .ok n=>some n | _=>none):=by show _=_; unfold hexO; rw [if_neg hl0]
  have HC1 : Hid ((Lib.bytesWorld w 5 s).cell? ⟨6,0,none⟩=some (.iface tp p)):=(hb1.cell (p:=⟨6,0,none⟩) (cell_lt hc1)).trans hc1
  have HC2 : Hid ((Lib.bytesWorld w 5 s).cell? ⟨7,0,none⟩=some (.iface tp2 p2)):=(hb1.cell (p:=⟨7,0,none⟩) (cell_lt hc2)).trans hc2
  obtain ⟨W1,hW1⟩ : ∃ W1,W1=Lib.bytesWorld w 5 s:=⟨_,rfl⟩
  rw [← hW1] at HB HC1 HC2
  have HI2 : Hid (Calls Tryz.prog 218 #[.string s,.int .i64 16,.int .i64 16] w fun e w'=>e=.returned (Lib.uintTupleM 298 65535 (hexM 0 s.data.toList))∧w'=W1):=by rw [hW1]; exact HI
  clear hb1 hc1 hc2 HI hW1
  cases hm : hexM 0 s.data.toList with
  | ok n =>
   rw [hm] at HI2 HO
   have HI3 : Hid (Calls Tryz.prog 218 #[.string s,.int .i64 16,.int .i64 16] w fun e w'=>e=.returned (.tuple #[.int .u64 (n : Int),.nilIface])∧w'=W1):=HI2.out
   clear hm HI2
   go_enter Tryz.func201,Tryz.ntmps201
   go_wp2_with (first | (go_at_call 218; refine HI3.out.mono ?_; rintro e w' ⟨rfl,rfl⟩; refine Hid.out ?_) | fail)
   refine Lib.hid ?_
   go_wp2
   go_ret2
   exact ⟨HB.out,Or.inl ⟨n,HO.out,rfl⟩⟩
  | «syntax» =>
   rw [hm] at HI2 HO
   have HI3 : Hid (Calls Tryz.prog 218 #[.string s,.int .i64 16,.int .i64 16] w fun e w'=>e=.returned (.tuple #[.int .u64 0,.iface 298 (.int .i64 2)])∧w'=W1):=HI2.out
   clear hm HI2
   have HE:=Lib.hid (Tryz.strconv_toError_syntax ⟨#[80,97,114,115,101,85,105,110,116]⟩ s 16 16 _ W1 (by omega) HC1.out (Or.inr ⟨_,_,rfl⟩))
   go_enter Tryz.func201,Tryz.ntmps201
   go_wp2_with (first | (go_at_call 218; refine HI3.out.mono ?_; rintro e w' ⟨rfl,rfl⟩; refine Hid.out ?_) | fail)
   refine Lib.hid ?_
   go_wp2_with (first | (go_at_call 219; refine HE.out.mono ?_; rintro e w' ⟨N,rfl,_,_,hb⟩; refine Hid.out ?_) | fail)
   refine Lib.hid ?_
   go_wp2
   go_ret2
   exact ⟨HB.out.trans (hb.mono HB.out.size),Or.inr ⟨HO.out,_,_,_,rfl⟩⟩
  | range =>
   rw [hm] at HI2 HO
   have HI3 : Hid (Calls Tryz.prog 218 #[.string s,.int .i64 16,.int .i64 16] w fun e w'=>e=.returned (.tuple #[.int .u64 65535,.iface 298 (.int .i64 1)])∧w'=W1):=HI2.out
   clear hm HI2
   have HE:=Lib.hid (Tryz.strconv_toError_range ⟨#[80,97,114,115,101,85,105,110,116]⟩ s 16 16 _ W1 (by omega) HC2.out (Or.inr ⟨_,_,rfl⟩))
   go_enter Tryz.func201,Tryz.ntmps201
   go_wp2_with (first | (go_at_call 218; refine HI3.out.mono ?_; rintro e w' ⟨rfl,rfl⟩; refine Hid.out ?_) | fail)
   refine Lib.hid ?_
   go_wp2_with (first | (go_at_call 219; refine HE.out.mono ?_; rintro e w' ⟨N,rfl,_,_,hb⟩; refine Hid.out ?_) | fail)
   refine Lib.hid ?_
   go_wp2
   go_ret2
   exact ⟨HB.out.trans (hb.mono HB.out.size),Or.inr ⟨HO.out,_,_,_,rfl⟩⟩
end Go.Proofs.YtghnopkgcgfcpaaGreatDoor.Cidr
namespace Go.Proofs.YtghnopkgcgfcpaaGreatDoor.Cidr
open Go.RowKit Base
end Go.Proofs.YtghnopkgcgfcpaaGreatDoor.Cidr
set_option maxHeartbeats 16000000
set_option maxRecDepth 100000
namespace Go.Proofs.YtghnopkgcgfcpaaGreatDoor.Cidr
open Go.RowKit Base
abbrev zA : List UInt8:=List.replicate 16 0
theorem cells_all (c : List UInt8) : ((c.map B8).toArray).all (·.oneCell')=true:=all_oneCell_toArray (cs:=c.map B8) (fun v hv=>by simp only [List.mem_map] at hv; obtain ⟨x,_,rfl⟩:=hv; rfl)
theorem zA_new (w : World) : AddrAt (w.alloc (.cells (List.replicate 16 (Value.int .u8 0)).toArray 68)) w.heap.size zA:=AddrAt.new w zA
theorem AddrAt.there {w : World} {b : Nat} {a c : List UInt8} (h : AddrAt w b a) (ha : a.length=16) (hc : c.length=16) : w.there b 0 (c.map B8).toArray.size:=there_of h (by simp [ha,hc])
theorem AddrAt.put {w w2 : World} {b : Nat} {a c : List UInt8} (h : AddrAt w b a) (ha : a.length=16) (hc : c.length=16) (hw : w.setCells b 0 (c.map B8).toArray.toList=w2) : AddrAt w2 b c∧KeepX b w w2∧w2.heap.size=w.heap.size:=addr_put h (by simp [ha]) hc hw
theorem pieces_len (c : UInt8) : ∀ (l : List UInt8),l.length + 1=((splitB c l).map (fun p=>p.length + 1)).sum
 | []=>by simp [splitB]
 | x :: r=>by
  have ih:=pieces_len c r
  rw [splitB_eq]
  split
  ·rw [List.map_cons,List.sum_cons,← ih]; simp; omega
  ·split
   ·rename_i hq; exact absurd hq (splitB_ne c r)
   ·rename_i h t hq
    rw [hq,List.map_cons,List.sum_cons] at ih
    rw [List.map_cons,List.sum_cons]; simp at ih ⊢; omega
theorem sum_le {α : Type} (f : α→Nat) (m : Nat) : ∀ (l : List α),(∀ x ∈ l,f x≤m)→(l.map f).sum≤m * l.length
 | [],_=>by simp
 | x :: r,h=>by
  have h1:=sum_le f m r fun y hy=>h y (List.mem_cons_of_mem _ hy)
  have h2:=h x List.mem_cons_self
  rw [List.map_cons,List.sum_cons,List.length_cons,Nat.mul_succ]; omega
theorem mapO_all {α β : Type} {f : α→Option β} : ∀ {l : List α} {r : List β},mapO f l=some r→r.length=l.length∧∀ x ∈ l,∃ y,f x=some y
 | [],r,h=>by simp [mapO] at h; subst h; simp
 | x :: q,r,h=>by
  unfold mapO at h
  cases hx : f x with
  | none=>rw [hx] at h; cases h
  | some a =>
   rw [hx] at h
   cases hq : mapO f q with
   | none=>rw [hq] at h; cases h
   | some l =>
    rw [hq] at h
    cases h
    obtain ⟨h1,h2⟩:=mapO_all hq
    refine ⟨by simp [h1],fun y hy=>?_⟩
    rcases List.mem_cons.1 hy with rfl | hy
    ·exact ⟨a,hx⟩
    ·exact h2 y hy
theorem decN_len {p : List UInt8} {n : Nat} (h : decN p=some n) : p.length≤3:=by
 unfold decN at h
 split at h
 ·rename_i hh; exact hh.2.1
 ·cases h
theorem fourN_len {l : List UInt8} {n : NetM} (h : fourN l=some n) : l.length≤39:=by
 unfold fourN fourB at h
 split at h
 ·rename_i h4
  cases hm : mapO byteN (splitB 46 l) with
  | none=>rw [hm] at h; cases h
  | some ns =>
   obtain ⟨_,h2⟩:=mapO_all hm
   have h3:=pieces_len 46 l
   have h5:=sum_le (fun p : List UInt8=>p.length + 1) 4 (splitB 46 l) fun p hp=>by
    obtain ⟨y,hy⟩:=h2 p hp
    have:=decN_len (byteN_le hy).2
    show p.length + 1≤4
    omega
   rw [h4] at h5; omega
 ·cases h
theorem fourN_big {l : List UInt8} (h : 39 < l.length) : fourN l=none:=by
 cases hf : fourN l with
 | none=>rfl
 | some n=>have:=fourN_len hf; omega
def AEnd (o : Option NetM) (w : World) (e : Ending) (w' : World) : Prop :=
 Below w.heap.size w w'∧((o=none∧e=.returned (.tuple #[.agg (zA.map B8).toArray,.bool false]))∨∃ n : NetM,o=some n∧n.a.length=16∧e=.returned (.tuple #[.agg (n.a.map B8).toArray,.bool true]))
theorem pFour (s : ByteArray) (w : World) (he : Env w) : Calls Tryz.prog 131 #[.string s] w (AEnd (fourN s.data.toList) w):=by
 obtain ⟨o,ho⟩ : ∃ o,o=fourN s.data.toList:=⟨_,rfl⟩
 rw [← ho]
 have H0:=Lib.hid (zA_new w)
 have HB0:=Lib.hid (Below.alloc1 w (.cells (List.replicate 16 (Value.int .u8 0)).toArray 68))
 have HSC:=Lib.hid (size23a (a:=zA) rfl)
 have HALL:=Lib.hid (cells_all zA)
 have HE:=Lib.hid he
 clear he
 by_cases hs : s.size≤39
 ·have e39 : ¬ (39 : Int) < (s.size : Int):=by omega
  unfold fourN fourB at ho
  have HSP:=Lib.hid (fun w he=>pSplit s 46 w (by omega) he)
  obtain ⟨ps,hps⟩ : ∃ ps,ps=splitB 46 s.data.toList:=⟨_,rfl⟩
  rw [← hps] at ho HSP
  have HO:=Lib.hid ho
  clear ho hps
  have HE0:=Lib.hid (HE.out.on HB0.out)
  go_enter Tryz.func131,Tryz.ntmps131
  go_wp2_with (first | (go_at_call 34; refine (HSP.out _ HE0.out).mono ?_; rintro e w1 ⟨v1,rfl,o1,b1⟩; refine Hid.out ?_) | fail)
  refine Lib.hid ?_
  obtain ⟨pa,pc,rfl,_⟩:=o1.form
  have HP:=Lib.hid o1
  have HB1 : Hid (Below w.heap.size w w1):=HB0.out.trans (b1.mono HB0.out.size)
  have HN1 : Hid (AddrAt w1 w.heap.size zA):=H0.out.on b1
  have HL1 : Hid (w.heap.size < w1.heap.size):=heap_lt HN1.out
  have HE1 : Hid (Env w1):=HE0.out.on b1
  clear o1 b1
  by_cases h4 : ps.length=4
  ·have e1 : ((ps.length : Int) != 4)=false:=by rw [h4]; rfl
   have HO4 : Hid (o=(mapO byteN ps).map fun ns=>⟨false,32,addr4 ns⟩):=by have:=HO.out; rw [if_pos h4] at this; exact this
   have HP4:=Lib.hid h4
   have HN2:=Lib.hid (zA_new w1)
   have HB2:=Lib.hid (Below.alloc1 w1 (.cells (List.replicate 16 (Value.int .u8 0)).toArray 68))
   clear HO h4
   obtain ⟨R,hR⟩ : ∃ R : Value→World→Prop,R=fun i wr=>∃ ns : List Nat,ns.length≤4∧i=.int .i64 (ns.length : Int)∧AddrAt wr w1.heap.size (addr4 ns)∧Below w1.heap.size w1 wr∧Hid (mapO byteN (ps.take ns.length)=some ns):=⟨_,rfl⟩
   have HR:=Lib.hid hR
   clear hR
   have e5 : ¬ (ps.length : Int) < 0:=by omega
   go_wp2
   go_loopw [22] (fun i wr=>R i wr) (fun i _=>4 - (intOf i).toNat)
   case atStart=>rw [HR.out]; exact ⟨[],by simp,rfl,HN2.out,HB2.out,rfl⟩
   case round =>
    rw [HR.out] at hrel
    obtain ⟨ns,hk,rfl,hat,hbw,hm⟩:=hrel
    have h4:=HP4.out
    have HAT:=Lib.hid hat
    have HBW:=Lib.hid hbw
    have HAL:=Lib.hid (addr4_len (ns:=ns) (by omega))
    have HN0r : Hid (AddrAt wr w.heap.size zA):=HN1.out.on hbw
    have HBF : Hid (Below w.heap.size w wr):=HB1.out.trans (hbw.mono HB1.out.size)
    by_cases hlt : ns.length < 4
    ·have hltp : ns.length < ps.length:=by omega
     have hx : ps[ns.length]?=some (ps[ns.length]):=List.getElem?_eq_getElem hltp
     have HX:=Lib.hid hx
     obtain ⟨pb,rfl,hcell⟩:=(HP.out.on hbw).cell hx
     generalize ps[ns.length]=x at hcell HX
     have HG:=Lib.hid (pNumber ⟨x.toArray⟩ wr (HE1.out.on hbw))
     have i1 : (ns.length : Int) < (ps.length : Int):=by omega
     have i0' : (0 : Int)≤(ns.length : Int):=by omega
     rw [show (⟨x.toArray⟩ : ByteArray).data.toList=x from rfl] at HG
     clear hx hat hbw h4
     cases hgx : byteN x with
     | none =>
      have HNO : Hid (o=none):=by have:=HO4.out; rw [mapO_none byteN hgx (List.mem_of_getElem? HX.out)] at this; exact this
      rcases byteN_none hgx with hd | ⟨z,hd,hz⟩
      ·rw [hd] at HG
       clear hgx hd hm
       go_wp2_with (first | (go_at_call 175; refine HG.out.mono ?_; rintro e w2 ⟨rfl,b2⟩; refine Hid.out ?_) | fail)
       refine Lib.hid ?_
       have HN2r:=Lib.hid (HN0r.out.on b2)
       have HB2r:=Lib.hid (HBF.out.trans (b2.mono HBF.out.size))
       have HTt:=Lib.hid (HN2r.out.there (c:=zA) rfl rfl)
       clear b2
       go_wp2_with (first | (refine wpList_store_mid rfl 68 (.tmp 2) (.tmp 38) rfl w.heap.size 0 (zA.map B8).toArray rfl rfl HTt.out HSC.out HALL.out ?_; generalize hwf : World.setCells _ _ _ _=wf; refine Hid.out ?_) | fail)
       refine Lib.hid ?_
       obtain ⟨hnf,hkf,hzf⟩:=AddrAt.put HN2r.out rfl (c:=zA) rfl hwf
       have HNF:=Lib.hid hnf
       have HKF:=Lib.hid hkf
       clear hnf hkf hzf hwf
       go_wp2
       exact bodyPost_ret (results_addr2 Tryz.results131 rfl rfl HNF.out rfl) rfl ⟨HB2r.out.trans (HKF.out.below (Nat.le_refl _) (heap_lt HN2r.out)),Or.inl ⟨HNO.out,rfl⟩⟩
      ·rw [hd] at HG
       have hz5 : (255 : Int) < (z : Int):=by omega
       clear hgx hd hm
       go_wp2_with (first | (go_at_call 175; refine HG.out.mono ?_; rintro e w2 ⟨rfl,b2⟩; refine Hid.out ?_) | fail)
       refine Lib.hid ?_
       have HN2r:=Lib.hid (HN0r.out.on b2)
       have HB2r:=Lib.hid (HBF.out.trans (b2.mono HBF.out.size))
       have HTt:=Lib.hid (HN2r.out.there (c:=zA) rfl rfl)
       clear b2
       go_wp2_with (first | (refine wpList_store_mid rfl 68 (.tmp 2) (.tmp 38) rfl w.heap.size 0 (zA.map B8).toArray rfl rfl HTt.out HSC.out HALL.out ?_; generalize hwf : World.setCells _ _ _ _=wf; refine Hid.out ?_) | fail)
       refine Lib.hid ?_
       obtain ⟨hnf,hkf,hzf⟩:=AddrAt.put HN2r.out rfl (c:=zA) rfl hwf
       have HNF:=Lib.hid hnf
       have HKF:=Lib.hid hkf
       clear hnf hkf hzf hwf
       go_wp2
       exact bodyPost_ret (results_addr2 Tryz.results131 rfl rfl HNF.out rfl) rfl ⟨HB2r.out.trans (HKF.out.below (Nat.le_refl _) (heap_lt HN2r.out)),Or.inl ⟨HNO.out,rfl⟩⟩
     | some z =>
      obtain ⟨hz5,hd⟩:=byteN_le hgx
      rw [hd] at HG
      have HM2 : Hid (mapO byteN (ps.take (ns++[z]).length)=some (ns++[z])):=by
       show _=_
       rw [List.length_append,List.length_singleton,List.take_succ_eq_append_getElem hltp,show ps[ns.length]=x by have:=HX.out; rw [List.getElem?_eq_getElem hltp] at this; exact Option.some.inj this]
       exact mapO_snoc byteN x _ hm.out hgx
      have hz6 : ¬ (255 : Int) < (z : Int):=by omega
      have hz7 : IntKind.u8.wrap (z : Int)=(z : Int):=by rw [IntKind.wrap_u8]; omega
      have HSET : Hid (∀ w2,Below wr.heap.size wr w2→(w2.cell? ⟨w1.heap.size,ns.length,none⟩=some (.int .u8 (((addr4 ns).getD ns.length 0).toNat : Int))∧w2.frozen? ⟨w1.heap.size,ns.length,none⟩=false)∧R (.int .i64 ((ns.length : Int) + 1)) (w2.setCell ⟨w1.heap.size,ns.length,none⟩ (.int .u8 (z : Int)))):=fun w2 hb2=>by
       have hat2:=HAT.out.on hb2
       refine ⟨hat2.cell (k:=ns.length) (by rw [HAL.out]; omega),?_⟩
       rw [HR.out]
       have:=hat2.set ns.length (UInt8.ofNat z)
       rw [show B8 (UInt8.ofNat z)=Value.int .u8 (z : Int) by simp [B8]; omega] at this
       refine ⟨ns++[z],by (simp; omega),by simp,?_,?_,HM2.out⟩
       ·rw [← addr4_set (by omega)]; exact this
       ·exact (HBW.out.trans (hb2.mono HBW.out.size)).trans ((KeepX.set w1.heap.size w2 ns.length _).below (Nat.le_refl _) (heap_lt hat2))
      clear hgx hd hm
      go_wp2_with (first | (go_at_call 175; refine HG.out.mono ?_; rintro e w2 ⟨rfl,b2⟩; refine Hid.out ?_) | fail)
      refine Lib.hid ?_
      obtain ⟨⟨c1,c2⟩,hfin⟩:=HSET.out w2 b2
      have HFIN:=Lib.hid hfin
      clear hfin b2
      go_wp2
      go_roundw
      case rel=>exact HFIN.out
      case measure=>simp [intOf]; omega
    ·have HYES : Hid (o=some ⟨false,32,addr4 ns⟩):=by
      have h1:=hm.out
      rw [List.take_of_length_le (by omega)] at h1
      have:=HO4.out
      rw [h1] at this
      exact this
     have i1 : ¬ (ns.length : Int) < (ps.length : Int):=by omega
     have HTt:=Lib.hid (HN0r.out.there (c:=addr4 ns) rfl HAL.out)
     have HSZ:=Lib.hid (size23_of HAL.out)
     have HSC2:=Lib.hid (size23a HAL.out)
     have HAL2:=Lib.hid (cells_all (addr4 ns))
     have HPUT:=Lib.hid (fun w2=>@AddrAt.put _ w2 _ _ (addr4 ns) HN0r.out rfl HAL.out)
     clear hm hat hbw h4
     generalize addr4 ns=c at *
     go_wp2_with (first | (refine wpList_load_mid rfl 68 (.tmp 5) rfl w1.heap.size 0 rfl (c.map B8) _ HAT.out.range Tryz.underlying68 rfl HSZ.out ?_) | (refine wpList_store_mid rfl 68 (.tmp 2) (.tmp 44) rfl w.heap.size 0 (c.map B8).toArray rfl rfl HTt.out HSC2.out HAL2.out ?_; generalize hwf : World.setCells _ _ _ _=wf; refine Hid.out ?_) | fail)
     refine Lib.hid ?_
     obtain ⟨hnf,hkf,hzf⟩:=HPUT.out wf hwf
     have HNF:=Lib.hid hnf
     have HKF:=Lib.hid hkf
     clear hnf hkf hzf hwf
     go_wp2
     exact bodyPost_ret (results_addr2 Tryz.results131 rfl rfl HNF.out HAL.out) rfl ⟨HBF.out.trans (HKF.out.below (Nat.le_refl _) (heap_lt HN0r.out)),Or.inr ⟨_,HYES.out,HAL.out,rfl⟩⟩
  ·have e1 : ((ps.length : Int) != 4)=true:=by rw [bne_iff_ne]; omega
   have HNO : Hid (o=none):=by have:=HO.out; rw [if_neg h4] at this; exact this
   have HTt:=Lib.hid (HN1.out.there (c:=zA) rfl rfl)
   clear HO h4
   go_wp2_with (first | (refine wpList_store_mid rfl 68 (.tmp 2) (.tmp 19) rfl w.heap.size 0 (zA.map B8).toArray rfl rfl HTt.out HSC.out HALL.out ?_; generalize hwf : World.setCells _ _ _ _=wf; refine Hid.out ?_) | fail)
   refine Lib.hid ?_
   obtain ⟨hnf,hkf,hzf⟩:=AddrAt.put HN1.out rfl (c:=zA) rfl hwf
   have HNF:=Lib.hid hnf
   have HKF:=Lib.hid hkf
   clear hnf hkf hzf hwf
   go_wp2
   exact bodyPost_ret (results_addr2 Tryz.results131 rfl rfl HNF.out rfl) rfl ⟨HB1.out.trans (HKF.out.below (Nat.le_refl _) HL1.out),Or.inl ⟨HNO.out,rfl⟩⟩
 ·have e39 : (39 : Int) < (s.size : Int):=by omega
  have HNO : Hid (o=none):=ho.trans (fourN_big (by rw [str_len]; omega))
  have HTt:=Lib.hid (H0.out.there (c:=zA) rfl rfl)
  clear ho
  go_enter Tryz.func131,Tryz.ntmps131
  go_wp2_with (first | (refine wpList_store_mid rfl 68 (.tmp 2) (.tmp 13) rfl w.heap.size 0 (zA.map B8).toArray rfl rfl HTt.out HSC.out HALL.out ?_; generalize hwf : World.setCells _ _ _ _=wf; refine Hid.out ?_) | fail)
  refine Lib.hid ?_
  obtain ⟨hnf,hkf,hzf⟩:=AddrAt.put H0.out rfl (c:=zA) rfl hwf
  have HNF:=Lib.hid hnf
  have HKF:=Lib.hid hkf
  clear hnf hkf hzf hwf
  go_wp2
  exact bodyPost_ret (results_addr2 Tryz.results131 rfl rfl HNF.out rfl) rfl ⟨HB0.out.trans (HKF.out.below (Nat.le_refl _) (heap_lt H0.out)),Or.inl ⟨HNO.out,rfl⟩⟩
end Go.Proofs.YtghnopkgcgfcpaaGreatDoor.Cidr
set_option maxHeartbeats 16000000
set_option maxRecDepth 100000
namespace Go.Proofs.YtghnopkgcgfcpaaGreatDoor.Cidr
open Go.RowKit Base
def GEnd (o : Option (List Nat)) (w : World) (e : Ending) (w' : World) : Prop :=
 Below w.heap.size w w'∧((o=none∧e=.returned (.tuple #[.slice none 0 0,.bool false]))∨∃ ns v,o=some ns∧e=.returned (.tuple #[v,.bool true])∧Owns w' w.heap.size v (ns.flatMap two))
theorem reads_two (w : World) (x y : UInt8) (a b : Int) (ha : a=(x.toNat : Int)) (hb : b=(y.toNat : Int)) : Reads (w.alloc (.cells #[.int .u8 a,.int .u8 b] 5)) (.slice (some ⟨w.heap.size,0,none⟩) 2 2) [x,y]:=by
 subst ha hb
 exact reads_lit w 5 #[.int .u8 x.toNat,.int .u8 y.toNat] [x,y] 2 rfl rfl (0,0)
theorem two_parts (n : Nat) (h : n≤65535) : ((n / 256 : Nat) : Int)=((UInt8.ofNat (n / 256)).toNat : Int)∧((n % 256 : Nat) : Int)=((UInt8.ofNat (n % 256)).toNat : Int):=by
 constructor
 ·simp; omega
 ·simp
theorem grpN_yes {x : List UInt8} {n : Nat} (h : hexO x=some n) (h4 : x.length≤4) : grpN x=some n:=by rw [hexO_grp x h4,h]
theorem grpN_no {x : List UInt8} (h : hexO x=none∨4 < x.length) : grpN x=none:=by
 by_cases h4 : x.length≤4
 ·rcases h with h | h
  ·rw [hexO_grp x h4,h]
  ·omega
 ·unfold grpN; rw [if_neg (fun h=>h4 h.2.1)]
theorem flat_two_len (ns : List Nat) : (ns.flatMap two).length=2 * ns.length:=by
 induction ns with
 | nil=>rfl
 | cons a r ih=>rw [List.flatMap_cons,List.length_append,ih]; simp [two]; omega
theorem pGroups (s : ByteArray) (hs : s.size≤39) (w : World) (he : Env w) : Calls Tryz.prog 177 #[.string s] w (GEnd (grpsN s.data.toList) w):=by
 obtain ⟨o,ho⟩ : ∃ o,o=grpsN s.data.toList:=⟨_,rfl⟩
 rw [← ho]
 have HE:=Lib.hid he
 clear he
 by_cases h0 : s.size=0
 ·obtain rfl:=str_empty h0
  have HO : Hid (o=some []):=ho
  clear ho h0
  go_enter Tryz.func177,Tryz.ntmps177
  go_wp2
  go_ret2
  exact ⟨Below.refl _ _,Or.inr ⟨[],_,HO.out,rfl,owns_nil _ _⟩⟩
 ·obtain ⟨hz1,hz2⟩:=str_ne h0
  have hl0 : s.data.toList ≠ []:=fun h=>h0 (by rw [← str_len,h]; rfl)
  unfold grpsN at ho
  rw [if_neg hl0] at ho
  have HSP:=Lib.hid (pSplit s 58 w (by omega) HE.out)
  have hle : ∀ p ∈ splitB 58 s.data.toList,p.length≤39:=fun p hp=>by have:=piece_len hp; rw [str_len] at this; omega
  have hcnt:=splitB_len 58 s.data.toList
  rw [str_len] at hcnt
  obtain ⟨ps,hps⟩ : ∃ ps,ps=splitB 58 s.data.toList:=⟨_,rfl⟩
  rw [← hps] at ho HSP hle hcnt
  have HO:=Lib.hid ho
  have HLE:=Lib.hid hle
  have HCN : Hid (ps.length≤40):=by show _≤_; omega
  clear ho hps hl0 hle hcnt
  go_enter Tryz.func177,Tryz.ntmps177
  go_wp2_with (first | (go_at_call 34; refine HSP.out.mono ?_; rintro e w1 ⟨v1,rfl,o1,b1⟩; refine Hid.out ?_) | fail)
  refine Lib.hid ?_
  obtain ⟨pa,pc,rfl,_⟩:=o1.form
  have HP:=Lib.hid o1
  have HB1:=Lib.hid b1
  have HE1 : Hid (Env w1):=HE.out.on b1
  clear o1 b1
  have e5 : ¬ (ps.length : Int) < 0:=by omega
  obtain ⟨R,hR⟩ : ∃ R : Value→Value→World→Prop,R=fun v i wr=>∃ ns : List Nat,ns.length≤ps.length∧i=.int .i64 (ns.length : Int)∧Owns wr w1.heap.size v (ns.flatMap two)∧Below w.heap.size w wr∧Below w1.heap.size w1 wr∧Hid (mapO grpN (ps.take ns.length)=some ns):=⟨_,rfl⟩
  have HR:=Lib.hid hR
  clear hR
  go_wp2
  go_loopw [4,14] (fun v i wr=>R v i wr) (fun _ i _=>ps.length - (intOf i).toNat)
  case atStart=>rw [HR.out]; exact ⟨[],by simp,rfl,(owns_nil _ _),HB1.out,Below.refl _ _,rfl⟩
  case round =>
   rw [HR.out] at hrel
   obtain ⟨ns,hk,rfl,hown,hbw,hbw1,hm⟩:=hrel
   have HOW:=Lib.hid hown
   have HBW:=Lib.hid hbw
   have HER:=Lib.hid (HE1.out.on hbw1)
   by_cases hlt : ns.length < ps.length
   ·have hx : ps[ns.length]?=some (ps[ns.length]):=List.getElem?_eq_getElem hlt
    have HX:=Lib.hid hx
    obtain ⟨pb,rfl,hcell⟩:=(HP.out.on hbw1).cell hx
    generalize hxx : ps[ns.length]=x at hcell HX
    have hxl:=HLE.out x (List.mem_of_getElem? HX.out)
    have HG:=Lib.hid (pParse16 ⟨x.toArray⟩ wr (by rw [arr_size]; omega) HER.out)
    have hcn:=HCN.out
    have i1 : (ns.length : Int) < (ps.length : Int):=by omega
    have i0' : (0 : Int)≤(ns.length : Int):=by omega
    rw [show (⟨x.toArray⟩ : ByteArray).data.toList=x from rfl] at HG
    have HASZ:=Lib.hid (arr_size x)
    have HBW1:=Lib.hid hbw1
    clear hx hown hbw hbw1 hxx
    cases hgx : hexO x with
    | none =>
     have HNO : Hid (o=none):=by have:=HO.out; rw [mapO_none grpN (grpN_no (Or.inl hgx)) (List.mem_of_getElem? HX.out)] at this; exact this
     rw [hgx] at HG
     have HG2:=Lib.hid (parse_no HG.out)
     clear hgx hm HG
     go_wp2_with (first | (go_at_call 201; refine HG2.out.mono ?_; rintro e w2 ⟨x0,t0,p0,rfl,b2⟩; refine Hid.out ?_) | fail)
     refine Lib.hid ?_
     have HB2:=Lib.hid (HBW.out.trans (b2.mono HBW.out.size))
     clear b2
     go_wp2
     go_ret2
     exact ⟨HB2.out,Or.inl ⟨HNO.out,rfl⟩⟩
    | some n =>
     have hn:=hexO_le hgx
     rw [hgx] at HG
     have HG2:=Lib.hid (parse_yes HG.out)
     by_cases h4 : x.length≤4
     ·have hgr:=grpN_yes hgx h4
      have HM2 : Hid (mapO grpN (ps.take (ns++[n]).length)=some (ns++[n])):=by
       show _=_
       rw [List.length_append,List.length_singleton,List.take_succ_eq_append_getElem hlt,show ps[ns.length]=x by have:=HX.out; rw [List.getElem?_eq_getElem hlt] at this; exact Option.some.inj this]
       exact mapO_snoc grpN x _ hm.out hgr
      have i4 : ¬ (4 : Int) < ((⟨x.toArray⟩ : ByteArray).size : Int):=by rw [HASZ.out]; omega
      have HFL:=Lib.hid (flat_two_len ns)
      have HCL : Hid ((ns.flatMap two).length≤100):=by show _≤_; rw [HFL.out]; have:=HCN.out; omega
      have HTP:=Lib.hid (two_parts n hn)
      clear hgx hm HG hgr
      go_wp2_with (first | (go_at_call 201; refine HG2.out.mono ?_; rintro e w2 ⟨rfl,b2⟩; refine Hid.out ?_) | fail)
      refine Lib.hid ?_
      have HO5:=Lib.hid (HOW.out.on (b2.alloc b2.size (.cells #[.int .u8 ((n : Int) / 256),.int .u8 ((n : Int) % 256)] 5)))
      have HR5:=Lib.hid (reads_two w2 (UInt8.ofNat (n / 256)) (UInt8.ofNat (n % 256)) ((n : Int) / 256) ((n : Int) % 256) (by rw [← HTP.out.1]; push_cast; rfl) (by rw [← HTP.out.2]; push_cast; rfl))
      have HSZ5 : Hid (w1.heap.size≤(w2.alloc (.cells #[.int .u8 ((n : Int) / 256),.int .u8 ((n : Int) % 256)] 5)).heap.size):=by show _≤_; have h1:=HBW1.out.size; have h2:=b2.size; simp; omega
      have HLM : Hid ((ns.flatMap two).length + (two n).length≤200000000000000):=by show _≤_; have:=HCL.out; simp only [two,List.length_cons,List.length_nil]; omega
      have HB52:=Lib.hid (b2.alloc b2.size (.cells #[.int .u8 ((n : Int) / 256),.int .u8 ((n : Int) % 256)] 5))
      clear b2
      go_wp2_with (first | (refine wp_append_reads _ rfl _ _ rfl w1.heap.size _ _ (ns.flatMap two) (two n) rfl rfl HO5.out HR5.out HLM.out HSZ5.out ?_; intro v3 w3 ow3 b3; refine Hid.out ?_) | fail)
      refine Lib.hid ?_
      have HFIN : Hid (R v3 (.int .i64 ((ns.length : Int) + 1)) w3):=by
       show R _ _ _
       rw [HR.out]
       have hb5 : Below w1.heap.size w1 (w2.alloc (.cells #[.int .u8 ((n : Int) / 256),.int .u8 ((n : Int) % 256)] 5)):=HBW1.out.trans (HB52.out.mono HBW1.out.size)
       refine ⟨ns++[n],by simp; omega,by simp,by rw [List.flatMap_append]; simpa using ow3,((HBW.out.trans (HB52.out.mono HBW.out.size))).trans (b3.mono HB1.out.size),hb5.trans b3,HM2.out⟩
      clear ow3 b3
      go_wp2
      go_roundw
      case rel=>exact HFIN.out
      case measure=>simp [intOf]; omega
     ·have HNO : Hid (o=none):=by have:=HO.out; rw [mapO_none grpN (grpN_no (Or.inr (by omega))) (List.mem_of_getElem? HX.out)] at this; exact this
      have i4 : (4 : Int) < ((⟨x.toArray⟩ : ByteArray).size : Int):=by rw [HASZ.out]; omega
      clear hgx hm HG
      go_wp2_with (first | (go_at_call 201; refine HG2.out.mono ?_; rintro e w2 ⟨rfl,b2⟩; refine Hid.out ?_) | fail)
      refine Lib.hid ?_
      have HB2:=Lib.hid (HBW.out.trans (b2.mono HBW.out.size))
      clear b2
      go_wp2
      go_ret2
      exact ⟨HB2.out,Or.inl ⟨HNO.out,rfl⟩⟩
   ·have HYES : Hid (o=some ns):=by
     have h1:=hm.out
     rw [List.take_of_length_le (by omega)] at h1
     exact HO.out.trans h1
    have i1 : ¬ (ns.length : Int) < (ps.length : Int):=by omega
    clear hm hown hbw hbw1
    go_wp2
    go_ret2
    exact ⟨HBW.out,Or.inr ⟨ns,_,HYES.out,rfl,HOW.out.mono HB1.out.size⟩⟩
end Go.Proofs.YtghnopkgcgfcpaaGreatDoor.Cidr
namespace Go.Proofs.YtghnopkgcgfcpaaGreatDoor.Cidr
open Go.RowKit Base
theorem occ_cc (l : List UInt8) (j : Nat) (h : j + 1 < l.length) : Lib.occAt l [58,58] j=ccB l j:=by
 have e : l.drop j=l[j] :: l[j + 1] :: l.drop (j + 2):=by
  rw [List.getElem_cons_drop,List.getElem_cons_drop]
 unfold Lib.occAt ccB
 rw [e]
 simp only [List.isPrefixOf,Bool.and_true]
 rw [List.getD_eq_getElem?_getD,List.getD_eq_getElem?_getD,List.getElem?_eq_getElem (show j < l.length by omega),List.getElem?_eq_getElem h]
 simp only [Option.getD_some]
 clear e
 generalize l[j]=x
 generalize l[j + 1]=y
 rw [Bool.eq_iff_iff]
 rw [Bool.and_eq_true,Bool.and_eq_true,beq_iff_eq,beq_iff_eq,decide_eq_true_iff,decide_eq_true_iff]
 exact ⟨fun h=>⟨h.1.symm,h.2.symm⟩,fun h=>⟨h.1.symm,h.2.symm⟩⟩
theorem index_cc (l : List UInt8) : Lib.index l [58,58]=match firstCC l with | some a=>(a : Int) | none=>-1:=by
 unfold firstCC
 cases hf : (List.range (l.length - 1)).find? (ccB l) with
 | none =>
  rw [List.find?_eq_none] at hf
  by_cases h0 : l.length=0
  ·rw [List.eq_nil_of_length_eq_zero h0]; rfl
  ·refine Lib.index_past (i:=l.length - 1) (by simp) (fun j hj=>?_) (by simp; omega)
   rw [occ_cc l j (by omega)]
   simpa using hf j (List.mem_range.2 hj)
 | some a =>
  obtain ⟨h1,i,hi,h2,h3⟩:=List.find?_eq_some_iff_getElem.1 hf
  rw [List.length_range] at hi
  simp only [List.getElem_range] at h2
  subst h2
  refine Lib.index_hit (fun j hj=>?_) (by omega) ?_
  ·rw [occ_cc l j (by omega)]
   simpa using h3 j hj
  ·rw [occ_cc l i (by omega)]; exact h1
theorem pCC (s : ByteArray) (w : World) (hs : s.size≤100) (he : Env w) : Calls Tryz.prog 176 #[.string s,.string ⟨#[58,58]⟩] w fun e w'=>e=.returned (.tuple #[.string (headS s (firstCC s.data.toList)),.string (tailS s (firstCC s.data.toList)),.bool (firstCC s.data.toList).isSome])∧Below w.heap.size w w':=by
 obtain ⟨m,hm⟩:=he.maxCell
 refine (Tryz.strings_Cut s ⟨#[58,58]⟩ m w (by omega) hm).mono ?_
 rintro e w' ⟨rfl,n,rfl⟩
 refine ⟨?_,bel_drew _ _⟩
 have hi:=index_cc s.data.toList
 have hlt:=fun a=>@firstCC_lt s a
 generalize firstCC s.data.toList=cc at *
 have e2 : (⟨#[58,58]⟩ : ByteArray).data.toList=[58,58]:=rfl
 rw [e2]
 unfold Lib.cut
 cases cc with
 | none =>
  simp only at hi
  rw [hi,if_neg (by omega)]
  rfl
 | some a =>
  simp only at hi
  have:=hlt a rfl
  rw [hi,if_pos (by omega),Int.toNat_natCast]
  simp only [headS,tailS,extract_bytes]
  have ht : List.take s.size s.data.toList=s.data.toList:=List.take_of_length_le (by rw [str_len]; omega)
  rw [ht]
  simp
theorem flat_zero : ∀ (k : Nat),(List.replicate k 0).flatMap two=List.replicate (2 * k) 0
 | 0=>rfl
 | k + 1=>by
  rw [List.replicate_succ,List.flatMap_cons,flat_zero k,show 2 * (k + 1)=2 * k + 1 + 1 by omega,List.replicate_succ,List.replicate_succ]
  rfl
theorem splice_16 {X Y : List Value} (z : Value) (h : X.length + Y.length≤16) : splice (splice (List.replicate 16 z) 0 X) (16 - Y.length) Y=X++(List.replicate (16 - X.length - Y.length) z++Y):=by
 unfold splice
 simp only [List.take_zero,List.nil_append,Nat.zero_add,List.drop_replicate]
 rw [List.take_append,List.drop_append,List.take_of_length_le (by omega),List.drop_eq_nil_of_le (by omega)]
 simp
 rw [show min (16 - Y.length - X.length) (16 - X.length)=16 - X.length - Y.length by omega,show 16 - X.length - (16 - Y.length + Y.length - X.length)=0 by omega]
 simp
theorem splice_all {A B : List Nat} (h : A.length + B.length≤8) : splice (splice (zA.map B8) 0 ((A.flatMap two).map B8)) (16 - ((B.flatMap two).map B8).length) ((B.flatMap two).map B8)=((allG A B).flatMap two).map B8:=by
 have e : zA.map B8=List.replicate 16 (B8 0):=by simp [zA]
 rw [e,splice_16 (B8 0) (by rw [List.length_map,List.length_map,flat_two_len,flat_two_len]; omega)]
 unfold allG
 rw [List.flatMap_append,List.flatMap_append,flat_zero,List.map_append,List.map_append,List.map_replicate,List.length_map,List.length_map,flat_two_len,flat_two_len]
 rw [show 16 - 2 * A.length - 2 * B.length=2 * (8 - A.length - B.length) by omega]
theorem bytes_one (l : List UInt8) : ∀ v ∈ l.map B8,v.oneCell'=true:=fun v hv=>by
 obtain ⟨x,_,rfl⟩:=List.mem_map.1 hv; rfl
theorem copy_src8 {w : World} {B : Nat} {a : Option Addr} {n c : Nat} {l : List UInt8} (h : Owns w B (.slice a n c) l) : 0 < (l.map B8).length→∃ ad,a=some ad∧∀ j v,(l.map B8)[j]?=some v→w.cell? (ad.add j)=some v:=fun h0=>by
 rw [List.length_map] at h0
 obtain ⟨g,c',he,_⟩:=h.form h0
 cases he
 refine ⟨⟨g,0,none⟩,rfl,fun j v hv=>?_⟩
 rw [List.getElem?_map] at hv
 cases hj : l[j]? with
 | none=>rw [hj] at hv; cases hv
 | some x =>
  rw [hj] at hv
  cases hv
  have hjl:=(List.getElem?_eq_some_iff.1 hj).1
  have:=h.cell j hjl
  rw [Addr.add_lit,Nat.zero_add,this,List.getD_eq_getElem?_getD,hj]
  rfl
theorem grps_len {l : List UInt8} {A : List Nat} (h : grpsN l=some A) : l.length≤5 * A.length∧(l ≠ []→l.length + 1≤5 * A.length):=by
 unfold grpsN at h
 by_cases h0 : l=[]
 ·rw [if_pos h0] at h; cases h; subst h0; simp
 ·rw [if_neg h0] at h
  obtain ⟨h1,h2⟩:=mapO_all h
  have h3:=pieces_len 58 l
  have h5:=sum_le (fun p : List UInt8=>p.length + 1) 5 (splitB 58 l) fun p hp=>by
   obtain ⟨y,hy⟩:=h2 p hp
   unfold grpN at hy
   split at hy
   ·rename_i hh; show p.length + 1≤5; omega
   ·cases hy
  rw [← h1] at h5
  exact ⟨by omega,fun _=>by omega⟩
theorem sixS_big {s : ByteArray} (h : 39 < s.size) : sixS s=none:=by
 unfold sixS
 have hlt:=fun a=>@firstCC_lt s a
 generalize firstCC s.data.toList=cc at *
 cases hA : grpsN (headS s cc).data.toList with
 | none=>rfl
 | some A =>
  cases hB : grpsN (tailS s cc).data.toList with
  | none=>rfl
  | some B =>
   obtain ⟨a1,a2⟩:=grps_len hA
   obtain ⟨b1,b2⟩:=grps_len hB
   rw [str_len] at a1 a2 b1 b2
   simp only
   rw [if_neg]
   intro hok
   unfold okG at hok
   cases cc with
   | none =>
    have h8:=of_decide_eq_true hok
    have hh : (headS s none).size=s.size:=rfl
    rw [hh] at a1 a2
    have hne : (headS s none).data.toList ≠ []:=fun e=>by have:=str_len (headS s none); rw [e,hh] at this; simp at this; omega
    have:=a2 hne
    omega
   | some a =>
    have h7:=of_decide_eq_true hok
    have hl:=hlt a rfl
    have hh : (headS s (some a)).size=a:=by unfold headS; rw [ByteArray.size_extract]; omega
    have ht : (tailS s (some a)).size=s.size - (a + 2):=by unfold tailS; rw [ByteArray.size_extract]; omega
    rw [hh] at a1; rw [ht] at b1
    omega
end Go.Proofs.YtghnopkgcgfcpaaGreatDoor.Cidr
