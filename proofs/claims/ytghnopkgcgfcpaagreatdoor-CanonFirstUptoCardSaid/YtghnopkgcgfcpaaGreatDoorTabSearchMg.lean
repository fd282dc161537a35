/-
  MERGED by mergefill.py: TabSearch, TabExact, TabAsk, TabLnS, TabLnM.
-/
import Derived.Test.YtghnopkgcgfcpaaGreatDoorTabWordsMg
import Derived.Test.YtghnopkgcgfcpaaGreatDoorShelfMg
import Derived.Deep.RegionHeld3
set_option maxHeartbeats 16000000
set_option maxRecDepth 100000
namespace Go.Proofs.YtghnopkgcgfcpaaGreatDoor.Table
open Go.RowKit Base
theorem cmp_less : ∀ (a b : List UInt8),(Lib.compareBytes a b < 0)=(a < b)
 | [],[]=>by simp [Lib.compareBytes]
 | [],_ :: _=>by simp [Lib.compareBytes]
 | _ :: _,[]=>by simp [Lib.compareBytes]
 | x :: a,y :: b=>by
  have ih:=cmp_less a b
  unfold Lib.compareBytes
  rw [eq_iff_iff,List.cons_lt_cons_iff]
  by_cases h1 : x < y
  ·simp [h1]
  ·by_cases h2 : y < x
   ·have : x ≠ y:=fun e=>by subst e; exact absurd h2 (by simp)
    simp [h1,h2,this]
   ·have : x=y:=UInt8.le_antisymm (UInt8.not_lt.1 h2) (UInt8.not_lt.1 h1)
    simp [this,ih]
theorem cmp_same : ∀ (a b : List UInt8),(Lib.compareBytes a b=0)=(a=b)
 | [],[]=>by simp [Lib.compareBytes]
 | [],_ :: _=>by simp [Lib.compareBytes]
 | _ :: _,[]=>by simp [Lib.compareBytes]
 | x :: a,y :: b=>by
  have ih:=cmp_same a b
  unfold Lib.compareBytes
  by_cases h1 : x < y
  ·have : x ≠ y:=fun e=>by subst e; exact absurd h1 (by simp)
   simp [h1,this]
  ·by_cases h2 : y < x
   ·have : x ≠ y:=fun e=>by subst e; exact absurd h2 (by simp)
    simp [h1,h2,this]
   ·have : x=y:=UInt8.le_antisymm (UInt8.not_lt.1 h2) (UInt8.not_lt.1 h1)
    simp [this,ih]
def CmpEnd (a b : List UInt8) (w : World) (e : Ending) (w' : World) : Prop:=e=.returned (.int .i64 (Lib.compareBytes a b))∧Below w.heap.size w w'
theorem cmp_any {f : FuncId} {args : Array Value} {a b : List UInt8} (h : ∀ w,Calls Tryz.prog f args w (CmpEnd a b w)) : ∃ r : Int,(r < 0 ↔ a < b)∧(r=0 ↔ a=b)∧∀ w,Calls Tryz.prog f args w fun e w'=>e=.returned (.int .i64 r)∧Below w.heap.size w w' :=
 ⟨Lib.compareBytes a b,by rw [cmp_less],by rw [cmp_same],h⟩
theorem pCmp (k v : List UInt8) (key : ByteArray) (w : World) : Calls Tryz.prog 171 #[.agg #[S k,S v],.string key] w (CmpEnd k key.data.toList w):=by
 have HC:=Lib.hid (fun w=>Tryz.strings_Compare ⟨k.toArray⟩ key w)
 go_enter Tryz.func171,Tryz.ntmps171
 go_wp2_with (first | (go_at_call 74; refine (HC.out _).mono ?_; rintro e w' ⟨rfl,rfl⟩; refine Hid.out ?_) | fail)
 refine Lib.hid ?_
 go_wp2
 go_ret
 exact ⟨rfl,Below.alloc1 _ _⟩
def SearchEnd (T : List KV) (key : List UInt8) (w : World) (e : Ending) (w' : World) : Prop:=e=.returned (.tuple #[.int .i64 (posOf T key : Int),.bool (hasOf T key)])∧Below w.heap.size w w'
theorem pSearch (v : Value) (T : List KV) (key : ByteArray) (w : World) (h : Rows2 w v T) (hr : Rising T) (hn : T.length≤1000000) : Calls Tryz.prog 170 #[v,.string key,.func (.func 171) #[] #[]] w (SearchEnd T key.data.toList w):=by
 obtain ⟨a,c,rfl,hlc⟩:=h.form
 have HROW:=Lib.hid h
 have HR:=Lib.hid hr
 have HC:=Lib.hid (fun k v w=>pCmp k v key w)
 clear h hr
 go_enter Tryz.func170,Tryz.ntmps170
 go_wp2
 go_loopw [9,10] (fun x y wr=>∃ lo hi : Nat,x=.int .i64 lo∧y=.int .i64 hi∧Sought T key.data.toList lo hi∧Below w.heap.size w wr) (fun x y _=>(intOf y).toNat - (intOf x).toNat)
 case atStart=>exact ⟨0,T.length,rfl,rfl,Sought.start _ _,Below.refl _ _⟩
 case round =>
  obtain ⟨lo,hi,rfl,rfl,hs,hbw⟩:=hrel
  have hle:=hs.le
  have htop:=hs.top
  have HS:=Lib.hid hs
  have HBW:=Lib.hid hbw
  have HROW2:=Lib.hid (HROW.out.on hbw)
  clear hs hbw
  by_cases hlt : lo < hi
  ·have i1 : (lo : Int) < (hi : Int):=by omega
   obtain ⟨m,hm⟩ : ∃ m : Nat,((lo : Int) + (hi : Int)) / 2=(m : Int):=⟨(lo + hi) / 2,by omega⟩
   have hm1 : lo≤m:=by omega
   have hm2 : m < hi:=by omega
   have j0 : (0 : Int)≤(m : Int):=by omega
   have j1 : (m : Int) < (T.length : Int):=by omega
   obtain ⟨p,hp⟩ : ∃ p,T[m]?=some p:=⟨T[m],List.getElem?_eq_getElem (by omega)⟩
   obtain ⟨gb,go_,rfl,c1,c2⟩:=HROW2.out.cell hp
   obtain ⟨r,r1,_,r3⟩:=cmp_any (fun w=>HC.out p.1 p.2 w)
   have HC2:=Lib.hid r3
   clear r3
   by_cases hk : p.1 < key.data.toList
   ·have HS2:=Lib.hid (HS.out.up HR.out hm2 hp hk)
    have e1 : r < 0:=r1.2 hk
    clear hk hp r1
    go_wp2_with fail
    refine (HC2.out _).mono ?_
    rintro e w1 ⟨rfl,hb1⟩
    have HB1:=Lib.hid (HBW.out.trans (hb1.mono HBW.out.size))
    clear hb1
    go_wp2_with fail
    go_roundw
    case rel=>exact ⟨m + 1,hi,by go_num,rfl,HS2.out,HB1.out⟩
    case measure=>simp [intOf]; omega
   ·have HS2:=Lib.hid (HS.out.down HR.out hm1 hm2 hp hk)
    have e1 : ¬ r < 0:=fun h=>hk (r1.1 h)
    clear hk hp r1
    go_wp2_with fail
    refine (HC2.out _).mono ?_
    rintro e w1 ⟨rfl,hb1⟩
    have HB1:=Lib.hid (HBW.out.trans (hb1.mono HBW.out.size))
    clear hb1
    go_wp2_with fail
    go_roundw
    case rel=>exact ⟨lo,m,rfl,by first | rfl | rw [hm],HS2.out,HB1.out⟩
    case measure=>simp [intOf]; omega
  ·obtain rfl : lo=hi:=by omega
   have HP:=Lib.hid HS.out.fin
   have j0 : (0 : Int)≤(lo : Int):=by omega
   have i1 : ¬ (lo : Int) < (lo : Int):=by omega
   by_cases hl : lo < T.length
   ·have j1 : (lo : Int) < (T.length : Int):=by omega
    obtain ⟨p,hp⟩ : ∃ p,T[lo]?=some p:=⟨T[lo],List.getElem?_eq_getElem hl⟩
    obtain ⟨gb,go_,rfl,c1,c2⟩:=HROW2.out.cell hp
    have HH : Hid (hasOf T key.data.toList=(p.1 == key.data.toList)):=by show _=_; unfold hasOf; rw [HP.out,hp]
    obtain ⟨r,_,r2,r3⟩:=cmp_any (fun w=>HC.out p.1 p.2 w)
    have HC2:=Lib.hid r3
    clear hp r3
    cases hk : p.1 == key.data.toList
    ·have e2 : (r == 0)=false:=by rw [beq_eq_false_iff_ne]; intro h; rw [r2.1 h] at hk; simp at hk
     rw [hk] at HH
     clear hk r2
     go_wp2_with fail
     refine (HC2.out _).mono ?_
     rintro e w1 ⟨rfl,hb1⟩
     have HB1:=Lib.hid (HBW.out.trans (hb1.mono HBW.out.size))
     clear hb1
     go_wp2_with fail
     go_ret2
     exact ⟨by rw [HP.out,HH.out]; rfl,HB1.out⟩
    ·have e2 : (r == 0)=true:=by rw [beq_iff_eq]; exact r2.2 (by simpa using hk)
     rw [hk] at HH
     clear hk r2
     go_wp2_with fail
     refine (HC2.out _).mono ?_
     rintro e w1 ⟨rfl,hb1⟩
     have HB1:=Lib.hid (HBW.out.trans (hb1.mono HBW.out.size))
     clear hb1
     go_wp2_with fail
     go_ret2
     exact ⟨by rw [HP.out,HH.out]; rfl,HB1.out⟩
   ·have j1 : ¬ (lo : Int) < (T.length : Int):=by omega
    have HH : Hid (hasOf T key.data.toList=false):=by show _=_; unfold hasOf; rw [HP.out,List.getElem?_eq_none (by omega)]
    go_wp2_with fail
    go_ret2
    exact ⟨by rw [HP.out,HH.out]; rfl,HBW.out⟩
end Go.Proofs.YtghnopkgcgfcpaaGreatDoor.Table
set_option maxHeartbeats 16000000
set_option maxRecDepth 100000
namespace Go.Proofs.YtghnopkgcgfcpaaGreatDoor.Table
open Go.RowKit Base
def ExactEnd (T : List KV) (key : List UInt8) (w : World) (e : Ending) (w' : World) : Prop:=e=.returned (.tuple #[S (valOf T key),.bool (hasOf T key)])∧Below w.heap.size w w'
theorem has_cases (T : List KV) (key : List UInt8) : (hasOf T key=false∧valOf T key=[])∨∃ p,T[posOf T key]?=some p∧posOf T key < T.length∧hasOf T key=true∧valOf T key=p.2:=by
 cases hh : hasOf T key
 ·refine Or.inl ⟨rfl,?_⟩
  unfold valOf; rw [hh]; rfl
 ·refine Or.inr ?_
  have h2:=hh
  unfold hasOf at h2
  cases hp : T[posOf T key]? with
  | none=>rw [hp] at h2; cases h2
  | some p =>
   refine ⟨p,rfl,(List.getElem?_eq_some_iff.1 hp).1,rfl,?_⟩
   unfold valOf
   rw [hh,if_pos rfl,List.getD_eq_getElem?_getD,hp]; rfl
theorem place_no {T : List KV} {key : List UInt8} {w : World} {f : FuncId} {args : Array Value} (h : Calls Tryz.prog f args w (SearchEnd T key w)) (hh : hasOf T key=false) :
  Calls Tryz.prog f args w fun e w'=>∃ x : Int,e=.returned (.tuple #[.int .i64 x,.bool false])∧Below w.heap.size w w' :=
 h.mono fun e w' ⟨h1,h2⟩=>⟨posOf T key,by rw [h1,hh],h2⟩
theorem place_yes {T : List KV} {key : List UInt8} {w : World} {f : FuncId} {args : Array Value} {m : Nat} (h : Calls Tryz.prog f args w (SearchEnd T key w)) (hh : hasOf T key=true) (hm : posOf T key=m) :
  Calls Tryz.prog f args w fun e w'=>e=.returned (.tuple #[.int .i64 (m : Int),.bool true])∧Below w.heap.size w w' :=
 h.mono fun e w' ⟨h1,h2⟩=>⟨by rw [h1,hh,hm],h2⟩
theorem place_below {T : List KV} {key : List UInt8} {w : World} {f : FuncId} {args : Array Value} (h : Calls Tryz.prog f args w (PlaceEnd T key w)) : Calls Tryz.prog f args w (SearchEnd T key w) :=
 h.mono fun e w' ⟨h1,n,h2⟩=>⟨h1,by rw [h2]; exact bel_drewN n w (Nat.le_refl _)⟩
theorem rExact (b : Nat) (T : List KV) (key : ByteArray) (w : World) (h : TabAt 62 w b T) (hr : Rising T) (hn : T.length≤1000000) (hs : key.size≤9223372036854775807) : Calls Tryz.prog 29 #[.pointer (some ⟨b,0,none⟩),.string key] w (ExactEnd T (lower key.data.toList) w):=by
 have HL:=Lib.hid (rLower key w hs)
 have HT:=Lib.hid h
 obtain ⟨lk,hlk⟩ : ∃ lk,lk=lower key.data.toList:=⟨_,rfl⟩
 unfold LowEnd at HL
 rw [← hlk] at HL ⊢
 have HP : ∀ w1,Below w.heap.size w w1→Calls Tryz.prog 48 #[.pointer (some ⟨b,0,none⟩),S lk] w1 (SearchEnd T lk w1):=fun w1 hb=>place_below (rPlace b T ⟨lk.toArray⟩ w1 (HT.out.on hb) hr hn)
 clear h hr hlk
 rcases has_cases T lk with ⟨h1,h2⟩ | ⟨p,hp,hm,h1,h2⟩
 ·have HP2:=Lib.hid (fun w1 hb=>place_no (HP w1 hb) h1)
  have HE : Hid (∀ w',Below w.heap.size w w'→ExactEnd T lk w (.returned (.tuple #[.string ⟨#[]⟩,.bool false])) w'):=fun w' hb=>⟨by rw [h1,h2],hb⟩
  clear HP h1 h2
  go_enter Tryz.func29,Tryz.ntmps29
  go_wp2_with (first | (go_at_call 23; refine HL.out.mono ?_; rintro e w1 ⟨rfl,hb1⟩; refine Hid.out ?_) | fail)
  refine Lib.hid ?_
  have HB1:=Lib.hid hb1
  clear hb1
  go_wp2_with (first | (go_at_call 48; refine (HP2.out _ HB1.out).mono ?_; rintro e w2 ⟨x,rfl,hb2⟩; refine Hid.out ?_) | fail)
  refine Lib.hid ?_
  have HB2:=Lib.hid (HB1.out.trans (hb2.mono HB1.out.size))
  clear hb2
  go_wp2
  go_ret2
  exact HE.out _ HB2.out
 ·obtain ⟨m,hm2⟩ : ∃ m,posOf T lk=m:=⟨_,rfl⟩
  have HP2:=Lib.hid (fun w1 hb=>place_yes (HP w1 hb) h1 hm2)
  have HE : Hid (∀ w',Below w.heap.size w w'→ExactEnd T lk w (.returned (.tuple #[S p.2,.bool true])) w'):=fun w' hb=>⟨by rw [h1,h2],hb⟩
  rw [hm2] at hp hm
  have HX : Hid (∀ w',Below w.heap.size w w'→∃ gb o c,w'.cell? ⟨b,0,none⟩=some (.slice (some ⟨gb,o,none⟩) T.length c)∧T.length≤c∧w'.cell? ⟨gb,o + m * 2 + 1,none⟩=some (S p.2)):=fun w' hb=>by
   obtain ⟨a,c,c1,c2,c3⟩:=(HT.out.on hb).cell
   obtain ⟨gb,o,rfl,_,c4⟩:=c3.cell hp
   exact ⟨gb,o,c,c1,c2,c4⟩
  have j0 : (0 : Int)≤(m : Int):=by omega
  have j1 : (m : Int) < (T.length : Int):=by omega
  clear HP h1 h2 hp hm2
  go_enter Tryz.func29,Tryz.ntmps29
  go_wp2_with (first | (go_at_call 23; refine HL.out.mono ?_; rintro e w1 ⟨rfl,hb1⟩; refine Hid.out ?_) | fail)
  refine Lib.hid ?_
  have HB1:=Lib.hid hb1
  clear hb1
  go_wp2_with (first | (go_at_call 48; refine (HP2.out _ HB1.out).mono ?_; rintro e w2 ⟨rfl,hb2⟩; refine Hid.out ?_) | fail)
  refine Lib.hid ?_
  have HB2:=Lib.hid (HB1.out.trans (hb2.mono HB1.out.size))
  obtain ⟨gb,o,c,d1,d2,d3⟩:=HX.out _ HB2.out
  clear hb2
  go_wp2
  go_ret2
  exact HE.out _ HB2.out
def Short (T : List KV) : Prop:=∀ p ∈ T,p.1.length≤320
theorem long_no {T : List KV} {key : List UInt8} (h : Short T) (hl : 320 < key.length) : hasOf T key=false∧valOf T key=[]:=by
 have : hasOf T key=false:=by
  cases hh : hasOf T key
  ·rfl
  ·unfold hasOf at hh
   cases hp : T[posOf T key]? with
   | none=>rw [hp] at hh; cases hh
   | some p =>
    rw [hp] at hh
    have h1:=h p (List.mem_of_getElem? hp)
    have h2 : p.1=key:=by simpa using hh
    rw [h2] at h1; omega
 exact ⟨this,by unfold valOf; rw [this]; rfl⟩
end Go.Proofs.YtghnopkgcgfcpaaGreatDoor.Table
set_option maxHeartbeats 16000000
set_option maxRecDepth 100000
namespace Go.Proofs.YtghnopkgcgfcpaaGreatDoor.Table
open Go.RowKit Base
abbrev Ans:=List UInt8 × Bool
def AnsEnd (a : Ans) (w : World) (e : Ending) (w' : World) : Prop:=e=.returned (.tuple #[S a.1,.bool a.2])∧Below w.heap.size w w'
def exactA (T : List KV) (key : List UInt8) : Ans:=(valOf T (lower key),hasOf T (lower key))
def addrA (T : List KV) (l d : List UInt8) : Ans:=if (exactA T (l++64 :: d)).2=true then exactA T (l++64 :: d) else exactA T (64 :: d)
def Asks (f : FuncId) (b : Nat) (T : List KV) (w : World) : Prop:=∀ (w1 : World) (key : ByteArray),Below w.heap.size w w1→key.size≤9223372036854775807→Calls Tryz.prog f #[.pointer (some ⟨b,0,none⟩),.string key] w1 (AnsEnd (exactA T key.data.toList) w1)
theorem rAsks {b : Nat} {T : List KV} {w : World} (h : TabAt 62 w b T) (hr : Rising T) (hn : T.length≤1000000) : Asks 29 b T w:=fun w1 key hb hs=>rExact b T key w1 (h.on hb) hr hn hs
theorem ans_form {f : FuncId} {args : Array Value} {a : Ans} {w : World} {B : Bool} (h : Calls Tryz.prog f args w (AnsEnd a w)) (hB : a.2=B) : Calls Tryz.prog f args w fun e w'=>e=.returned (.tuple #[S a.1,.bool B])∧Below w.heap.size w w':=by
 subst hB; exact h
theorem app_key (l d : ByteArray) : (l++⟨#[64]⟩++d).data.toList=l.data.toList++64 :: d.data.toList:=by simp
theorem app_key1 (d : ByteArray) : ((⟨#[64]⟩ : ByteArray)++d).data.toList=64 :: d.data.toList:=by simp
theorem app_size (l d : ByteArray) : (l++(⟨#[64]⟩ : ByteArray)++d).size=l.size + 1 + d.size:=by simp; rfl
theorem app_size1 (d : ByteArray) : ((⟨#[64]⟩ : ByteArray)++d).size=1 + d.size:=by simp; rfl
theorem rAddress (b : Nat) (T : List KV) (l d : ByteArray) (w : World) (h : Asks 29 b T w) (hl : l.size≤140737488355328) (hd : d.size≤140737488355328) : Calls Tryz.prog 30 #[.pointer (some ⟨b,0,none⟩),.string l,.string d] w (AnsEnd (addrA T l.data.toList d.data.toList) w):=by
 have H1:=h w (l++⟨#[64]⟩++d) (Below.refl _ _) (by rw [app_size]; omega)
 have H2 : ∀ w1,Below w.heap.size w w1→Calls Tryz.prog 29 #[.pointer (some ⟨b,0,none⟩),.string (⟨#[64]⟩++d)] w1 (AnsEnd (exactA T (64 :: d.data.toList)) w1):=fun w1 hb=>by
  have:=h w1 (⟨#[64]⟩++d) hb (by rw [app_size1]; omega)
  rwa [app_key1] at this
 rw [app_key] at H1
 have HE : Hid (addrA T l.data.toList d.data.toList=if (exactA T (l.data.toList++64 :: d.data.toList)).2=true then exactA T (l.data.toList++64 :: d.data.toList) else exactA T (64 :: d.data.toList)):=rfl
 generalize exactA T (l.data.toList++64 :: d.data.toList)=a1 at H1 HE
 generalize exactA T (64 :: d.data.toList)=a2 at H2 HE
 have HL:=Lib.hid hl
 have HD:=Lib.hid hd
 clear h
 cases hB : a1.2
 ·have HC1:=Lib.hid (ans_form H1 hB)
  have HC2:=Lib.hid H2
  rw [hB] at HE
  clear H1 H2 hB
  go_enter Tryz.func30,Tryz.ntmps30
  go_wp2_with (first | (go_at_call 29; refine HC1.out.mono ?_; rintro e w1 ⟨rfl,hb1⟩; refine Hid.out ?_) | fail)
  refine Lib.hid ?_
  have HB1:=Lib.hid hb1
  clear hb1
  go_wp2_with (first | (go_at_call 29; refine (HC2.out _ HB1.out).mono ?_; rintro e w2 ⟨rfl,hb2⟩; refine Hid.out ?_) | fail)
  refine Lib.hid ?_
  have HB2:=Lib.hid (HB1.out.trans (hb2.mono HB1.out.size))
  clear hb2
  go_wp2
  go_ret2
  exact ⟨by rw [HE.out]; rfl,HB2.out⟩
 ·have HC1:=Lib.hid (ans_form H1 hB)
  have HE2 : Hid (addrA T l.data.toList d.data.toList=a1):=by show _=_; rw [HE.out,if_pos hB]
  have HB:=Lib.hid hB
  clear H1 H2 hB HE
  go_enter Tryz.func30,Tryz.ntmps30
  go_wp2_with (first | (go_at_call 29; refine HC1.out.mono ?_; rintro e w1 ⟨rfl,hb1⟩; refine Hid.out ?_) | fail)
  refine Lib.hid ?_
  have HB1:=Lib.hid hb1
  clear hb1
  go_wp2
  go_ret2
  exact ⟨by rw [HE2.out,HB.out]; rfl,HB1.out⟩
theorem pLen (b : Nat) (T : List KV) (w : World) (h : TabAt 105 w b T) : Calls Tryz.prog 42 #[.pointer (some ⟨b,0,none⟩)] w fun e w'=>e=.returned (.int .i64 (T.length : Int))∧w=w':=by
 obtain ⟨a,c,c1,c2,c3⟩:=h.cell
 clear h c3
 go_enter Tryz.func42,Tryz.ntmps42
 go_wp2
 go_ret
 exact ⟨rfl,rfl⟩
theorem pAt (b : Nat) (T : List KV) (k : Nat) (p : KV) (w : World) (h : TabAt 105 w b T) (hp : T[k]?=some p) (_hn : T.length≤1000000) : Calls Tryz.prog 43 #[.pointer (some ⟨b,0,none⟩),.int .i64 (k : Int)] w fun e w'=>e=.returned (.tuple #[S p.1,S p.2,.bool true])∧Below w.heap.size w w':=by
 obtain ⟨a,c,c1,c2,c3⟩:=h.cell
 obtain ⟨gb,o,rfl,c4,c5⟩:=c3.cell hp
 have hk:=(List.getElem?_eq_some_iff.1 hp).1
 have i0 : (0 : Int)≤(k : Int):=by omega
 have i1 : (k : Int) < (T.length : Int):=by omega
 have i2 : ¬ (k : Int) < 0:=by omega
 clear h c3 hp
 go_enter Tryz.func43,Tryz.ntmps43
 go_wp2
 go_quiet (fail)
 go_wp2
 go_ret3
 exact ⟨rfl,bel_drewN _ _ (Nat.le_refl _)⟩
end Go.Proofs.YtghnopkgcgfcpaaGreatDoor.Table
namespace Go.Proofs.YtghnopkgcgfcpaaGreatDoor.Table
open Go.RowKit Base
inductive Tg where
 | no | out | bad | ln (i : Nat)
def encI (n : Nat) : Value:=.int .i64 (n : Int)
def cells3 (e : Ent × Value) : List Value:=[.int .i64 (e.1.pos : Int),S e.1.text,e.2]
structure LnAt (own : Nat→Tg) (w : World) (B i : Nat) (e : Ent × Value) : Prop where
 row : w.ownsRow B 9 1 e.2 e.1.more.length (e.1.more.map S)
 mine : ∀ b,e.2.ownBlock=some b→own b=.ln i
structure LSt (own : Nat→Tg) (w0 w : World) (ov bv : Value) (es : List (Ent × Value)) (bad : List Nat) : Prop where
 below : Below w0.heap.size w0 w
 orow : w.ownsRow w0.heap.size 111 3 ov es.length (es.flatMap cells3)
 oown : ∀ b,ov.ownBlock=some b→own b=.out
 brow : w.ownsRow w0.heap.size 3 1 bv bad.length (bad.map encI)
 bown : ∀ b,bv.ownBlock=some b→own b=.bad
 lines : ∀ i e,es[i]?=some e→LnAt own w w0.heap.size i e
 fresh : ∀ b,w.heap.size≤b→own b=.no
noncomputable def ownNew (own : Nat→Tg) (v : Value) (t : Tg) : Nat→Tg:=fun b=>@ite _ (v.ownBlock=some b∧own b=.no) (Classical.propDecidable _) t (own b)
theorem row_kept {w w' : World} {B : Nat} {e : TypeId} {s : Nat} {v : Value} {n : Nat} {xs : List Value} (h : w.ownsRow B e s v n xs) (hk : ∀ b,v.ownBlock=some b→w'.heap[b]?=w.heap[b]?) : w'.ownsRow B e s v n xs:=by
 refine ⟨h.1,?_⟩
 rcases h.2 with hn | ⟨g,cap,cur,rfl,h1,h2,h3⟩
 ·exact Or.inl hn
 ·exact Or.inr ⟨g,cap,cur,rfl,h1,by rw [hk g rfl]; exact h2,h3⟩
section
variable {own : Nat→Tg} {w0 w w' : World} {ov bv : Value} {es : List (Ent × Value)} {bad : List Nat}
theorem own_keep {v : Value} {t : Tg} {b : Nat} (h : own b ≠ .no) : ownNew own v t b=own b:=by unfold ownNew; rw [if_neg (fun x=>h x.2)]
theorem own_lt (hf : ∀ b,w.heap.size≤b→own b=.no) {b : Nat} (h : own b ≠ .no) : b < w.heap.size:=by
 rcases Nat.lt_or_ge b w.heap.size with h' | h'
 ·exact h'
 ·exact absurd (hf b h') h
structure Stepped (own : Nat→Tg) (w : World) (t : Tg) (own' : Nat→Tg) (w' : World) (v' : Value) : Prop where
 tags : ∀ b,own b ≠ .no→own' b=own b
 block : ∀ b,own b ≠ .no→own b ≠ t→w'.heap[b]?=w.heap[b]?
 mine : ∀ b,v'.ownBlock=some b→own' b=t
 fresh : ∀ b,w'.heap.size≤b→own' b=.no
theorem stepped {t : Tg} {v v' : Value} {B : Nat} {e : TypeId} {s n : Nat} {xs : List Value} (hf : ∀ b,w.heap.size≤b→own b=.no) (hv : ∀ b,v.ownBlock=some b→own b=t) (hg : w.grownBy w' v.ownBlock)
  (ha : v'.ownBlock=v.ownBlock∨v'.ownBlock=some w.heap.size) (hr : w'.ownsRow B e s v' n xs) : Stepped own w t (ownNew own v' t) w' v':=by
 obtain ⟨_,_,_,hs,hbk⟩:=hg
 refine ⟨fun b hb=>own_keep hb,fun b hb ht=>?_,fun b hb=>?_,fun b hb=>?_⟩
 ·exact hbk b (own_lt hf hb) (fun e=>ht (hv b e.symm))
 ·unfold ownNew
  by_cases h0 : own b=.no
  ·rw [if_pos ⟨hb,h0⟩]
  ·rw [if_neg (fun x=>h0 x.2)]
   rcases ha with ha | ha
   ·exact hv b (by rw [← ha]; exact hb)
   ·rw [ha] at hb; cases hb; exact absurd (hf _ (Nat.le_refl _)) h0
 ·unfold ownNew
  rw [if_neg,hf b (Nat.le_trans hs hb)]
  rintro ⟨h1,_⟩
  have:=(World.ownsRow.lt hr b h1).2
  omega
theorem LnAt.kept {own' : Nat→Tg} {B i : Nat} {e : Ent × Value} (h : LnAt own w B i e) (hk : ∀ b,own b=.ln i→own' b=.ln i∧w'.heap[b]?=w.heap[b]?) : LnAt own' w' B i e :=
 ⟨row_kept h.row fun b hb=>(hk b (h.mine b hb)).2,fun b hb=>(hk b (h.mine b hb)).1⟩
theorem LSt.on (h : LSt own w0 w ov bv es bad) (hb : Below w.heap.size w w') : LSt own w0 w' ov bv es bad :=
  ⟨h.below.trans (hb.mono h.below.size),row_kept h.orow fun b hb2=>hb.block b (own_lt h.fresh (by rw [h.oown b hb2]; exact fun e=>by cases e)),h.oown,
   row_kept h.brow fun b hb2=>hb.block b (own_lt h.fresh (by rw [h.bown b hb2]; exact fun e=>by cases e)),h.bown,
   fun i e he=>(h.lines i e he).kept fun b hb2=>⟨hb2,hb.block b (own_lt h.fresh (by rw [hb2]; exact fun e=>by cases e))⟩,fun b hb2=>h.fresh b (Nat.le_trans hb.size hb2)⟩
theorem flat3 : ∀ (T : List (Ent × Value)) (i k : Nat) (p : Ent × Value),T[i]?=some p→k < 3→(T.flatMap cells3)[i * 3 + k]?=(cells3 p)[k]?
 | [],i,k,p,h,_=>by simp at h
 | x :: r,0,k,p,h,hk=>by
  simp at h; subst h
  rw [List.flatMap_cons,List.getElem?_append_left (by simp [cells3]; omega)]; simp
 | x :: r,i + 1,k,p,h,hk=>by
  rw [List.flatMap_cons,List.getElem?_append_right (by simp [cells3]; omega)]
  have:=flat3 r i k p h hk
  rw [show (i + 1) * 3 + k - (cells3 x).length=i * 3 + k by simp [cells3]; omega]
  exact this
theorem flat3_set : ∀ (T : List (Ent × Value)) (i : Nat) (p q : Ent × Value),T[i]?=some p→q.1.pos=p.1.pos→q.1.text=p.1.text→(T.set i q).flatMap cells3=(T.flatMap cells3).set (i * 3 + 2) q.2
 | [],i,p,q,h,_,_=>by simp at h
 | x :: r,0,p,q,h,h1,h2=>by
  simp at h; subst h
  simp [cells3,h1,h2]
 | x :: r,i + 1,p,q,h,h1,h2=>by
  have:=flat3_set r i p q (by simpa using h) h1 h2
  rw [List.set_cons_succ,List.flatMap_cons,this,List.flatMap_cons,List.set_append_right _ _ (by simp [cells3]; omega)]
  congr 2
  simp [cells3]; omega
theorem LSt.addBad (h : LSt own w0 w ov bv es bad) {v' : Value} (n : Nat) (hr : w'.ownsRow w0.heap.size 3 1 v' (bad.length + 1) (bad.map encI++[encI n])) (hg : w.grownBy w' bv.ownBlock) (ha : v'.ownBlock=bv.ownBlock∨v'.ownBlock=some w.heap.size) :
  LSt (ownNew own v' .bad) w0 w' ov v' es (bad++[n]):=by
 have st:=stepped h.fresh h.bown hg ha hr
 have hbl : Below w0.heap.size w w':=(Below.refl _ _).grown hg h.below.size (fun j hj=>(World.ownsRow.lt h.brow j hj).1)
 refine ⟨h.below.trans hbl,row_kept h.orow fun b hb=>?_,fun b hb=>?_,?_,st.mine,fun i e he=>(h.lines i e he).kept fun b hb=>⟨?_,?_⟩,st.fresh⟩
 ·exact st.block b (by rw [h.oown b hb]; exact fun e=>by cases e) (by rw [h.oown b hb]; exact fun e=>by cases e)
 ·rw [st.tags b (by rw [h.oown b hb]; exact fun e=>by cases e)]; exact h.oown b hb
 ·rw [List.length_append,List.map_append]; exact hr
 ·rw [st.tags b (by rw [hb]; exact fun e=>by cases e)]; exact hb
 ·exact st.block b (by rw [hb]; exact fun e=>by cases e) (by rw [hb]; exact fun e=>by cases e)
theorem LSt.addLine (h : LSt own w0 w ov bv es bad) {v' : Value} (e : Ent) (he : e.more=[]) (hr : w'.ownsRow w0.heap.size 111 3 v' (es.length + 1) (es.flatMap cells3++cells3 (e,.slice none 0 0))) (hg : w.grownBy w' ov.ownBlock) (ha : v'.ownBlock=ov.ownBlock∨v'.ownBlock=some w.heap.size) :
  LSt (ownNew own v' .out) w0 w' v' bv (es++[(e,.slice none 0 0)]) bad:=by
 have st:=stepped h.fresh h.oown hg ha hr
 have hbl : Below w0.heap.size w w':=(Below.refl _ _).grown hg h.below.size (fun j hj=>(World.ownsRow.lt h.orow j hj).1)
 refine ⟨h.below.trans hbl,?_,st.mine,row_kept h.brow fun b hb=>?_,fun b hb=>?_,fun i x hx=>?_,st.fresh⟩
 ·rw [List.length_append,List.flatMap_append]
  simpa using hr
 ·exact st.block b (by rw [h.bown b hb]; exact fun e=>by cases e) (by rw [h.bown b hb]; exact fun e=>by cases e)
 ·rw [st.tags b (by rw [h.bown b hb]; exact fun e=>by cases e)]; exact h.bown b hb
 ·rcases Nat.lt_or_ge i es.length with hi | hi
  ·rw [List.getElem?_append_left hi] at hx
   exact (h.lines i x hx).kept fun b hb=>⟨by rw [st.tags b (by rw [hb]; exact fun e=>by cases e)]; exact hb,st.block b (by rw [hb]; exact fun e=>by cases e) (by rw [hb]; exact fun e=>by cases e)⟩
  ·rw [List.getElem?_append_right hi] at hx
   have : i - es.length=0:=by
    have:=(List.getElem?_eq_some_iff.1 hx).1
    simp at this; omega
   rw [this] at hx
   simp at hx
   subst hx
   refine ⟨?_,fun b hb=>by cases hb⟩
   rw [he]
   exact World.ownsRow_nil _ _ _ _
theorem LSt.addMore (h : LSt own w0 w ov bv es bad) {i : Nat} {e : Ent × Value} (he : es[i]?=some e) {v' : Value} (p : List UInt8) {g c : Nat} (hov : ov=.slice (some ⟨g,0,none⟩) es.length c)
  (hr : w'.ownsRow w0.heap.size 9 1 v' (e.1.more.length + 1) (e.1.more.map S++[S p])) (hg : w.grownBy w' e.2.ownBlock) (ha : v'.ownBlock=e.2.ownBlock∨v'.ownBlock=some w.heap.size) :
  LSt (ownNew own v' (.ln i)) w0 (w'.setCell ⟨g,i * 3 + 2,none⟩ v') ov bv (es.set i ({ e.1 with more:=e.1.more++[p] },v')) bad:=by
 have hl:=h.lines i e he
 have st:=stepped h.fresh hl.mine hg ha hr
 have hbl : Below w0.heap.size w w':=(Below.refl _ _).grown hg h.below.size (fun j hj=>(World.ownsRow.lt hl.row j hj).1)
 have ho : own g=.out:=h.oown g (by rw [hov]; rfl)
 have hgB : w0.heap.size≤g:=(World.ownsRow.lt h.orow g (by rw [hov]; rfl)).1
 have hne : ∀ b,own b ≠ .no→own b ≠ .out→(w'.setCell ⟨g,i * 3 + 2,none⟩ v').heap[b]?=w'.heap[b]?:=fun b _ hb2=>Below.heap_setCell _ _ _ _ (fun e=>hb2 (by rw [e]; exact ho))
 have orow' : w'.ownsRow w0.heap.size 111 3 ov es.length (es.flatMap cells3):=row_kept h.orow fun b hb=>st.block b (by rw [h.oown b hb]; exact fun e=>by cases e) (by rw [h.oown b hb]; exact fun e=>by cases e)
 have hvb : ∀ b,v'.ownBlock=some b→b ≠ g:=fun b hb e=>by
  subst e
  have:=st.mine b hb
  rw [st.tags b (by rw [ho]; exact fun e=>by cases e),ho] at this
  cases this
 have hrow2 : (w'.setCell ⟨g,i * 3 + 2,none⟩ v').ownsRow w0.heap.size 9 1 v' (e.1.more.length + 1) (e.1.more.map S++[S p]):=row_kept hr fun b hb=>Below.heap_setCell _ _ _ _ (hvb b hb)
 have hil:=(List.getElem?_eq_some_iff.1 he).1
 refine ⟨(h.below.trans hbl).setCell hgB _,?_,fun b hb=>?_,row_kept h.brow fun b hb=>?_,fun b hb=>?_,fun j x hx=>?_,fun b hb=>st.fresh b (by simpa using hb)⟩
 ·rw [List.length_set,flat3_set es i e ({ e.1 with more:=e.1.more++[p] },v') he rfl rfl]
  rw [hov] at orow' ⊢
  exact (World.ownsRow.stored orow' (i * 3 + 2) v').1
 ·rw [st.tags b (by rw [h.oown b hb]; exact fun e=>by cases e)]; exact h.oown b hb
 ·rw [hne b (by rw [h.bown b hb]; exact fun e=>by cases e) (by rw [h.bown b hb]; exact fun e=>by cases e)]
  exact st.block b (by rw [h.bown b hb]; exact fun e=>by cases e) (by rw [h.bown b hb]; exact fun e=>by cases e)
 ·rw [st.tags b (by rw [h.bown b hb]; exact fun e=>by cases e)]; exact h.bown b hb
 ·by_cases hij : i=j
  ·subst hij
   rw [List.getElem?_set,if_pos rfl,if_pos hil] at hx
   cases hx
   refine ⟨?_,st.mine⟩
   show World.ownsRow _ _ _ _ _ (e.1.more++[p]).length ((e.1.more++[p]).map S)
   rw [List.length_append,List.map_append]
   exact hrow2
  ·rw [List.getElem?_set,if_neg hij] at hx
   refine (h.lines j x hx).kept fun b hb=>⟨by rw [st.tags b (by rw [hb]; exact fun e=>by cases e)]; exact hb,?_⟩
   rw [hne b (by rw [hb]; exact fun e=>by cases e) (by rw [hb]; exact fun e=>by cases e)]
   exact st.block b (by rw [hb]; exact fun e=>by cases e) (by rw [hb]; intro e; cases e; exact hij rfl)
end
end Go.Proofs.YtghnopkgcgfcpaaGreatDoor.Table
namespace Go.Proofs.YtghnopkgcgfcpaaGreatDoor.Table
open Go.RowKit Base
def isOkB (c : UInt8) : Bool:=decide (c.toNat=9∨c.toNat=10∨(32≤c.toNat∧c.toNat≤126))
def badK (l : List UInt8) (k : Nat) : List Nat:=(List.range k).filter fun i=>!isOkB (l.getD i 0)
theorem badK_yes {l : List UInt8} {k : Nat} (h : isOkB (l.getD k 0)=true) : badK l (k + 1)=badK l k:=by
 unfold badK
 rw [List.range_succ,List.filter_append,List.filter_cons_of_neg (by rw [h]; simp)]; simp
theorem badK_no {l : List UInt8} {k : Nat} (h : isOkB (l.getD k 0)=false) : badK l (k + 1)=badK l k++[k]:=by
 unfold badK
 rw [List.range_succ,List.filter_append,List.filter_cons_of_pos (by rw [h]; rfl)]; simp
theorem badK_len (l : List UInt8) (k : Nat) : (badK l k).length≤k:=by
 unfold badK
 exact Nat.le_trans (List.length_filter_le _ _) (by simp)
abbrev LS:=List Ent × List Nat
def headIs (p : UInt8→Bool) : List UInt8→Bool
 | []=>false
 | c :: _=>p c
def isHash (c : UInt8) : Bool:=decide (c.toNat=35)
def skipB (line : List UInt8) : Bool:=decide (trim line=[]) || headIs isHash (trim line)
def addLast (es : List Ent) (p : List UInt8) : List Ent:=match es[es.length - 1]? with
 | some e=>es.set (es.length - 1) { e with more:=e.more++[p] }
 | none=>es
def stepL (st : LS) (at_ : Nat) (line : List UInt8) : LS :=
 if skipB line=true then st
 else if headIs isBl line=true then (if st.1=[] then (st.1,st.2++[at_]) else (addLast st.1 (trim line),st.2))
 else (st.1++[⟨at_,line,[]⟩],st.2)
def linesFrom : Nat→List (List UInt8)→LS→LS
 | _,[],st=>st
 | a,l :: r,st=>linesFrom (a + l.length + 1) r (stepL st a l)
def linesOf (l : List UInt8) : LS:=linesFrom 0 (splitB 10 l) ([],badK l l.length)
theorem lines_end (a : Nat) (st : LS) : linesFrom a (splitB 10 []) st=st:=rfl
theorem lines_next {l : List UInt8} {a e : Nat} (st : LS) (h1 : a≤e) (h2 : e≤l.length) (hno : ∀ j,a≤j→j < e→l.getD j 0 ≠ 10) (hat : e < l.length→l.getD e 0=10) :
  linesFrom a (splitB 10 (l.drop a)) st=linesFrom (e + 1) (splitB 10 (l.drop (e + 1))) (stepL st a ((l.take e).drop a)):=by
 have hlen : ((l.take e).drop a).length=e - a:=by rw [List.length_drop,List.length_take]; omega
 have hne : ∀ x ∈ (l.take e).drop a,x ≠ (10 : UInt8):=fun x hx=>by
  obtain ⟨j,hj,rfl⟩:=List.getElem_of_mem hx
  rw [hlen] at hj
  have:=hno (a + j) (by omega) (by omega)
  rw [List.getElem_drop,List.getElem_take]
  rw [List.getD_eq_getElem?_getD,List.getElem?_eq_getElem (by omega)] at this
  exact this
 have hsp : l.drop a=(l.take e).drop a++l.drop e:=by
  rw [← List.drop_append_of_le_length (by rw [List.length_take]; omega),List.take_append_drop]
 rcases Nat.lt_or_ge e l.length with hlt | hge
 ·have hde : l.drop e=10 :: l.drop (e + 1):=by
   rw [List.drop_eq_getElem_cons hlt]
   have:=hat hlt
   rw [List.getD_eq_getElem?_getD,List.getElem?_eq_getElem hlt] at this
   simp at this
   rw [this]
  rw [hsp,hde,splitB_at hne,linesFrom,hlen,show a + (e - a) + 1=e + 1 by omega]
 ·rw [List.drop_eq_nil_of_le (i:=e + 1) (by omega)]
  rw [hsp,List.drop_eq_nil_of_le (i:=e) (by omega),List.append_nil,splitB_none hne,linesFrom,linesFrom]
  rfl
theorem info63 : (Tryz.prog.info? 111).map (fun i=>(i.zero,i.size,i.bytes))=some (some (.agg #[.int .i64 0,.string ⟨#[]⟩,.slice none 0 0]),3,48):=by kernel_rfl
theorem info3 : (Tryz.prog.info? 3).map (fun i=>(i.zero,i.size,i.bytes))=some (some (.int .i64 0),1,8):=by kernel_rfl
section
variable {own : Nat→Tg} {w0 wr : World} {ov bv : Value} {es : List (Ent × Value)} {bad : List Nat} {ops : Array Oper} {rest : List Oper} {o : Oper} {a : Act} {Q : Exit→Act→World→Prop}
theorem wp_addLine (hgd : o.guard=none) (s y : Operand) (ho : o.op=.call { callee:=.builtin .append,args:=#[s,y],argTypes:=#[106,106] })
  (h : LSt own w0 wr ov bv es bad) (hn : es.length≤1000000) (pos : Nat) (line : ByteArray) (hs : a.eval s=ov) (hx : a.eval y=.slice (some ⟨wr.heap.size,0,none⟩) 1 1)
  (hK : ∀ v' w' own',LSt own' w0 w' v' bv (es++[(⟨pos,line.data.toList,[]⟩,.slice none 0 0)]) bad→wpList Tryz.prog ops Q rest (a.put o.dst v') w') :
  wpList Tryz.prog ops Q (o :: rest) a (wr.alloc (.cells #[.int .i64 (pos : Int),.string line,.slice none 0 0] 111)):=by
 obtain ⟨i0,hi,hz0,hz1,hz2⟩:=info_parts info63
 have h1:=h.on (Below.alloc1 wr (.cells #[.int .i64 (pos : Int),.string line,.slice none 0 0] 111))
 have hb:=(MapKept.heap_alloc wr (.cells #[.int .i64 (pos : Int),.string line,.slice none 0 0] 111)).1
 refine wpList_plain hgd fun K hK2=>?_
 obtain ⟨v',w',e1,e2,e3,_,e5⟩:=run_append_own_at (P:=Tryz.prog) (wr.alloc (.cells #[.int .i64 (pos : Int),.string line,.slice none 0 0] 111)) w0.heap.size 106 o.type 111 i0 (.agg #[.int .i64 0,.string ⟨#[]⟩,.slice none 0 0]) 3 48 Tryz.underlying106 hi hz0 hz1 hz2 rfl (by decide) ov es.length (es.flatMap cells3) h1.orow ⟨wr.heap.size,0,none⟩ 1 1 [.int .i64 (pos : Int),.string line,.slice none 0 0] rfl
  (fun j u hu=>by
   rw [Addr.add_lit,Nat.zero_add,cell_of_row _ _ j _ _ _ hb]; simpa using hu)
  (fun u hu=>by simp at hu; rcases hu with rfl | rfl | rfl <;> rfl) (by unfold maxLen; omega) (by omega) h1.below.size
 unfold Oper.wp execOp
 simp only [ho,resolve,invoke,builtin,Sem.run_bind,Sem.run_pure,Result.andThen_ok,List.map_toArray,List.map_cons,List.map_nil,hs,hx,e1]
 exact hK2 _ _ (hK v' w' _ (h1.addLine ⟨pos,line.data.toList,[]⟩ rfl e2 e3 e5))
theorem wp_addBad (hgd : o.guard=none) (s y : Operand) (ho : o.op=.call { callee:=.builtin .append,args:=#[s,y],argTypes:=#[107,107] })
  (h : LSt own w0 wr ov bv es bad) (hn : bad.length≤1000000) (pos : Nat) (hs : a.eval s=bv) (hx : a.eval y=.slice (some ⟨wr.heap.size,0,none⟩) 1 1)
  (hK : ∀ v' w' own',LSt own' w0 w' ov v' es (bad++[pos])→wpList Tryz.prog ops Q rest (a.put o.dst v') w') :
  wpList Tryz.prog ops Q (o :: rest) a (wr.alloc (.cells #[.int .i64 (pos : Int)] 3)):=by
 obtain ⟨i0,hi,hz0,hz1,hz2⟩:=info_parts info3
 have h1:=h.on (Below.alloc1 wr (.cells #[.int .i64 (pos : Int)] 3))
 refine wpList_append_row _ hgd s y 107 ho w0.heap.size 3 i0 (.int .i64 0) 8 Tryz.underlying107 hi hz0 hz1 hz2 rfl bv _ bad.length (bad.map encI) [encI pos] hs hx h1.brow (vreads_one _ _ _) (fun u hu=>by rw [List.mem_singleton.1 hu]; rfl) (by rw [List.length_singleton]; omega) (by rw [List.length_singleton]; omega) h1.below.size (fun v' w' o2 g2 a2=>?_)
 exact hK v' w' _ (h1.addBad pos o2 g2 a2)
theorem wp_addMore (hgd : o.guard=none) (s y : Operand) (ho : o.op=.call { callee:=.builtin .append,args:=#[s,y],argTypes:=#[22,22] })
  (h : LSt own w0 wr ov bv es bad) {i : Nat} {e : Ent × Value} (he : es[i]?=some e) (hn : e.1.more.length≤1000000) (p : List UInt8) {g c : Nat} (hov : ov=.slice (some ⟨g,0,none⟩) es.length c) (sv : Value) (hsv : e.2=sv) (hs : a.eval s=sv) (hx : a.eval y=.slice (some ⟨wr.heap.size,0,none⟩) 1 1)
  (hK : ∀ va vn vc v' w' own',v'=.slice va vn vc→LSt own' w0 (w'.setCell ⟨g,i * 3 + 2,none⟩ v') ov bv (es.set i ({ e.1 with more:=e.1.more++[p] },v')) bad→(∃ u,w'.cell? ⟨g,i * 3 + 2,none⟩=some u)→w'.frozen? ⟨g,i * 3 + 2,none⟩=false→wpList Tryz.prog ops Q rest (a.put o.dst v') w') :
  wpList Tryz.prog ops Q (o :: rest) a (wr.alloc (.cells #[S p] 9)):=by
 subst hsv
 obtain ⟨i0,hi,hz0,hz1,hz2⟩:=info_parts info9
 have h1:=h.on (Below.alloc1 wr (.cells #[S p] 9))
 refine wpList_append_row _ hgd s y 22 ho w0.heap.size 9 i0 (.string ⟨#[]⟩) 16 Tryz.underlying22 hi hz0 hz1 hz2 rfl e.2 _ e.1.more.length (e.1.more.map S) [S p] hs hx (h1.lines i e he).row (vreads_one _ _ _) (one_str _) (by rw [List.length_singleton]; omega) (by rw [List.length_singleton]; omega) h1.below.size (fun v' w' o2 g2 a2=>?_)
 have h2:=h1.addMore he p hov o2 g2 a2
 have st:=stepped h1.fresh (h1.lines i e he).mine g2 a2 o2
 have ho : own g=.out:=h.oown g (by rw [hov]; rfl)
 have orow' : w'.ownsRow w0.heap.size 111 3 ov es.length (es.flatMap cells3):=row_kept h1.orow fun b hb=>st.block b (by rw [h.oown b hb]; exact fun e=>by cases e) (by rw [h.oown b hb]; exact fun e=>by cases e)
 have hil:=(List.getElem?_eq_some_iff.1 he).1
 rw [hov] at orow'
 obtain ⟨va,vc,hvf,_⟩:=row_form o2
 refine hK va _ vc v' w' _ hvf h2 ⟨e.2,?_⟩ (World.ownsRow.frozenAt orow' _)
 rw [World.ownsRow.cellAt orow' (i * 3 + 2) (by omega),flat3 es i 2 e he (by omega)]; rfl
end
end Go.Proofs.YtghnopkgcgfcpaaGreatDoor.Table
