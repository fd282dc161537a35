/-
  MERGED by mergefill.py: TabOff, TabChn, TabJoin, TabChn2, TabRAsk.
-/
import Derived.Test.YtghnopkgcgfcpaaGreatDoorTabSearchMg
import Derived.Test.YtghnopkgcgfcpaaGreatDoorTabLinesMg
import Derived.Test.YtghnopkgcgfcpaaGreatDoorTabPEndMg
import Derived.Deep.RegionHeld3
import Derived.StillTailTactics
import Derived.BigQuiet
import Derived.Deep.DrawnRows
set_option maxHeartbeats 16000000
set_option maxRecDepth 100000
namespace Go.Proofs.YtghnopkgcgfcpaaGreatDoor.Table
open Go.RowKit Base
def TabC (w : World) (b o : Nat) (T : List KV) : Prop:=∃ sv,w.cell? ⟨b,o,none⟩=some sv∧Rows2 w sv T
theorem TabC.on {w w' : World} {b o : Nat} {T : List KV} (h : TabC w b o T) (hb : Below w.heap.size w w') : TabC w' b o T:=by
 obtain ⟨sv,h1,h2⟩:=h
 exact ⟨sv,(hb.cell (p:=⟨b,o,none⟩) (World.block_lt_of_cell? w _ h1)).trans h1,h2.on hb⟩
theorem TabC.cell {w : World} {b o : Nat} {T : List KV} (h : TabC w b o T) : ∃ a c,w.cell? ⟨b,o,none⟩=some (.slice a T.length c)∧T.length≤c∧Rows2 w (.slice a T.length c) T:=by
 obtain ⟨sv,h1,h2⟩:=h
 obtain ⟨a,c,rfl,hc⟩:=h2.form
 exact ⟨a,c,h1,hc,h2⟩
def KeptO (w : World) (b ao : Nat) (x : Value) (w' : World) : Prop:=Below w.heap.size w w'∧w'.cell? ⟨b,ao,none⟩=some x
theorem KeptO.keep {w w1 w2 : World} {b ao : Nat} {x : Value} (h : KeptO w b ao x w1) (hb : Below w1.heap.size w1 w2) : KeptO w b ao x w2 :=
 ⟨h.1.trans (hb.mono h.1.size),(hb.cell (p:=⟨b,ao,none⟩) (World.block_lt_of_cell? w1 _ h.2)).trans h.2⟩
theorem KeptO.start {w : World} {b ao : Nat} {x : Value} (h : w.cell? ⟨b,ao,none⟩=some x) : KeptO w b ao x w.drew:=⟨⟨rfl,rfl,rfl,Nat.le_refl _,fun _ _=>rfl⟩,h⟩
theorem pExactO (b ao : Nat) (T : List KV) (key : ByteArray) (w : World) (h : TabC w b ao T) (hr : Rising T) (hS : Short T) (hn : T.length≤1000000) (hs : key.size≤9223372036854775807) : Calls Tryz.prog 127 #[.pointer (some ⟨b,ao,none⟩),.string key] w (ExactEnd T (lower key.data.toList) w):=by
 by_cases hlong : 320 < key.size
 ·have hno:=long_no (key:=lower key.data.toList) hS (by rw [lower_len,str_len]; exact hlong)
  have HE : Hid (ExactEnd T (lower key.data.toList) w (.returned (.tuple #[.string ⟨#[]⟩,.bool false])) w):=⟨by rw [hno.1,hno.2],Below.refl _ _⟩
  have i1 : (320 : Int) < (key.size : Int):=by omega
  clear hno hlong h hr
  go_enter Tryz.func127,Tryz.ntmps127
  go_wp2
  go_ret2
  exact HE.out
 ·have i1 : ¬ (320 : Int) < (key.size : Int):=by omega
  have HT:=Lib.hid h
  obtain ⟨a,c,c1,c2,c3⟩:=h.cell
  have C3:=Lib.hid c3
  have HS0:=Lib.hid (KeptO.start c1)
  have HL : Hid (∀ w1,Calls Tryz.prog 70 #[.string key] w1 fun e w'=>e=.returned (S (lower key.data.toList))∧Below w1.heap.size w1 w'):=fun w1=>pLower key w1 hs
  obtain ⟨lk,hlk⟩ : ∃ lk,lk=lower key.data.toList:=⟨_,rfl⟩
  rw [← hlk] at HL ⊢
  have HP : ∀ w1,Below w.heap.size w w1→Calls Tryz.prog 170 #[.slice a T.length c,S lk,.func (.func 171) #[] #[]] w1 (SearchEnd T lk w1):=fun w1 hb=>pSearch _ T ⟨lk.toArray⟩ w1 (c3.on hb) hr hn
  clear h hr hlk c1 c3
  rcases has_cases T lk with ⟨h1,h2⟩ | ⟨p,hp,hm,h1,h2⟩
  ·have HP2:=Lib.hid (fun w1 hb=>place_no (HP w1 hb) h1)
   have HE : Hid (∀ w',Below w.heap.size w w'→ExactEnd T lk w (.returned (.tuple #[.string ⟨#[]⟩,.bool false])) w'):=fun w' hb=>⟨by rw [h1,h2],hb⟩
   clear HP h1 h2
   go_enter Tryz.func127,Tryz.ntmps127
   go_wp2
   go_region_held3 (fun w'=>Below w.heap.size w w'∧w'.cell? ⟨b,ao,none⟩=some (.slice a T.length c))
    (first | exact HS0.out | exact KeptO.keep (by assumption) hb | fail)
    (first
     | (go_at_call 70; refine (HL.out _).mono ?_; rintro e wn ⟨rfl,hb⟩)
     | (go_at_call 170; refine (HP2.out _ (And.left (by assumption))).mono ?_; rintro e wn ⟨x,rfl,hb⟩)
     | fail)
   all_goals
    go_wp2
    go_ret2
    exact HE.out _ (And.left (by assumption))
  ·obtain ⟨m,hm2⟩ : ∃ m,posOf T lk=m:=⟨_,rfl⟩
   have HP2:=Lib.hid (fun w1 hb=>place_yes (HP w1 hb) h1 hm2)
   have HE : Hid (∀ w',Below w.heap.size w w'→ExactEnd T lk w (.returned (.tuple #[S p.2,.bool true])) w'):=fun w' hb=>⟨by rw [h1,h2],hb⟩
   rw [hm2] at hp hm
   obtain ⟨gb,o,rfl,_,_⟩:=C3.out.cell hp
   have HX : Hid (∀ w',Below w.heap.size w w'→w'.cell? ⟨gb,o + m * 2 + 1,none⟩=some (S p.2)):=fun w' hb=>by
    obtain ⟨gb2,o2,he,_,c4⟩:=(C3.out.on hb).cell hp
    cases he
    exact c4
   have j0 : (0 : Int)≤(m : Int):=by omega
   have j1 : (m : Int) < (T.length : Int):=by omega
   clear HP h1 h2 hp hm2
   go_enter Tryz.func127,Tryz.ntmps127
   go_wp2
   go_region_held3 (fun w'=>Below w.heap.size w w'∧w'.cell? ⟨b,ao,none⟩=some (.slice (some ⟨gb,o,none⟩) T.length c))
    (first | exact HS0.out | exact KeptO.keep (by assumption) hb | fail)
    (first
     | (go_at_call 70; refine (HL.out _).mono ?_; rintro e wn ⟨rfl,hb⟩)
     | (go_at_call 170; refine (HP2.out _ (And.left (by assumption))).mono ?_; rintro e wn ⟨rfl,hb⟩)
     | fail)
   all_goals
    have d3:=HX.out _ (And.left (by assumption))
    go_wp2
    go_ret2
    exact HE.out _ (And.left (by assumption))
def AsksO (b ao : Nat) (T : List KV) (w : World) : Prop:=∀ (w1 : World) (key : ByteArray),Below w.heap.size w w1→key.size≤9223372036854775807→Calls Tryz.prog 127 #[.pointer (some ⟨b,ao,none⟩),.string key] w1 (AnsEnd (exactA T key.data.toList) w1)
theorem pAsksO {b ao : Nat} {T : List KV} {w : World} (h : TabC w b ao T) (hr : Rising T) (hS : Short T) (hn : T.length≤1000000) : AsksO b ao T w:=fun w1 key hb hs=>pExactO b ao T key w1 (h.on hb) hr hS hn hs
theorem pAddressO (b ao : Nat) (T : List KV) (l d : ByteArray) (w : World) (h : AsksO b ao T w) (hl : l.size≤140737488355328) (hd : d.size≤140737488355328) : Calls Tryz.prog 86 #[.pointer (some ⟨b,ao,none⟩),.string l,.string d] w (AnsEnd (addrA T l.data.toList d.data.toList) w):=by
 have H1:=h w (l++⟨#[64]⟩++d) (Below.refl _ _) (by rw [app_size]; omega)
 have H2 : ∀ w1,Below w.heap.size w w1→Calls Tryz.prog 127 #[.pointer (some ⟨b,ao,none⟩),.string (⟨#[64]⟩++d)] w1 (AnsEnd (exactA T (64 :: d.data.toList)) w1):=fun w1 hb=>by
  have:=h w1 (⟨#[64]⟩++d) hb (by rw [app_size1]; omega)
  rwa [app_key1] at this
 rw [app_key] at H1
 have HE : Hid (addrA T l.data.toList d.data.toList=if (exactA T (l.data.toList++64 :: d.data.toList)).2=true then exactA T (l.data.toList++64 :: d.data.toList) else exactA T (64 :: d.data.toList)):=rfl
 generalize exactA T (l.data.toList++64 :: d.data.toList)=a1 at H1 HE
 generalize exactA T (64 :: d.data.toList)=a2 at H2 HE
 have HL:=Lib.hid hl
 have HD:=Lib.hid hd
 clear h
 cases hB : a1.2
 ·have HC1:=Lib.hid (ans_form H1 hB)
  have HC2:=Lib.hid H2
  rw [hB] at HE
  clear H1 H2 hB
  go_enter Tryz.func86,Tryz.ntmps86
  go_wp2_with (first | (go_at_call 127; refine HC1.out.mono ?_; rintro e w1 ⟨rfl,hb1⟩; refine Hid.out ?_) | fail)
  refine Lib.hid ?_
  have HB1:=Lib.hid hb1
  clear hb1
  go_wp2_with (first | (go_at_call 127; refine (HC2.out _ HB1.out).mono ?_; rintro e w2 ⟨rfl,hb2⟩; refine Hid.out ?_) | fail)
  refine Lib.hid ?_
  have HB2:=Lib.hid (HB1.out.trans (hb2.mono HB1.out.size))
  clear hb2
  go_wp2
  go_ret2
  exact ⟨by rw [HE.out]; rfl,HB2.out⟩
 ·have HC1:=Lib.hid (ans_form H1 hB)
  have HE2 : Hid (addrA T l.data.toList d.data.toList=a1):=by show _=_; rw [HE.out,if_pos hB]
  have HB:=Lib.hid hB
  clear H1 H2 hB HE
  go_enter Tryz.func86,Tryz.ntmps86
  go_wp2_with (first | (go_at_call 127; refine HC1.out.mono ?_; rintro e w1 ⟨rfl,hb1⟩; refine Hid.out ?_) | fail)
  refine Lib.hid ?_
  have HB1:=Lib.hid hb1
  clear hb1
  go_wp2
  go_ret2
  exact ⟨by rw [HE2.out,HB.out]; rfl,HB1.out⟩
end Go.Proofs.YtghnopkgcgfcpaaGreatDoor.Table
set_option maxHeartbeats 16000000
set_option maxRecDepth 100000
namespace Go.Proofs.YtghnopkgcgfcpaaGreatDoor.Table
open Go.RowKit Base
def firstA (ask : List KV→Ans) : List (List KV)→Ans
 | []=>([],false)
 | T :: r=>if (ask T).2=true then ask T else firstA ask r
def RowsC (w : World) (v : Value) (Ts : List (List KV)) : Prop :=
 (Ts=[]∧∃ a c,v=.slice a 0 c)∨∃ g c,v=.slice (some ⟨g,0,none⟩) Ts.length c∧Ts.length≤c∧∀ (i : Nat) (T : List KV),Ts[i]?=some T→TabC w g i T
def ChainAt (w : World) (cb : Nat) (Ts : List (List KV)) : Prop:=∃ sv,w.heap[cb]?=some (.cells #[sv] 103 (0,0))∧RowsC w sv Ts
theorem RowsC.on {w w' : World} {v : Value} {Ts : List (List KV)} (h : RowsC w v Ts) (hb : Below w.heap.size w w') : RowsC w' v Ts:=by
 rcases h with h | ⟨g,c,h1,h2,h3⟩
 ·exact Or.inl h
 ·exact Or.inr ⟨g,c,h1,h2,fun i T h=>(h3 i T h).on hb⟩
theorem ChainAt.on {w w' : World} {cb : Nat} {Ts : List (List KV)} (h : ChainAt w cb Ts) (hb : Below w.heap.size w w') : ChainAt w' cb Ts:=by
 obtain ⟨sv,h1,h2⟩:=h
 exact ⟨sv,(hb.block cb (heap_lt h1)).trans h1,h2.on hb⟩
theorem ChainAt.cell {w : World} {cb : Nat} {Ts : List (List KV)} (h : ChainAt w cb Ts) : ∃ a c,w.cell? ⟨cb,0,none⟩=some (.slice a Ts.length c)∧∀ (i : Nat) (T : List KV),Ts[i]?=some T→∃ g,a=some ⟨g,0,none⟩∧TabC w g i T:=by
 obtain ⟨sv,h1,h2⟩:=h
 rcases h2 with ⟨rfl,a,c,rfl⟩ | ⟨g,c,rfl,h3,h4⟩
 ·exact ⟨a,c,cell_of_row w cb 0 _ _ _ h1,fun i T h=>by simp at h⟩
 ·exact ⟨_,c,cell_of_row w cb 0 _ _ _ h1,fun i T h=>⟨g,rfl,h4 i T h⟩⟩
theorem firstA_drop {ask : List KV→Ans} {Ts : List (List KV)} {k : Nat} {T : List KV} (h : Ts[k]?=some T) : firstA ask (Ts.drop k)=if (ask T).2=true then ask T else firstA ask (Ts.drop (k + 1)):=by
 have hk:=(List.getElem?_eq_some_iff.1 h).1
 rw [List.drop_eq_getElem_cons hk,(List.getElem?_eq_some_iff.1 h).2]; rfl
def AsksC (f : FuncId) (cap : List Value) (ask : List KV→Ans) (Ts : List (List KV)) (w : World) : Prop:=∀ (w1 : World) (g i : Nat) (T : List KV),Below w.heap.size w w1→Ts[i]?=some T→TabC w1 g i T→Calls Tryz.prog f (.pointer (some ⟨g,i,none⟩) :: cap).toArray w1 (AnsEnd (ask T) w1)
theorem heap_two0 (w : World) (o o2 : Obj) : ((w.alloc o).alloc o2).heap[w.heap.size]?=some o:=by
 show ((w.heap.push o).push o2)[w.heap.size]?=_
 rw [Array.getElem?_push_lt (by simp)]; simp
theorem heap_two1 (w : World) (o o2 : Obj) : ((w.alloc o).alloc o2).heap[w.heap.size + 1]?=some o2:=by
 show ((w.heap.push o).push o2)[w.heap.size + 1]?=_
 rw [Array.getElem?_push,if_pos (by simp)]
theorem pCloA (g i kb lb : Nat) (k l : ByteArray) (w : World) (a : Ans) (hk : w.cell? ⟨kb,0,none⟩=some (.string k)) (hl : w.cell? ⟨lb,0,none⟩=some (.string l)) (hA : ∀ w1,Below w.heap.size w w1→Calls Tryz.prog 86 #[.pointer (some ⟨g,i,none⟩),.string k,.string l] w1 (AnsEnd a w1)) :
  Calls Tryz.prog 85 #[.pointer (some ⟨g,i,none⟩),.pointer (some ⟨kb,0,none⟩),.pointer (some ⟨lb,0,none⟩)] w (AnsEnd a w):=by
 have HC:=Lib.hid (hA w (Below.refl _ _))
 clear hA
 go_enter Tryz.func85,Tryz.ntmps85
 go_wp2_with (first | (go_at_call 86; refine HC.out.mono ?_; rintro e w1 ⟨rfl,hb1⟩; refine Hid.out ?_) | fail)
 refine Lib.hid ?_
 have HB1:=Lib.hid hb1
 clear hb1
 go_wp2
 go_ret2
 exact ⟨rfl,HB1.out⟩
theorem pFirstA (cb kb lb : Nat) (ask : List KV→Ans) (Ts : List (List KV)) (w : World) (h : ChainAt w cb Ts) (hn : Ts.length≤1000000) (hA : AsksC 85 [.pointer (some ⟨kb,0,none⟩),.pointer (some ⟨lb,0,none⟩)] ask Ts w) :
  Calls Tryz.prog 84 #[.pointer (some ⟨cb,0,none⟩),.func (.func 85) #[] #[.pointer (some ⟨kb,0,none⟩),.pointer (some ⟨lb,0,none⟩)]] w (AnsEnd (firstA ask Ts) w):=by
 obtain ⟨fin,hfin⟩ : ∃ fin,fin=firstA ask Ts:=⟨_,rfl⟩
 have HF0 : Hid (firstA ask (Ts.drop 0)=fin):=by show _=_; rw [hfin]; rfl
 rw [← hfin]
 clear hfin
 have HH:=Lib.hid h
 have HA:=Lib.hid hA
 obtain ⟨ra,rc,r1,r2⟩:=h.cell
 clear h hA r2
 go_enter Tryz.func84,Tryz.ntmps84
 go_wp2
 go_loopw [6,7,8,14] (fun i v is n wr=>∃ k : Nat,k≤Ts.length∧n=.int .i64 (k : Int)∧Hid (firstA ask (Ts.drop k)=fin)∧Hid (Below w.heap.size w wr)) (fun _ _ _ n _=>Ts.length - (intOf n).toNat)
 case atStart=>exact ⟨0,by omega,rfl,HF0,Below.refl _ _⟩
 case round =>
  clear HF0 r1
  obtain ⟨k,hk,rfl,HG,HB⟩:=hrel
  have HCH:=Lib.hid (HH.out.on HB.out)
  obtain ⟨sa,sc,s1,s2⟩:=HCH.out.cell
  by_cases hlt : k < Ts.length
  ·have hT : Ts[k]?=some Ts[k]:=List.getElem?_eq_getElem hlt
   have i0 : (0 : Int)≤(k : Int):=by omega
   have i1 : (k : Int) < (Ts.length : Int):=by omega
   obtain ⟨g,hg,htc⟩:=s2 k _ hT
   subst hg
   have HC : Hid (Calls Tryz.prog 85 #[.pointer (some ⟨g,k,none⟩),.pointer (some ⟨kb,0,none⟩),.pointer (some ⟨lb,0,none⟩)] wr (AnsEnd (ask Ts[k]) wr)):=HA.out wr g k _ HB.out hT htc
   have HG2 : Hid ((if (ask Ts[k]).2=true then ask Ts[k] else firstA ask (Ts.drop (k + 1)))=fin):=by show _=_; rw [← firstA_drop hT]; exact HG.out
   clear s2 htc hT HG HCH
   generalize ask Ts[k]=a at HC HG2
   obtain ⟨av,ai⟩:=a
   cases ai
   ·have HG3 : Hid (firstA ask (Ts.drop (k + 1))=fin):=by show _=_; rw [← HG2.out,if_neg (by simp)]
    clear HG2
    go_wp2_with (first | (go_at_call 85; refine HC.out.mono ?_; rintro e w2 ⟨rfl,hb2⟩; refine Hid.out ?_) | fail)
    refine Lib.hid ?_
    have HB2:=Lib.hid (HB.out.trans (hb2.mono HB.out.size))
    clear hb2
    go_wp2
    go_roundw
    case rel=>exact ⟨k + 1,by omega,by go_num,HG3,HB2⟩
    case measure=>simp [intOf]; omega
   ·have HG3 : Hid ((av,true)=fin):=by show _=_; rw [← HG2.out,if_pos rfl]
    clear HG2
    go_wp2_with (first | (go_at_call 85; refine HC.out.mono ?_; rintro e w2 ⟨rfl,hb2⟩; refine Hid.out ?_) | fail)
    refine Lib.hid ?_
    have HB2:=Lib.hid (HB.out.trans (hb2.mono HB.out.size))
    clear hb2
    go_wp2
    go_ret2
    exact ⟨by rw [← HG3.out]; rfl,HB2.out⟩
  ·have i1 : ¬ (k : Int) < (Ts.length : Int):=by omega
   have HG3 : Hid (([],false)=fin):=by show _=_; rw [← HG.out,List.drop_eq_nil_of_le (by omega)]; rfl
   clear HG s2 HCH
   go_wp2
   go_ret2
   exact ⟨by rw [← HG3.out]; rfl,HB.out⟩
end Go.Proofs.YtghnopkgcgfcpaaGreatDoor.Table
set_option maxHeartbeats 16000000
set_option maxRecDepth 100000
namespace Go.Proofs.YtghnopkgcgfcpaaGreatDoor.Table
open Go.RowKit Base
attribute [local go_sem ↓] Go.wp_at_zero Go.wp_at_succ
theorem info82 : (Tryz.prog.info? 105).map (fun i=>(i.zero,i.size,i.bytes))=some (some (.agg #[.slice none 0 0]),1,24):=by kernel_rfl
abbrev PV:=Option (Nat × Value)
def ptrV : PV→Value
 | none=>.pointer none
 | some p=>.pointer (some ⟨p.1,0,none⟩)
def valsOf (ps : List PV) : List Value:=(ps.filterMap id).map Prod.snd
structure JSt (w wr : World) (xs : List Value) (cv : Value) : Prop where
 below : Below w.heap.size w wr
 box : wr.heap[w.heap.size]?=some (.cells #[cv] 103 (0,0))
 row : wr.ownsRow w.heap.size 105 1 cv xs.length xs
theorem JSt.start (w : World) : JSt w (w.alloc (.cells #[.slice none 0 0] 103)) [] (.slice none 0 0):=⟨Below.alloc1 _ _,(MapKept.heap_alloc w _).1,World.ownsRow_nil _ _ _ _⟩
structure JF (w wr : World) (xs : List Value) (ca : Option Addr) (cc : Nat) (b : Nat) (sv : Value) (na : Option Addr) (nc : Nat) (w3 : World) : Prop where
 s0 : wr.drew.cell? ⟨b,0,none⟩=some sv
 s1 : (wr.drew.alloc (.cells #[sv] 105)).cell? ⟨b,0,none⟩=some sv
 s2 : w3.cell? ⟨b,0,none⟩=some sv
 s3 : (w3.setCell ⟨w.heap.size,0,none⟩ (.slice na (xs.length + 1) nc)).cell? ⟨b,0,none⟩=some sv
 run : (Builtin.append_ #[101,101] 101 #[.slice ca xs.length cc,.slice (some ⟨wr.heap.size,0,none⟩) 1 1]).run Tryz.prog (wr.drew.alloc (.cells #[sv] 105))=.ok (.slice na (xs.length + 1) nc) w3
 d1 : wr.drew.cell? ⟨w.heap.size,0,none⟩=some (.slice ca xs.length cc)
 d2 : (wr.drew.alloc (.cells #[sv] 105)).cell? ⟨w.heap.size,0,none⟩=some (.slice ca xs.length cc)
 d3 : w3.cell? ⟨w.heap.size,0,none⟩=some (.slice ca xs.length cc)
 d4 : w3.frozen? ⟨w.heap.size,0,none⟩=false
 fin : JSt w (w3.setCell ⟨w.heap.size,0,none⟩ (.slice na (xs.length + 1) nc)) (xs++[sv]) (.slice na (xs.length + 1) nc)
theorem join_step {w wr : World} {xs : List Value} {ca : Option Addr} {cc : Nat} (h : JSt w wr xs (.slice ca xs.length cc)) {b : Nat} {sv : Value} (hb : w.heap[b]?=some (.cells #[sv] 105 (0,0))) (h1 : sv.oneCell'=true) (hn : xs.length≤1000000) : ∃ na nc w3,JF w wr xs ca cc b sv na nc w3:=by
 obtain ⟨i0,hi,hz0,hz1,hz2⟩:=info_parts info82
 have hbl:=heap_lt hb
 have bd : Below w.heap.size w wr.drew:=h.below.trans ((bel_drewN 1 wr (Nat.le_refl _)).mono h.below.size)
 have ba : Below w.heap.size w (wr.drew.alloc (.cells #[sv] 105)):=bd.trans ((Below.alloc1 wr.drew _).mono bd.size)
 have xd : wr.drew.heap[w.heap.size]?=some (.cells #[.slice ca xs.length cc] 103 (0,0)):=((bel_drewN 1 wr (Nat.le_refl _)).block _ (heap_lt h.box)).trans h.box
 have xa : (wr.drew.alloc (.cells #[sv] 105)).heap[w.heap.size]?=some (.cells #[.slice ca xs.length cc] 103 (0,0)):=((Below.alloc1 wr.drew _).block _ (heap_lt xd)).trans xd
 have rd : wr.drew.ownsRow w.heap.size 105 1 (.slice ca xs.length cc) xs.length xs:=row_kept h.row fun k hk=>(bel_drewN 1 wr (Nat.le_refl _)).block k (World.ownsRow.lt h.row k hk).2
 have ra : (wr.drew.alloc (.cells #[sv] 105)).ownsRow w.heap.size 105 1 (.slice ca xs.length cc) xs.length xs:=row_kept rd fun k hk=>(Below.alloc1 wr.drew _).block k (World.ownsRow.lt rd k hk).2
 have hnb:=(MapKept.heap_alloc wr.drew (.cells #[sv] 105)).1
 obtain ⟨v',w3,e1,e2,e3,_,_⟩:=run_append_own_at (P:=Tryz.prog) (wr.drew.alloc (.cells #[sv] 105)) w.heap.size 101 101 105 i0 (.agg #[.slice none 0 0]) 1 24 Tryz.underlying101 hi hz0 hz1 hz2 rfl (by decide) (.slice ca xs.length cc) xs.length xs ra ⟨wr.heap.size,0,none⟩ 1 1 [sv] rfl
  (fun j u hu=>by
   rw [Addr.add_lit,Nat.zero_add]
   exact (cell_of_row _ _ j _ _ _ hnb).trans (by simpa using hu))
  (fun u hu=>by rw [List.mem_singleton.1 hu]; exact h1) (by unfold maxLen; omega) (by omega) ba.size
 obtain ⟨na,nc,rfl,_⟩:=row_form e2
 have hne : (Value.slice ca xs.length cc).ownBlock ≠ some w.heap.size:=fun e=>by
  obtain ⟨cs,fz,hh⟩:=row_type ra e
  rw [xa] at hh; cases hh
 have b3 : Below w.heap.size w w3:=ba.grown e3 ba.size (fun j hj=>(World.ownsRow.lt ra j hj).1)
 obtain ⟨_,_,_,_,hbk⟩:=e3
 have x3 : w3.heap[w.heap.size]?=some (.cells #[.slice ca xs.length cc] 103 (0,0)):=(hbk _ (heap_lt xa) (fun e=>hne e.symm)).trans xa
 have hne3 : (Value.slice na (xs.length + 1) nc).ownBlock ≠ some w.heap.size:=fun e=>by
  obtain ⟨cs,fz,hh⟩:=row_type e2 e
  rw [x3] at hh; cases hh
 have hcell : ∀ w',Below w.heap.size w w'→w'.cell? ⟨b,0,none⟩=some sv:=fun w' hw'=>cell_of_row w' b 0 _ _ _ ((hw'.block b hbl).trans hb)
 have b4 : Below w.heap.size w (w3.setCell ⟨w.heap.size,0,none⟩ (.slice na (xs.length + 1) nc)):=b3.setCell (Nat.le_refl _) _
 refine ⟨na,nc,w3,hcell _ bd,hcell _ ba,hcell _ b3,hcell _ b4,e1,cell_of_row _ _ 0 _ _ _ xd,cell_of_row _ _ 0 _ _ _ xa,cell_of_row _ _ 0 _ _ _ x3,by simp [World.frozen?,x3],b4,?_,?_⟩
 ·rw [heap_setCell_same w3 _ 0 _ _ _ x3]; rfl
 ·rw [List.length_append]
  exact row_kept e2 fun k hk=>Below.heap_setCell _ _ _ _ (fun e=>hne3 (by rw [hk,e]))
def addV : PV→List Value
 | none=>[]
 | some p=>[p.2]
theorem valsOf_take {ps : List PV} {k : Nat} {o : PV} (h : ps[k]?=some o) : valsOf (ps.take (k + 1))=valsOf (ps.take k)++addV o:=by
 have hk:=(List.getElem?_eq_some_iff.1 h).1
 unfold valsOf
 rw [List.take_succ_eq_append_getElem hk,(List.getElem?_eq_some_iff.1 h).2,List.filterMap_append,List.map_append]
 cases o <;> rfl
theorem valsOf_len (ps : List PV) : (valsOf ps).length≤ps.length:=by
 unfold valsOf
 rw [List.length_map]
 exact List.length_filterMap_le _ _
set_option linter.unusedSimpArgs false in
theorem pJoin (w : World) (A : Option Addr) (c : Nat) (ps : List PV) (hp : ∀ (i : Nat) (o : PV),ps[i]?=some o→∃ g,A=some ⟨g,0,none⟩∧g < w.heap.size∧w.cell? ⟨g,i,none⟩=some (ptrV o))
  (hb : ∀ (b : Nat) (sv : Value),some (b,sv) ∈ ps→w.heap[b]?=some (.cells #[sv] 105 (0,0))∧sv.oneCell'=true) (hn : ps.length≤1000) :
  Calls Tryz.prog 16 #[.slice A ps.length c] w fun e w'=>∃ cv,e=.returned (.pointer (some ⟨w.heap.size,0,none⟩))∧JSt w w' (valsOf ps) cv:=by
 have HP:=Lib.hid hp
 have HB:=Lib.hid hb
 have HS:=Lib.hid (JSt.start w)
 clear hp hb
 go_enter Tryz.func16,Tryz.ntmps16
 go_wp2
 go_loopw [5,10] (fun _ n wr=>∃ (k : Nat) (cv : Value),k≤ps.length∧n=.int .i64 (k : Int)∧Hid (JSt w wr (valsOf (ps.take k)) cv)) (fun _ n _=>ps.length - (intOf n).toNat)
 case atStart=>exact ⟨0,_,by omega,rfl,HS⟩
 case round =>
  clear HS
  obtain ⟨k,cv,hk,rfl,HJ⟩:=hrel
  by_cases hlt : k < ps.length
  ·have i0 : (0 : Int)≤(k : Int):=by omega
   have i1 : (k : Int) < (ps.length : Int):=by omega
   have hget : ps[k]?=some ps[k]:=List.getElem?_eq_getElem hlt
   obtain ⟨g,rfl,hg,hc⟩:=HP.out k _ hget
   have HT:=Lib.hid (valsOf_take hget)
   have HM:=Lib.hid (show ps[k] ∈ ps from List.getElem_mem hlt)
   clear hget
   generalize ps[k]=o at hc HT HM
   have c0 : wr.cell? ⟨g,k,none⟩=some (ptrV o):=(HJ.out.below.cell (p:=⟨g,k,none⟩) hg).trans hc
   clear hc hg
   cases o with
   | none =>
    have HJ2 : Hid (JSt w wr (valsOf (ps.take (k + 1))) cv):=by show JSt _ _ _ _; rw [HT.out]; show JSt w wr (valsOf (ps.take k)++[]) cv; rw [List.append_nil]; exact HJ.out
    have c1 : wr.cell? ⟨g,k,none⟩=some (.pointer none):=c0
    clear HJ HT HM c0
    go_wp2
    go_roundw
    case rel=>exact ⟨k + 1,cv,by omega,by go_num,HJ2⟩
    case measure=>simp [intOf]; omega
   | some p =>
    obtain ⟨b,sv⟩:=p
    obtain ⟨hbb,hone⟩:=HB.out b sv HM.out
    obtain ⟨ca,cc,rfl,_⟩:=row_form HJ.out.row
    obtain ⟨na,nc,w3,F⟩:=join_step HJ.out hbb hone (by have:=valsOf_len (ps.take k); rw [List.length_take] at this; omega)
    have s0:=Lib.hid F.s0
    have s1:=Lib.hid F.s1
    have s2:=Lib.hid F.s2
    have s3:=Lib.hid F.s3
    have HR:=Lib.hid F.run
    have HFIN : Hid (JSt w (w3.setCell ⟨w.heap.size,0,none⟩ (.slice na ((valsOf (ps.take k)).length + 1) nc)) (valsOf (ps.take (k + 1))) (.slice na ((valsOf (ps.take k)).length + 1) nc)):=by show JSt _ _ _ _; rw [HT.out]; exact F.fin
    have d1:=F.d1
    have d2 : (wr.alloc (.cells #[sv] 105)).cell? ⟨w.heap.size,0,none⟩=some (.slice ca (valsOf (ps.take k)).length cc):=F.d2
    have d3:=F.d3
    have d4:=F.d4
    have c1 : wr.cell? ⟨g,k,none⟩=some (.pointer (some ⟨b,0,none⟩)):=c0
    clear F HJ HT HM c0 hbb hone
    go_wp2_with fail
    clear c1
    refine wp_region_noPanic ?_
    refine wp_region_held_drew (S:=(fun w'=>w'.cell? ⟨b,0,none⟩=some sv)) (by kernel_rfl) s0.out (fun hHeld=>?_)
    refine wpAnyH_take (i:=0) (v:=?v1) rfl (by kernel_rfl) (by kernel_rfl) (by kernel_rfl) (fun _ _ _ h=>h) (Or.inl ⟨by rfl,?hy1⟩) (by assumption) ?rest1
    case hy1=>(intro w hSw; (try dsimp only at hSw); go_simp; try with_reducible rfl)
    (try simp only [Act.put,List.getElem_toArray,List.getElem_cons_succ,List.getElem_cons_zero,List.setIfInBounds_toArray,List.set_cons_zero,List.set_cons_succ])
    refine wpAnyH_take (i:=1) (v:=?v2) rfl (by kernel_rfl) (by kernel_rfl) (by kernel_rfl) (fun _ _ _ h=>h) (Or.inl ⟨by rfl,?hy2⟩) (by assumption) ?rest2
    case hy2=>(intro w hSw; (try dsimp only at hSw); go_simp; try with_reducible rfl)
    (try simp only [Act.put,List.getElem_toArray,List.getElem_cons_succ,List.getElem_cons_zero,List.setIfInBounds_toArray,List.set_cons_zero,List.set_cons_succ])
    refine wpAnyH_take (i:=2) (v:=?v3) rfl (by kernel_rfl) (by kernel_rfl) (by kernel_rfl) (fun _ _ _ h=>h) (Or.inl ⟨by rfl,?hy3⟩) (by assumption) ?rest3
    case hy3=>(intro w hSw; (try dsimp only at hSw); go_simp; try with_reducible rfl)
    (try simp only [Act.put,List.getElem_toArray,List.getElem_cons_succ,List.getElem_cons_zero,List.setIfInBounds_toArray,List.set_cons_zero,List.set_cons_succ])
    refine wpAnyH_take (i:=3) (v:=?v4) rfl (by kernel_rfl) (by kernel_rfl) (by kernel_rfl) (fun _ _ _ h=>h) (Or.inl ⟨by rfl,?hy4⟩) (by assumption) ?rest4
    case hy4=>(intro w hSw; (try dsimp only at hSw); go_simp; try with_reducible rfl)
    (try simp only [Act.put,List.getElem_toArray,List.getElem_cons_succ,List.getElem_cons_zero,List.setIfInBounds_toArray,List.set_cons_zero,List.set_cons_succ])
    refine wpAnyH_take (i:=5) (v:=?v5) rfl (by kernel_rfl) (by kernel_rfl) (by kernel_rfl) (fun _ _ _ h=>h) (Or.inl ⟨by rfl,?hy5⟩) (by assumption) ?rest5
    case hy5=>(intro w hSw; (try dsimp only at hSw); go_simp; try with_reducible rfl)
    (try simp only [Act.put,List.getElem_toArray,List.getElem_cons_succ,List.getElem_cons_zero,List.setIfInBounds_toArray,List.set_cons_zero,List.set_cons_succ])
    refine wpAnyH_take (i:=6) (v:=?v6) rfl (by kernel_rfl) (by kernel_rfl) (by kernel_rfl) (fun _ _ _ h=>h) (Or.inl ⟨by rfl,?hy6⟩) (by assumption) ?rest6
    case hy6=>(intro w hSw; (try dsimp only at hSw); go_simp; try with_reducible rfl)
    (try simp only [Act.put,List.getElem_toArray,List.getElem_cons_succ,List.getElem_cons_zero,List.setIfInBounds_toArray,List.set_cons_zero,List.set_cons_succ])
    refine wpAnyH_take (i:=7) (v:=?v7) rfl (by kernel_rfl) (by kernel_rfl) (by kernel_rfl) (fun _ _ _ h=>h) (Or.inl ⟨by rfl,?hy7⟩) (by assumption) ?rest7
    case hy7=>(intro w hSw; (try dsimp only at hSw); go_simp; try with_reducible rfl)
    (try simp only [Act.put,List.getElem_toArray,List.getElem_cons_succ,List.getElem_cons_zero,List.setIfInBounds_toArray,List.set_cons_zero,List.set_cons_succ])
    refine wpAnyH_ready (rs:=[4,8]) (by kernel_rfl) (by simp) ?_
    refine AllReadyH.cons rfl (fun K hK=>?_) ?_
    ·go_simp
     refine hK.out _ _ (by (first | exact s0.out | exact s1.out | exact s2.out | exact s3.out)) (fun hHeld=>?_)
     clear hK K
     (try simp only [Act.put,List.getElem_toArray,List.getElem_cons_succ,List.getElem_cons_zero,List.setIfInBounds_toArray,List.set_cons_zero,List.set_cons_succ])
     refine wpAnyH_ready (rs:=[8]) (by kernel_rfl) (by simp) ?_
     refine AllReadyH.cons rfl (fun K hK=>?_) ?_
     ·go_simp
      refine hK.out _ _ (by (first | exact s0.out | exact s1.out | exact s2.out | exact s3.out)) (fun hHeld=>?_)
      clear hK K
      (try simp only [Act.put,List.getElem_toArray,List.getElem_cons_succ,List.getElem_cons_zero,List.setIfInBounds_toArray,List.set_cons_zero,List.set_cons_succ])
      refine wpAnyH_ready (rs:=[9]) (by kernel_rfl) (by simp) ?_
      refine AllReadyH.cons rfl (fun K hK=>?_) ?_
      ·refine step_append_run rfl (.tmp 20) (.tmp 24) 101 rfl _ _ _ _ (by simp [Act.eval,Act.put]) (by simp [Act.eval,Act.put]) 101 rfl HR.out ?_
       refine hK.out _ _ (by (first | exact s0.out | exact s1.out | exact s2.out | exact s3.out)) (fun hHeld=>?_)
       clear hK K
       (try simp only [Act.put,List.getElem_toArray,List.getElem_cons_succ,List.getElem_cons_zero,List.setIfInBounds_toArray,List.set_cons_zero,List.set_cons_succ])
       refine wpAnyH_take (i:=10) (v:=?v8) rfl (by kernel_rfl) (by kernel_rfl) (by kernel_rfl) (fun _ _ _ h=>h) (Or.inl ⟨by rfl,?hy8⟩) (by assumption) ?rest8
       case hy8=>(intro w hSw; (try dsimp only at hSw); go_simp; try with_reducible rfl)
       (try simp only [Act.put,List.getElem_toArray,List.getElem_cons_succ,List.getElem_cons_zero,List.setIfInBounds_toArray,List.set_cons_zero,List.set_cons_succ])
       refine wpAnyH_take (i:=11) (v:=?v9) rfl (by kernel_rfl) (by kernel_rfl) (by kernel_rfl) (fun _ _ _ h=>h) (Or.inl ⟨by rfl,?hy9⟩) (by assumption) ?rest9
       case hy9=>(intro w hSw; (try dsimp only at hSw); go_simp; try with_reducible rfl)
       (try simp only [Act.put,List.getElem_toArray,List.getElem_cons_succ,List.getElem_cons_zero,List.setIfInBounds_toArray,List.set_cons_zero,List.set_cons_succ])
       refine wpAnyH_ready (rs:=[12]) (by kernel_rfl) (by simp) ?_
       refine AllReadyH.cons rfl (fun K hK=>?_) ?_
       ·go_simp
        refine hK.out _ _ (by (first | exact s0.out | exact s1.out | exact s2.out | exact s3.out)) (fun hHeld=>?_)
        clear hK K
        (try simp only [Act.put,List.getElem_toArray,List.getElem_cons_succ,List.getElem_cons_zero,List.setIfInBounds_toArray,List.set_cons_zero,List.set_cons_succ])
        refine wpAnyH_done (by kernel_rfl) ?_ _
        refine NoPanic.normal ?_
        go_wp2
        go_roundw
        case rel=>exact ⟨k + 1,_,by omega,by go_num,HFIN⟩
        case measure=>simp [intOf]; omega
       exact AllReadyH.nil
      exact AllReadyH.nil
     exact AllReadyH.nil
    refine AllReadyH.cons rfl (fun K hK=>?_) ?_
    ·go_simp
     refine hK.out _ _ (by (first | exact s0.out | exact s1.out | exact s2.out | exact s3.out)) (fun hHeld=>?_)
     clear hK K
     (try simp only [Act.put,List.getElem_toArray,List.getElem_cons_succ,List.getElem_cons_zero,List.setIfInBounds_toArray,List.set_cons_zero,List.set_cons_succ])
     refine wpAnyH_ready (rs:=[4]) (by kernel_rfl) (by simp) ?_
     refine AllReadyH.cons rfl (fun K hK=>?_) ?_
     ·go_simp
      refine hK.out _ _ (by (first | exact s0.out | exact s1.out | exact s2.out | exact s3.out)) (fun hHeld=>?_)
      clear hK K
      (try simp only [Act.put,List.getElem_toArray,List.getElem_cons_succ,List.getElem_cons_zero,List.setIfInBounds_toArray,List.set_cons_zero,List.set_cons_succ])
      refine wpAnyH_ready (rs:=[9]) (by kernel_rfl) (by simp) ?_
      refine AllReadyH.cons rfl (fun K hK=>?_) ?_
      ·refine step_append_run rfl (.tmp 20) (.tmp 24) 101 rfl _ _ _ _ (by simp [Act.eval,Act.put]) (by simp [Act.eval,Act.put]) 101 rfl HR.out ?_
       refine hK.out _ _ (by (first | exact s0.out | exact s1.out | exact s2.out | exact s3.out)) (fun hHeld=>?_)
       clear hK K
       (try simp only [Act.put,List.getElem_toArray,List.getElem_cons_succ,List.getElem_cons_zero,List.setIfInBounds_toArray,List.set_cons_zero,List.set_cons_succ])
       refine wpAnyH_take (i:=10) (v:=?v10) rfl (by kernel_rfl) (by kernel_rfl) (by kernel_rfl) (fun _ _ _ h=>h) (Or.inl ⟨by rfl,?hy10⟩) (by assumption) ?rest10
       case hy10=>(intro w hSw; (try dsimp only at hSw); go_simp; try with_reducible rfl)
       (try simp only [Act.put,List.getElem_toArray,List.getElem_cons_succ,List.getElem_cons_zero,List.setIfInBounds_toArray,List.set_cons_zero,List.set_cons_succ])
       refine wpAnyH_take (i:=11) (v:=?v11) rfl (by kernel_rfl) (by kernel_rfl) (by kernel_rfl) (fun _ _ _ h=>h) (Or.inl ⟨by rfl,?hy11⟩) (by assumption) ?rest11
       case hy11=>(intro w hSw; (try dsimp only at hSw); go_simp; try with_reducible rfl)
       (try simp only [Act.put,List.getElem_toArray,List.getElem_cons_succ,List.getElem_cons_zero,List.setIfInBounds_toArray,List.set_cons_zero,List.set_cons_succ])
       refine wpAnyH_ready (rs:=[12]) (by kernel_rfl) (by simp) ?_
       refine AllReadyH.cons rfl (fun K hK=>?_) ?_
       ·go_simp
        refine hK.out _ _ (by (first | exact s0.out | exact s1.out | exact s2.out | exact s3.out)) (fun hHeld=>?_)
        clear hK K
        (try simp only [Act.put,List.getElem_toArray,List.getElem_cons_succ,List.getElem_cons_zero,List.setIfInBounds_toArray,List.set_cons_zero,List.set_cons_succ])
        refine wpAnyH_done (by kernel_rfl) ?_ _
        refine NoPanic.normal ?_
        go_wp2
        go_roundw
        case rel=>exact ⟨k + 1,_,by omega,by go_num,HFIN⟩
        case measure=>simp [intOf]; omega
       exact AllReadyH.nil
      exact AllReadyH.nil
     exact AllReadyH.nil
    exact AllReadyH.nil
  ·have i1 : ¬ (k : Int) < (ps.length : Int):=by omega
   have HJ2 : Hid (JSt w wr (valsOf ps) cv):=by show JSt _ _ _ _; rw [← List.take_of_length_le (i:=k) (l:=ps) (by omega)]; exact HJ.out
   clear HJ
   go_wp2
   go_ret
   exact ⟨rfl,cv,HJ2.out⟩
end Go.Proofs.YtghnopkgcgfcpaaGreatDoor.Table
set_option maxHeartbeats 16000000
set_option maxRecDepth 100000
namespace Go.Proofs.YtghnopkgcgfcpaaGreatDoor.Table
open Go.RowKit Base
theorem pCA (cb : Nat) (Ts : List (List KV)) (k l : ByteArray) (w : World) (h : ChainAt w cb Ts) (hn : Ts.length≤1000000) (hG : ∀ T ∈ Ts,Good T) (hs : k.size≤140737488355328) (hs2 : l.size≤140737488355328) :
  Calls Tryz.prog 54 #[.pointer (some ⟨cb,0,none⟩),.string k,.string l] w (AnsEnd (firstA (fun T=>addrA T k.data.toList l.data.toList) Ts) w):=by
 have HC : Hid (Calls Tryz.prog 84 #[.pointer (some ⟨cb,0,none⟩),.func (.func 85) #[] #[.pointer (some ⟨w.heap.size,0,none⟩),.pointer (some ⟨w.heap.size + 1,0,none⟩)]] ((w.alloc (.cells #[.string k] 9)).alloc (.cells #[.string l] 9)) (AnsEnd (firstA (fun T=>addrA T k.data.toList l.data.toList) Ts) ((w.alloc (.cells #[.string k] 9)).alloc (.cells #[.string l] 9)))):=by
  refine pFirstA cb w.heap.size (w.heap.size + 1) _ Ts _ (h.on ((Below.alloc1 w _).alloc (by simp) _)) hn ?_
  intro w1 g i T hb hT htc
  have hg:=hG T (List.mem_of_getElem? hT)
  have hask:=pAsksO htc hg.rise hg.short (by have:=hg.few; omega)
  refine pCloA g i w.heap.size (w.heap.size + 1) k l w1 _ (cell_of_row w1 w.heap.size 0 _ _ _ ((hb.block w.heap.size (by simp; omega)).trans (heap_two0 w _ _))) (cell_of_row w1 (w.heap.size + 1) 0 _ _ _ ((hb.block (w.heap.size + 1) (by simp)).trans (heap_two1 w _ _))) ?_
  intro w2 hb2
  exact pAddressO g i T k l w2 (fun w3 key hb3 hs3=>hask w3 key (hb2.trans (hb3.mono hb2.size)) hs3) hs hs2
 have HB0 : Hid (Below w.heap.size w ((w.alloc (.cells #[.string k] 9)).alloc (.cells #[.string l] 9))):=(Below.alloc1 w _).alloc (by simp) _
 generalize (firstA (fun T=>addrA T k.data.toList l.data.toList) Ts)=fin at HC
 clear h hn hG hs hs2
 go_enter Tryz.func54,Tryz.ntmps54
 go_wp2_with (first | (go_at_call 84; refine HC.out.mono ?_; rintro e w1 ⟨rfl,hb1⟩; refine Hid.out ?_) | fail)
 refine Lib.hid ?_
 have HB1:=Lib.hid (HB0.out.trans (hb1.mono HB0.out.size))
 clear hb1
 go_wp2
 go_ret2
 exact ⟨rfl,HB1.out⟩
end Go.Proofs.YtghnopkgcgfcpaaGreatDoor.Table
set_option maxHeartbeats 16000000
set_option maxRecDepth 100000
namespace Go.Proofs.YtghnopkgcgfcpaaGreatDoor.Table
open Go.RowKit Base
abbrev PT:=Option (Nat × List KV)
def ptrT : PT→Value
 | none=>.pointer none
 | some p=>.pointer (some ⟨p.1,0,none⟩)
def tabsOf (qs : List PT) : List (List KV):=(qs.filterMap id).map Prod.snd
def PRow (w : World) (A : Option Addr) (qs : List PT) : Prop:=∀ (i : Nat) (o : PT),qs[i]?=some o→∃ g,A=some ⟨g,0,none⟩∧g < w.heap.size∧w.cell? ⟨g,i,none⟩=some (ptrT o)
def PTabs (ty : TypeId) (w : World) (qs : List PT) : Prop:=∀ (b : Nat) (T : List KV),some (b,T) ∈ qs→TabAt ty w b T∧Good T
theorem PRow.on {w w' : World} {A : Option Addr} {qs : List PT} (h : PRow w A qs) (hb : Below w.heap.size w w') : PRow w' A qs:=fun i o ho=>by
 obtain ⟨g,h1,h2,h3⟩:=h i o ho
 exact ⟨g,h1,Nat.lt_of_lt_of_le h2 hb.size,(hb.cell (p:=⟨g,i,none⟩) h2).trans h3⟩
theorem PTabs.on {ty : TypeId} {w w' : World} {qs : List PT} (h : PTabs ty w qs) (hb : Below w.heap.size w w') : PTabs ty w' qs:=fun b T hm=>⟨(h b T hm).1.on hb,(h b T hm).2⟩
theorem tabs_none {qs : List PT} {k : Nat} (h : qs[k]?=some none) : tabsOf (qs.drop k)=tabsOf (qs.drop (k + 1)):=by
 have hk:=(List.getElem?_eq_some_iff.1 h).1
 unfold tabsOf
 rw [List.drop_eq_getElem_cons hk,(List.getElem?_eq_some_iff.1 h).2]; rfl
theorem tabs_some {qs : List PT} {k b : Nat} {T : List KV} (h : qs[k]?=some (some (b,T))) : tabsOf (qs.drop k)=T :: tabsOf (qs.drop (k + 1)):=by
 have hk:=(List.getElem?_eq_some_iff.1 h).1
 unfold tabsOf
 rw [List.drop_eq_getElem_cons hk,(List.getElem?_eq_some_iff.1 h).2]; rfl
theorem rAskE (A : Option Addr) (c : Nat) (qs : List PT) (a : ByteArray) (w : World) (hrow : PRow w A qs) (htab : PTabs 62 w qs) (hn : qs.length≤1000) (hs : a.size≤140737488355328) :
  Calls Tryz.prog 12 #[.slice A qs.length c,.int .i64 0,.string a,.string ⟨#[]⟩] w (AnsEnd (firstA (fun T=>exactA T a.data.toList) (tabsOf qs)) w):=by
 obtain ⟨ask,hask⟩ : ∃ ask : List KV→Ans,ask=fun T=>exactA T a.data.toList:=⟨_,rfl⟩
 have HA : Hid (∀ (w1 : World) (b0 : Nat) (T : List KV),Below w.heap.size w w1→TabAt 62 w1 b0 T→Good T→Calls Tryz.prog 29 #[.pointer (some ⟨b0,0,none⟩),.string a] w1 (AnsEnd (ask T) w1)):=fun w1 b0 T _ ht hg=>by
  rw [hask]
  exact rExact b0 T a w1 ht hg.rise (by have:=hg.few; omega) (by omega)
 rw [← hask]
 clear hask
 obtain ⟨fin,hfin⟩ : ∃ fin,fin=firstA ask (tabsOf qs):=⟨_,rfl⟩
 have HF0 : Hid (firstA ask (tabsOf (qs.drop 0))=fin):=by show _=_; rw [hfin]; rfl
 rw [← hfin]
 clear hfin hs
 have HR:=Lib.hid hrow
 have HT:=Lib.hid htab
 clear hrow htab
 go_enter Tryz.func12,Tryz.ntmps12
 go_wp2
 go_loopw [10,11,12] (fun n _ _ wr=>∃ k : Nat,k≤qs.length∧n=.int .i64 (k : Int)∧Hid (firstA ask (tabsOf (qs.drop k))=fin)∧Hid (Below w.heap.size w wr)) (fun n _ _ _=>qs.length - (intOf n).toNat)
 case atStart=>exact ⟨0,by omega,rfl,HF0,Below.refl _ _⟩
 case round =>
  clear HF0
  obtain ⟨k,hk,rfl,HG,HB⟩:=hrel
  by_cases hlt : k < qs.length
  ·have hget : qs[k]?=some qs[k]:=List.getElem?_eq_getElem hlt
   have i0 : (0 : Int)≤(k : Int):=by omega
   have i1 : (k : Int) < (qs.length : Int):=by omega
   obtain ⟨g,hA,hgl,hc⟩:=(HR.out.on HB.out) k _ hget
   subst hA
   have HM:=Lib.hid (show qs[k] ∈ qs from List.getElem_mem hlt)
   cases ho : qs[k] with
   | none =>
    rw [ho] at hget hc
    have HG2 : Hid (firstA ask (tabsOf (qs.drop (k + 1)))=fin):=by show _=_; rw [← tabs_none hget]; exact HG.out
    have c1 : wr.cell? ⟨g,k,none⟩=some (.pointer none):=hc
    clear HG hc hget HM hgl ho
    go_wp2
    go_roundw
    case rel=>exact ⟨k + 1,by omega,by go_num,HG2,HB⟩
    case measure=>simp [intOf]; omega
   | some p =>
    obtain ⟨b0,T⟩:=p
    rw [ho] at hget hc HM
    have c1 : wr.cell? ⟨g,k,none⟩=some (.pointer (some ⟨b0,0,none⟩)):=hc
    obtain ⟨ht,hgd⟩:=(HT.out.on HB.out) b0 T HM.out
    have HC : Hid (Calls Tryz.prog 29 #[.pointer (some ⟨b0,0,none⟩),.string a] wr (AnsEnd (ask T) wr)):=HA.out wr b0 T HB.out ht hgd
    have HG2 : Hid ((if (ask T).2=true then ask T else firstA ask (tabsOf (qs.drop (k + 1))))=fin):=by
     show _=_
     rw [← HG.out,tabs_some hget]; rfl
    clear ht hgd HG hc hget HM hgl ho
    generalize ask T=r at HC HG2
    obtain ⟨av,ai⟩:=r
    cases ai
    ·have HG3 : Hid (firstA ask (tabsOf (qs.drop (k + 1)))=fin):=by show _=_; rw [← HG2.out,if_neg (by simp)]
     clear HG2
     go_wp2_with (first | (go_at_call 29; refine HC.out.mono ?_; rintro e w2 ⟨rfl,hb2⟩; refine Hid.out ?_) | fail)
     refine Lib.hid ?_
     have HB2:=Lib.hid (HB.out.trans (hb2.mono HB.out.size))
     clear hb2
     go_wp2
     go_roundw
     case rel=>exact ⟨k + 1,by omega,by go_num,HG3,HB2⟩
     case measure=>simp [intOf]; omega
    ·have HG3 : Hid ((av,true)=fin):=by show _=_; rw [← HG2.out,if_pos rfl]
     clear HG2
     go_wp2_with (first | (go_at_call 29; refine HC.out.mono ?_; rintro e w2 ⟨rfl,hb2⟩; refine Hid.out ?_) | fail)
     refine Lib.hid ?_
     have HB2:=Lib.hid (HB.out.trans (hb2.mono HB.out.size))
     clear hb2
     go_wp2
     go_ret2
     exact ⟨by rw [← HG3.out]; rfl,HB2.out⟩
  ·have i1 : ¬ (k : Int) < (qs.length : Int):=by omega
   have HG3 : Hid (([],false)=fin):=by show _=_; rw [← HG.out,List.drop_eq_nil_of_le (by omega)]; rfl
   clear HG
   go_wp2
   go_ret2
   exact ⟨by rw [← HG3.out]; rfl,HB.out⟩
theorem rAskA (A : Option Addr) (c : Nat) (qs : List PT) (a b : ByteArray) (w : World) (hrow : PRow w A qs) (htab : PTabs 62 w qs) (hn : qs.length≤1000) (hs : a.size≤140737488355328) (hs2 : b.size≤140737488355328) :
  Calls Tryz.prog 12 #[.slice A qs.length c,.int .i64 1,.string a,.string b] w (AnsEnd (firstA (fun T=>addrA T a.data.toList b.data.toList) (tabsOf qs)) w):=by
 obtain ⟨ask,hask⟩ : ∃ ask : List KV→Ans,ask=fun T=>addrA T a.data.toList b.data.toList:=⟨_,rfl⟩
 have HA : Hid (∀ (w1 : World) (b0 : Nat) (T : List KV),Below w.heap.size w w1→TabAt 62 w1 b0 T→Good T→Calls Tryz.prog 30 #[.pointer (some ⟨b0,0,none⟩),.string a,.string b] w1 (AnsEnd (ask T) w1)):=fun w1 b0 T _ ht hg=>by
  rw [hask]
  have:=rAsks ht hg.rise (by have:=hg.few; omega)
  exact rAddress b0 T a b w1 this hs hs2
 rw [← hask]
 clear hask
 obtain ⟨fin,hfin⟩ : ∃ fin,fin=firstA ask (tabsOf qs):=⟨_,rfl⟩
 have HF0 : Hid (firstA ask (tabsOf (qs.drop 0))=fin):=by show _=_; rw [hfin]; rfl
 rw [← hfin]
 clear hfin hs hs2
 have HR:=Lib.hid hrow
 have HT:=Lib.hid htab
 clear hrow htab
 go_enter Tryz.func12,Tryz.ntmps12
 go_wp2
 go_loopw [10,11,12] (fun n _ _ wr=>∃ k : Nat,k≤qs.length∧n=.int .i64 (k : Int)∧Hid (firstA ask (tabsOf (qs.drop k))=fin)∧Hid (Below w.heap.size w wr)) (fun n _ _ _=>qs.length - (intOf n).toNat)
 case atStart=>exact ⟨0,by omega,rfl,HF0,Below.refl _ _⟩
 case round =>
  clear HF0
  obtain ⟨k,hk,rfl,HG,HB⟩:=hrel
  by_cases hlt : k < qs.length
  ·have hget : qs[k]?=some qs[k]:=List.getElem?_eq_getElem hlt
   have i0 : (0 : Int)≤(k : Int):=by omega
   have i1 : (k : Int) < (qs.length : Int):=by omega
   obtain ⟨g,hA,hgl,hc⟩:=(HR.out.on HB.out) k _ hget
   subst hA
   have HM:=Lib.hid (show qs[k] ∈ qs from List.getElem_mem hlt)
   cases ho : qs[k] with
   | none =>
    rw [ho] at hget hc
    have HG2 : Hid (firstA ask (tabsOf (qs.drop (k + 1)))=fin):=by show _=_; rw [← tabs_none hget]; exact HG.out
    have c1 : wr.cell? ⟨g,k,none⟩=some (.pointer none):=hc
    clear HG hc hget HM hgl ho
    go_wp2
    go_roundw
    case rel=>exact ⟨k + 1,by omega,by go_num,HG2,HB⟩
    case measure=>simp [intOf]; omega
   | some p =>
    obtain ⟨b0,T⟩:=p
    rw [ho] at hget hc HM
    have c1 : wr.cell? ⟨g,k,none⟩=some (.pointer (some ⟨b0,0,none⟩)):=hc
    obtain ⟨ht,hgd⟩:=(HT.out.on HB.out) b0 T HM.out
    have HC : Hid (Calls Tryz.prog 30 #[.pointer (some ⟨b0,0,none⟩),.string a,.string b] wr (AnsEnd (ask T) wr)):=HA.out wr b0 T HB.out ht hgd
    have HG2 : Hid ((if (ask T).2=true then ask T else firstA ask (tabsOf (qs.drop (k + 1))))=fin):=by
     show _=_
     rw [← HG.out,tabs_some hget]; rfl
    clear ht hgd HG hc hget HM hgl ho
    generalize ask T=r at HC HG2
    obtain ⟨av,ai⟩:=r
    cases ai
    ·have HG3 : Hid (firstA ask (tabsOf (qs.drop (k + 1)))=fin):=by show _=_; rw [← HG2.out,if_neg (by simp)]
     clear HG2
     go_wp2_with (first | (go_at_call 30; refine HC.out.mono ?_; rintro e w2 ⟨rfl,hb2⟩; refine Hid.out ?_) | fail)
     refine Lib.hid ?_
     have HB2:=Lib.hid (HB.out.trans (hb2.mono HB.out.size))
     clear hb2
     go_wp2
     go_roundw
     case rel=>exact ⟨k + 1,by omega,by go_num,HG3,HB2⟩
     case measure=>simp [intOf]; omega
    ·have HG3 : Hid ((av,true)=fin):=by show _=_; rw [← HG2.out,if_pos rfl]
     clear HG2
     go_wp2_with (first | (go_at_call 30; refine HC.out.mono ?_; rintro e w2 ⟨rfl,hb2⟩; refine Hid.out ?_) | fail)
     refine Lib.hid ?_
     have HB2:=Lib.hid (HB.out.trans (hb2.mono HB.out.size))
     clear hb2
     go_wp2
     go_ret2
     exact ⟨by rw [← HG3.out]; rfl,HB2.out⟩
  ·have i1 : ¬ (k : Int) < (qs.length : Int):=by omega
   have HG3 : Hid (([],false)=fin):=by show _=_; rw [← HG.out,List.drop_eq_nil_of_le (by omega)]; rfl
   clear HG
   go_wp2
   go_ret2
   exact ⟨by rw [← HG3.out]; rfl,HB.out⟩
end Go.Proofs.YtghnopkgcgfcpaaGreatDoor.Table
