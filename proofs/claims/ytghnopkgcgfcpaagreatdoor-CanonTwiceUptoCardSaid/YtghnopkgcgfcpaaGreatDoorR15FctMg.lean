/-
  MERGED by mergefill.py: R15Fct, R15LwP, R15Frm.
-/
import Derived.Test.YtghnopkgcgfcpaaGreatDoorR15PthMg
import Derived.Test.YtghnopkgcgfcpaaGreatDoorCanNewMg
import Derived.Test.YtghnopkgcgfcpaaGreatDoorRows
import Derived.ProofKit
import Derived.OpenShut
import Derived.ShutString
import Derived.ChangeOld
import Derived.Deep.DeepHandedRow
import Derived.Lib.LaidTab
import Derived.Stop.LaidErr
import Derived.MakeChecks
import Derived.LaidMore
import Derived.Shelf.Vars
import Derived.Lay
import Derived.PinnedBridge
import Derived.Deep.Slices
import Derived.Deep.Strs
import Derived.Deep.Fields
import Derived.Deep.Matrix
import Derived.Deep.Grids
import Derived.Lib.SmallJoins
namespace Go.Proofs.YtghnopkgcgfcpaaGreatDoor.Path
open Go.RowKit Base
theorem first_mem (ask : List Table.KV→Table.Ans) : ∀ (Ts : List (List Table.KV)),(Table.firstA ask Ts).2=true→∃ T ∈ Ts,Table.firstA ask Ts=ask T∧(ask T).2=true
 | [],h=>by cases h
 | T :: r,h=>by
  unfold Table.firstA at h ⊢
  by_cases ht : (ask T).2=true
  ·rw [if_pos ht]
   exact ⟨T,List.mem_cons_self,rfl,ht⟩
  ·rw [if_neg ht] at h ⊢
   obtain ⟨U,h1,h2,h3⟩:=first_mem ask r h
   exact ⟨U,List.mem_cons_of_mem _ h1,h2,h3⟩
theorem exact_mem {T : List Table.KV} {key : List UInt8} (h : (Table.exactA T key).2=true) : ∃ p ∈ T,(Table.exactA T key).1=p.2:=by
 unfold Table.exactA at h ⊢
 rcases Table.has_cases T (Table.lower key) with ⟨h1,_⟩ | ⟨p,h1,_,_,h4⟩
 ·rw [h1] at h; cases h
 ·exact ⟨p,List.mem_of_getElem? h1,h4⟩
theorem ask_mem {Ts : List (List Table.KV)} {l d : ByteArray} (h : (askR Ts l d).2=true) : ∃ T ∈ Ts,∃ p ∈ T,(askR Ts l d).1=p.2:=by
 unfold askR at h ⊢
 obtain ⟨T,h1,h2,h3⟩:=first_mem _ Ts h
 rw [h2]
 unfold Table.addrA at h3 ⊢
 split
 ·rename_i hx
  obtain ⟨p,q1,q2⟩:=exact_mem hx
  exact ⟨T,h1,p,q1,q2⟩
 ·rename_i hx
  rw [if_neg hx] at h3
  obtain ⟨p,q1,q2⟩:=exact_mem h3
  exact ⟨T,h1,p,q1,q2⟩
theorem tabs_mem {L : LitF} {f : ByteArray→ByteArray} : ∀ {Xs : List ByteArray} {Ts : List (List Table.KV)},tabsOf L f Xs=some Ts→∀ T ∈ Ts,∃ s ∈ Xs,T=(Table.parseOf s.data.toList).1∧valsB L f T=true
 | [],Ts,h,T,hT=>by cases h; cases hT
 | s :: r,Ts,h,T,hT=>by
  unfold tabsOf at h
  split at h
  ·rename_i hx
   cases hr : tabsOf L f r with
   | none=>rw [hr] at h; cases h
   | some l =>
    rw [hr] at h
    cases h
    rcases List.mem_cons.1 hT with rfl | hT
    ·exact ⟨s,List.mem_cons_self,rfl,hx.2⟩
    ·obtain ⟨u,h1,h2,h3⟩:=tabs_mem hr T hT
     exact ⟨u,List.mem_cons_of_mem _ h1,h2,h3⟩
  ·cases h
theorem run_short : ∀ (es : List Table.Ent) (a c : Nat) (T : List Table.KV),(∀ p ∈ T,p.2.length≤1000)→∀ p ∈ (Table.runE es a c T).1,p.2.length≤1000
 | [],_,_,_,h=>h
 | e :: r,a,c,T,h=>by
  unfold Table.runE
  split
  ·split
   ·rename_i hw
    refine run_short r _ _ _ ?_
    intro p hp
    unfold Table.insKV at hp
    rcases List.mem_append.1 hp with hp | hp
    ·exact h p (List.mem_of_mem_take hp)
    ·rcases List.mem_cons.1 hp with rfl | hp
     ·unfold Table.wrongE at hw
      split at hw
      ·cases hw
      ·rename_i hx
       rcases Nat.lt_or_ge 1000 (Table.kvOf e).2.length with hlt | hge
       ·exact absurd (Or.inr (Or.inr hlt)) hx
       ·exact hge
     ·exact h p (List.mem_of_mem_drop hp)
   ·exact run_short r _ _ _ h
  ·exact h
theorem parse_short (l : List UInt8) : ∀ p ∈ (Table.parseOf l).1,p.2.length≤1000:=by
 unfold Table.parseOf
 split
 ·intro p hp; cases hp
 ·exact run_short _ _ _ _ (fun p hp=>by cases hp)
theorem hst_short (s : ByteArray) (j : Nat) : (hst litL s j).2.2.2.size≤s.size + 50:=by
 unfold hst
 split
 ·show (litL s (j + 1)).2.2.size≤_
  unfold litL
  generalize s.extract (j + 1) (j + 1 + rowN notBr s (j + 1))=t
  unfold litB
  have hs:=fun n=>addr_short (s:=litU t) (n:=n)
  generalize Cidr.addrN (litU t)=o at hs ⊢
  cases o with
  | none=>exact Nat.zero_le _
  | some n =>
   simp only []
   split
   ·split
    ·have:=hs n rfl; show (litShow n).size≤_; omega
    ·exact Nat.zero_le _
   ·exact Nat.zero_le _
 ·show (domOf s j (dots nameC labelB s j)).size≤_
  unfold domOf
  split
  ·rw [lowS_size,ByteArray.size_extract]; omega
  ·exact Nat.zero_le _
theorem loc_short (s : ByteArray) : (loc s 0).2.2.size≤s.size:=by
 rcases loc_off s with ⟨_,l2,l3⟩ | ⟨l1,_⟩
 ·have h : (offG s).2 ≠ 0:=by rw [l2]; show (loc s 0).2.1 ≠ 0; omega
  have:=(off_le h).1
  rw [l2] at this
  exact this
 ·have hz : (loc s 0).2.2.size=0:=by
   unfold loc at l1 ⊢
   split
   ·rename_i hq
    rw [if_pos hq] at l1
    have l1 : (quo s (0 + 1) []).1=false:=l1
    unfold strQ
    rw [l1]; rfl
   ·rename_i hq
    rw [if_neg hq] at l1
    have l1 : (dots atomC someB s 0).1=false:=l1
    unfold strOf
    rw [l1]; rfl
  omega
theorem tak_short (s : ByteArray) : (tak litL s).2.loc.size≤s.size + 50∧(tak litL s).2.dom.size≤s.size + 50:=by
 unfold tak
 split
 ·exact ⟨Nat.zero_le _,Nat.zero_le _⟩
 ·rename_i h0
  split
  ·show (mbx litL s 0).2.2.loc.size≤_∧(mbx litL s 0).2.2.dom.size≤_
   have h1:=loc_short s
   have h2:=hst_short s ((loc s 0).2.1 + 1)
   unfold mbx
   generalize hst litL s ((loc s 0).2.1 + 1)=r at h2 ⊢
   split
   ·split
    ·simp only []
     split
     ·exact ⟨Nat.le_trans h1 (by omega),h2⟩
     ·exact ⟨Nat.zero_le _,Nat.zero_le _⟩
    ·split
     ·exact ⟨show 10≤_ by omega,Nat.zero_le _⟩
     ·exact ⟨Nat.zero_le _,Nat.zero_le _⟩
   ·exact ⟨Nat.zero_le _,Nat.zero_le _⟩
  ·exact ⟨Nat.zero_le _,Nat.zero_le _⟩
theorem val_ok (v : ByteArray) (h : v.size≤900000000) : ValOk litL v:=by
 obtain ⟨h1,h2⟩:=tak_short v
 exact ⟨by omega,by omega,by omega⟩
theorem ask_good {Xs : List ByteArray} {Ts : List (List Table.KV)} (h : tabsOf litL locF Xs=some Ts) {l d : ByteArray} (hh : (askR Ts l d).2=true) : (askR Ts l d).1.length≤1000∧(valG ⟨(askR Ts l d).1.toArray⟩).2.2=true:=by
 obtain ⟨T,h1,p,h2,h3⟩:=ask_mem hh
 obtain ⟨s,_,h5,h6⟩:=tabs_mem h T h1
 rw [h3]
 constructor
 ·rw [h5] at h2; exact parse_short _ p h2
 ·rw [(val_same ⟨#[]⟩ _).1]
  exact List.all_eq_true.1 h6 p h2
theorem new_tabs {host : ByteArray} {Xs : List ByteArray} {Ts : List (List Table.KV)} (h : newR litL locF host Xs=(0,Ts)) : tabsOf litL locF Xs=some Ts:=by
 unfold newR at h
 split at h
 ·split at h
  ·rename_i Us hU; injection h with _ h; rw [hU,h]
  ·cases h
 ·cases h
theorem full_le {host : ByteArray} {p : PV} {n : Nat} (hl : p.loc.size≤n) (hd : p.dom.size≤n) (hh : host.size≤n) : (fullR host p).loc.size≤n∧(fullR host p).dom.size≤n:=by
 unfold fullR
 split
 ·exact ⟨hl,hh⟩
 ·exact ⟨hl,hd⟩
theorem named_le {host : ByteArray} {Ts : List (List Table.KV)} {p : PV} {n : Nat} (hn : 2000≤n) (hl : p.loc.size≤n) (hd : p.dom.size≤n) (hh : host.size≤n) (hV : (askR Ts (fullR host p).loc (fullR host p).dom).2=true→(askR Ts (fullR host p).loc (fullR host p).dom).1.length≤1000) : (namedG host Ts p).loc.size≤n∧(namedG host Ts p).dom.size≤n:=by
 obtain ⟨h1,h2⟩:=full_le (host:=host) hl hd hh
 unfold namedG
 split
 ·rename_i hx
  have hv:=hV hx
  have hle:=val_le ⟨(askR Ts (fullR host p).loc (fullR host p).dom).1.toArray⟩
  have hs : (⟨(askR Ts (fullR host p).loc (fullR host p).dom).1.toArray⟩ : ByteArray).size≤1000:=by rw [← str_len]; exact hv
  generalize (⟨(askR Ts (fullR host p).loc (fullR host p).dom).1.toArray⟩ : ByteArray)=v at hle hs ⊢
  generalize valG v=r at hle ⊢
  split
  ·exact ⟨h1,Nat.le_trans hle.2 (by omega)⟩
  ·exact ⟨Nat.le_trans hle.1 (by omega),Nat.le_trans hle.2 (by omega)⟩
 ·exact ⟨h1,h2⟩
end Go.Proofs.YtghnopkgcgfcpaaGreatDoor.Path
set_option maxHeartbeats 16000000
set_option maxRecDepth 100000
namespace Go.Proofs.YtghnopkgcgfcpaaGreatDoor.Path
open Go.RowKit Base
theorem CanonAt.on {w w' : World} {b : Nat} {host : ByteArray} {Ts : List (List Table.KV)} (h : CanonAt w b host Ts) (hb : Below w.heap.size w w') : CanonAt w' b host Ts:=by
 obtain ⟨⟨cb,hbx,hch⟩,hgood,hfew⟩:=h
 exact ⟨⟨cb,(hb.block _ (heap_lt hbx)).trans hbx,hch.on hb⟩,hgood,hfew⟩
def StrsAt (w : World) (A : Option Addr) (Xs : List ByteArray) : Prop:=∀ (i : Nat) (s : ByteArray),Xs[i]?=some s→∃ g o,A=some ⟨g,o,none⟩∧w.cell? ⟨g,o + i,none⟩=some (.string s)
theorem StrsAt.on {w w' : World} {A : Option Addr} {Xs : List ByteArray} (h : StrsAt w A Xs) (hb : Below w.heap.size w w') : StrsAt w' A Xs:=fun i s hs=>by
 obtain ⟨g,o,h1,h2⟩:=h i s hs
 exact ⟨g,o,h1,cell_on h2 hb⟩
theorem both_new {w : World} (he : EnvC w) {host : ByteArray} {A : Option Addr} {c : Nat} {Xs : List ByteArray} (hX : StrsAt w A Xs) (hh : host.size≤100000000) (hXl : Xs.length≤9223372036854775807) (W : World) (hb : Below w.heap.size w W) :
  Calls Tryz.prog 7 #[.string host,.slice A Xs.length c] W (NewEnd W host (newR litL locF host Xs))∧Calls Tryz.prog 8 #[.string host,.slice A Xs.length c] W (NewGEnd W host (newR litL locF host Xs)) :=
 ⟨pNew (lit_ok he.lit) locF_ok host A c Xs W hb (he.max.on hb) (by omega) (hX.on hb) hXl (fun s _ p hp=>val_ok _ (by rw [← str_len]; have:=parse_short s.data.toList p hp; show p.2.length≤_; omega)),
  rNewG host A c Xs W (by omega) (hX.on hb) hXl (fun s _ p hp=>by have:=parse_short s.data.toList p hp; omega)⟩
theorem both_path {w : World} (he : EnvC w) {host : ByteArray} {Xs : List ByteArray} {Ts : List (List Table.KV)} (hT : tabsOf litL locF Xs=some Ts) (p : PV) (hh : host.size≤100000000) (hl : p.loc.size≤100000000) (hd : p.dom.size≤100000000) (W : World) (hb : Below w.heap.size w W) :
  (∀ b,CanonAt W b host Ts→Calls Tryz.prog 9 #[.pointer (some ⟨b,0,none⟩),p.val] W (PvEnd W (canonG host Ts p)))∧(∀ b,CanonG W b host Ts→Calls Tryz.prog 10 #[.pointer (some ⟨b,0,none⟩),p.val] W (PvEnd W (canonG host Ts p))):=by
 have hn:=named_le (host:=host) (Ts:=Ts) (p:=p) (n:=100000000) (by omega) hl hd hh (fun hx=>(ask_good hT hx).1)
 rw [named_same] at hn
 refine ⟨fun b hC=>?_,fun b hC=>?_⟩
 ·rw [canon_same]
  exact pPathC (lit_ok he.lit) locF_ok b host Ts p W hb hC (by omega) (by omega) (by omega) (fun hx=>val_ok _ (by rw [← str_len]; have:=(ask_good hT hx).1; show (askR Ts _ _).1.length≤_; omega)) (by omega) (by omega)
 ·exact rPathG b host Ts p W hC (by omega) (by omega) (by omega) (fun hx=>⟨by have:=(ask_good hT hx).1; omega,(ask_good hT hx).2⟩)
theorem canon_le {host : ByteArray} {Xs : List ByteArray} {Ts : List (List Table.KV)} (hT : tabsOf litL locF Xs=some Ts) {p : PV} (hh : host.size≤100000000) (hl : p.loc.size≤100000000) (hd : p.dom.size≤100000000) : (canonG host Ts p).loc.size≤100000000∧(canonG host Ts p).dom.size≤100000000:=by
 have hn:=named_le (host:=host) (Ts:=Ts) (p:=p) (n:=100000000) (by omega) hl hd hh (fun hx=>(ask_good hT hx).1)
 unfold canonG
 split
 ·exact ⟨hl,hd⟩
 ·split
  ·exact ⟨hl,hd⟩
  ·exact hn
theorem new_no {f : FuncId} {args : Array Value} {W : World} {host : ByteArray} {code : Int} {Ts : List (List Table.KV)} (h : Calls Tryz.prog f args W (NewEnd W host (code,Ts))) (hc : code ≠ 0) : Calls Tryz.prog f args W fun e w'=>e=.returned (.tuple #[.pointer none,.int .i64 code])∧Below W.heap.size W w' :=
 h.mono fun e w' hh=>by
  rcases hh with ⟨h1,⟨_,h2⟩ | ⟨h2,_⟩⟩
  ·exact ⟨h2,h1⟩
  ·exact absurd h2 hc
theorem new_yes {f : FuncId} {args : Array Value} {W : World} {host : ByteArray} {Ts : List (List Table.KV)} (h : Calls Tryz.prog f args W (NewEnd W host (0,Ts))) : Calls Tryz.prog f args W fun e w'=>∃ b,e=.returned (.tuple #[.pointer (some ⟨b,0,none⟩),.int .i64 0])∧CanonAt w' b host Ts∧Below W.heap.size W w' :=
 h.mono fun e w' hh=>by
  rcases hh with ⟨h1,⟨h2,_⟩ | ⟨_,b,h3,h4,_⟩⟩
  ·exact absurd rfl h2
  ·exact ⟨b,h3,h4,h1⟩
theorem newG_no {f : FuncId} {args : Array Value} {W : World} {host : ByteArray} {code : Int} {Ts : List (List Table.KV)} (h : Calls Tryz.prog f args W (NewGEnd W host (code,Ts))) (hc : code ≠ 0) : Calls Tryz.prog f args W fun e w'=>e=.returned (.tuple #[.pointer none,.int .i64 code])∧Below W.heap.size W w' :=
 h.mono fun e w' hh=>by
  rcases hh with ⟨h1,⟨_,h2⟩ | ⟨h2,_⟩⟩
  ·exact ⟨h2,h1⟩
  ·exact absurd h2 hc
theorem newG_yes {f : FuncId} {args : Array Value} {W : World} {host : ByteArray} {Ts : List (List Table.KV)} (h : Calls Tryz.prog f args W (NewGEnd W host (0,Ts))) : Calls Tryz.prog f args W fun e w'=>∃ b,e=.returned (.tuple #[.pointer (some ⟨b,0,none⟩),.int .i64 0])∧CanonG w' b host Ts∧Below W.heap.size W w' :=
 h.mono fun e w' hh=>by
  rcases hh with ⟨h1,⟨h2,_⟩ | ⟨_,b,h3,h4⟩⟩
  ·exact absurd rfl h2
  ·exact ⟨b,h3,h4,h1⟩
def AskedAt (w : World) (b : Nat) (host : ByteArray) (v : Value) : Prop:=w.heap[b]?=some (.cells #[.string host,v] 24 (0,0))
theorem AskedAt.on {w w' : World} {b : Nat} {host : ByteArray} {v : Value} (h : AskedAt w b host v) (hb : Below w.heap.size w w') : AskedAt w' b host v:=(hb.block _ (heap_lt h)).trans h
theorem asked_boxes (w : World) (host : ByteArray) (v : Value) (p : PV) : Below w.heap.size w ((w.alloc (Obj.cells #[Value.string host,v] 24)).alloc (Obj.cells p.cells.toArray 26))∧AskedAt ((w.alloc (Obj.cells #[Value.string host,v] 24)).alloc (Obj.cells p.cells.toArray 26)) w.heap.size host v∧PathAt ((w.alloc (Obj.cells #[Value.string host,v] 24)).alloc (Obj.cells p.cells.toArray 26)) (w.heap.size + 1) p:=by
 have h1 : AskedAt (w.alloc (Obj.cells #[Value.string host,v] 24)) w.heap.size host v:=(MapKept.heap_alloc w _).1
 have hb1:=Below.alloc1 w (Obj.cells #[Value.string host,v] 24)
 have hs : (w.alloc (Obj.cells #[Value.string host,v] 24)).heap.size=w.heap.size + 1:=by unfold World.alloc; simp
 generalize w.alloc (Obj.cells #[Value.string host,v] 24)=w1 at h1 hb1 hs
 have hb2:=Below.alloc1 w1 (Obj.cells p.cells.toArray 26)
 refine ⟨hb1.trans (hb2.mono hb1.size),h1.on hb2,?_⟩
 rw [← hs]
 exact (MapKept.heap_alloc w1 _).1
theorem wPaths (host : ByteArray) (A : Option Addr) (c : Nat) (Xs : List ByteArray) (p : PV) (w : World) (hX : StrsAt w A Xs) (hh : host.size≤100000000) (hXl : Xs.length≤9223372036854775807) (hl : p.loc.size≤100000000) (hd : p.dom.size≤100000000) (he : EnvC w) :
  Calls Tryz.prog 3 #[.agg #[.string host,.slice A Xs.length c],p.val] w fun e w'=>e=.returned (.bool true)∧Below w.heap.size w w':=by
 have C0:=Lib.hid (fun W (hb : Below w.heap.size w W)=>wAwake W (he.on hb))
 have CB:=Lib.hid (fun W hb=>both_new he (c:=c) hX hh hXl W hb)
 have hTs : ∀ Ts,newR litL locF host Xs=(0,Ts)→tabsOf litL locF Xs=some Ts:=fun Ts h=>new_tabs h
 have CQ:=Lib.hid (fun Ts (hT : tabsOf litL locF Xs=some Ts) W hb=>both_path he hT p hh hl hd W hb)
 obtain ⟨hb0,ha0,hp0⟩:=asked_boxes w host (.slice A Xs.length c) p
 clear he hX hXl
 generalize newR litL locF host Xs=r at CB hTs
 obtain ⟨code,Ts⟩:=r
 have HTs:=Lib.hid hTs
 clear hTs
 obtain ⟨n0,l0,d0,t0⟩:=p
 unfold PV.cells at hb0 ha0 hp0
 have HB0:=Lib.hid hb0
 have HA0:=Lib.hid ha0
 have HP0:=Lib.hid hp0
 clear hb0 ha0 hp0 hl hd hh
 show Calls Tryz.prog 3 #[.agg #[.string host,.slice A Xs.length c],.agg #[.bool n0,.string l0,.string d0,.bool t0]] w _
 go_enter Tryz.func3,Tryz.ntmps3
 go_wp2_with (first | (go_at_call 6; refine (C0.out _ HB0.out).mono ?_; rintro ee w1 ⟨rfl,hb⟩; refine Hid.out ?_) | fail)
 refine Lib.hid ?_
 have HB1:=Lib.hid (HB0.out.trans (hb.mono HB0.out.size))
 have HA1:=Lib.hid (HA0.out.on hb)
 have HP1:=Lib.hid (HP0.out.on hb)
 obtain ⟨a0,a1,_,_⟩:=two_cells HA1.out
 clear hb C0 HB0 HA0 HP0
 by_cases hc : code=0
 ·subst hc
  have hT:=HTs.out Ts rfl
  have CQ1:=Lib.hid (CQ.out Ts hT)
  have CB1:=Lib.hid (fun W hb=>new_yes (CB.out W hb).1)
  have CB2:=Lib.hid (fun W hb=>newG_yes (CB.out W hb).2)
  clear hT HTs CQ CB
  go_wp2_with (first | (go_at_call 7; refine (CB1.out _ HB1.out).mono ?_; rintro ee w2 ⟨b1,rfl,hC1,hb⟩; refine Hid.out ?_) | fail)
  refine Lib.hid ?_
  have HB2:=Lib.hid (HB1.out.trans (hb.mono HB1.out.size))
  have HA2:=Lib.hid (HA1.out.on hb)
  have HP2:=Lib.hid (HP1.out.on hb)
  have HC2:=Lib.hid hC1
  clear hb hC1 a0 a1 HB1 HA1 HP1 CB1
  obtain ⟨a0,a1,_,_⟩:=two_cells HA2.out
  go_wp2_with (first | (go_at_call 8; refine (CB2.out _ HB2.out).mono ?_; rintro ee w3 ⟨b2,rfl,hC2,hb⟩; refine Hid.out ?_) | fail)
  refine Lib.hid ?_
  have HB3:=Lib.hid (HB2.out.trans (hb.mono HB2.out.size))
  have HP3:=Lib.hid (HP2.out.on hb)
  have HC3:=Lib.hid (HC2.out.on hb)
  have HG3:=Lib.hid hC2
  clear hb hC2 a0 a1 HB2 HA2 HP2 HC2 CB2
  obtain ⟨c0,c1,c2,c3,f0,f1,f2,f3⟩:=four_cells HP3.out
  have CA:=Lib.hid (fun W hb=>(CQ1.out W hb).1)
  have CG:=Lib.hid (fun W hb=>(CQ1.out W hb).2)
  clear CQ1
  generalize canonG host Ts ⟨n0,l0,d0,t0⟩=q at CA CG
  obtain ⟨n,l,d,t⟩:=q
  have CA2 : Hid (∀ W,Below w.heap.size w W→∀ b,CanonAt W b host Ts→Calls Tryz.prog 9 #[.pointer (some ⟨b,0,none⟩),.agg #[.bool n0,.string l0,.string d0,.bool t0]] W fun e w'=>e=.returned (.agg #[.bool n,.string l,.string d,.bool t])∧Below W.heap.size W w'):=CA
  have CG2 : Hid (∀ W,Below w.heap.size w W→∀ b,CanonG W b host Ts→Calls Tryz.prog 10 #[.pointer (some ⟨b,0,none⟩),.agg #[.bool n0,.string l0,.string d0,.bool t0]] W fun e w'=>e=.returned (.agg #[.bool n,.string l,.string d,.bool t])∧Below W.heap.size W w'):=CG
  clear CA CG
  go_wp2_with (first | (go_at_call 9; refine (CA2.out _ HB3.out _ HC3.out).mono ?_; rintro ee w4 ⟨rfl,hb⟩; refine Hid.out ?_) | fail)
  refine Lib.hid ?_
  have HB4:=Lib.hid (HB3.out.trans (hb.mono HB3.out.size))
  have HB5:=Lib.hid (below_step HB4.out (boxO n l d t))
  have HP5:=Lib.hid (path_alloc (HP3.out.on hb) (boxO n l d t))
  have HG5:=Lib.hid ((HG3.out.on hb).on (Below.alloc1 w4 (boxO n l d t)))
  have HQ5:=Lib.hid (box_path w4 n l d t)
  clear hb c0 c1 c2 c3 f0 f1 f2 f3 HB3 HP3 HC3 HG3 CA2
  unfold boxO at HB5 HP5 HG5 HQ5
  obtain ⟨c0,c1,c2,c3,f0,f1,f2,f3⟩:=four_cells HP5.out
  go_wp2_with (first | (go_at_call 10; refine (CG2.out _ HB5.out _ HG5.out).mono ?_; rintro ee w6 ⟨rfl,hb⟩; refine Hid.out ?_) | fail)
  refine Lib.hid ?_
  have HB6:=Lib.hid (HB5.out.trans (hb.mono HB5.out.size))
  have HQ6:=Lib.hid (HQ5.out.on hb)
  have hlt6:=heap_lt HQ6.out
  have ne1 : ¬ w6.heap.size=w4.heap.size:=by omega
  have ne2 : ¬ w4.heap.size=w6.heap.size:=by omega
  clear hb c0 c1 c2 c3 f0 f1 f2 f3 HB4 HB5 HP5 HG5 HQ5 CG2
  obtain ⟨c0,c1,c2,c3,f0,f1,f2,f3⟩:=four_cells HQ6.out
  go_wp2
  go_ret
  exact ⟨rfl,below_step HB6.out _⟩
 ·have CB1:=Lib.hid (fun W hb=>new_no (CB.out W hb).1 hc)
  have CB2:=Lib.hid (fun W hb=>newG_no (CB.out W hb).2 hc)
  clear HTs CQ CB hc
  go_wp2_with (first | (go_at_call 7; refine (CB1.out _ HB1.out).mono ?_; rintro ee w2 ⟨rfl,hb⟩; refine Hid.out ?_) | fail)
  refine Lib.hid ?_
  have HB2:=Lib.hid (HB1.out.trans (hb.mono HB1.out.size))
  have HA2:=Lib.hid (HA1.out.on hb)
  clear hb a0 a1 HB1 HA1 HP1 CB1
  obtain ⟨a0,a1,_,_⟩:=two_cells HA2.out
  go_wp2_with (first | (go_at_call 8; refine (CB2.out _ HB2.out).mono ?_; rintro ee w3 ⟨rfl,hb⟩; refine Hid.out ?_) | fail)
  refine Lib.hid ?_
  have HB3:=Lib.hid (HB2.out.trans (hb.mono HB2.out.size))
  clear hb a0 a1 HB2 HA2 CB2
  have e1 : (code != code)=false:=by rw [bne_eq_false_iff_eq]
  go_wp2
  go_ret
  exact ⟨rfl,HB3.out⟩
end Go.Proofs.YtghnopkgcgfcpaaGreatDoor.Path
set_option maxHeartbeats 16000000
set_option maxRecDepth 100000
namespace Go.Proofs.YtghnopkgcgfcpaaGreatDoor.Path
open Go.ChangeShapes Go.WideShapes Go.ChangeAt Go.RowKit Base
open Go.ChangeMaps (open_string shut_string)
theorem own : ownKnob Tryz.prog.godebug=none:=by kernel_rfl
theorem laidOut : laidOutB Tryz.prog=true:=by kernel_rfl
theorem g64 : Tryz.prog.globalNamed "math/bits.deBruijn64tab" = some 10 := by kernel_rfl
theorem g64Type : (Tryz.prog.globals[10]?).map (·.type)=some 327:=by kernel_rfl
theorem gPow : Tryz.prog.globalNamed "internal/strconv.uint64pow10" = some 8 := by kernel_rfl
theorem gPowType : (Tryz.prog.globals[8]?).map (·.type)=some 319:=by kernel_rfl
theorem gMaxL : Tryz.prog.globalNamed "internal/bytealg.MaxLen" = some 0 := by kernel_rfl
theorem gSynN : Tryz.prog.globalNamed "strconv.ErrSyntax" = some 6 := by kernel_rfl
theorem gRngN : Tryz.prog.globalNamed "strconv.ErrRange" = some 7 := by kernel_rfl
theorem gSynType : (Tryz.prog.globals[6]?).map (·.type)=some 177:=by kernel_rfl
theorem gRngType : (Tryz.prog.globals[7]?).map (·.type)=some 177:=by kernel_rfl
theorem gFold : Tryz.prog.globalNamed "unicode.asciiFold" = some 1 := by kernel_rfl
theorem gFoldType : (Tryz.prog.globals[1]?).map (·.type)=some 218:=by kernel_rfl
theorem cellsU64 : Tryz.prog.cellsOf 198=1:=by kernel_rfl
theorem cellsPow : Tryz.prog.cellsOf 319=20:=by kernel_rfl
theorem cells64 : Tryz.prog.cellsOf 327=64:=by kernel_rfl
theorem cellsU8 : Tryz.prog.cellsOf 5=1:=by kernel_rfl
theorem cellsU16 : Tryz.prog.cellsOf 217=1:=by kernel_rfl
theorem cellsFold : Tryz.prog.cellsOf 218=128:=by kernel_rfl
theorem cellsStr : Tryz.prog.cellsOf 9=1:=by kernel_rfl
theorem cellsErr : Tryz.prog.cellsOf 325=1:=by kernel_rfl
theorem star : "*" ++ "errors.errorString" = "*errors.errorString" := by decide
theorem rowErr (u : TypeId) (h : Tryz.prog.typeName? 3 u = some "*errors.errorString") : u = 323 :=
 typeName_ptr_named (nm := "errors.errorString") (by rw [star]; kernel_rfl) (by kernel_rfl) (by decide) u (by rw [star]; exact h)
abbrev laidL : List (String × DataW Unit) := [("math/bits.deBruijn32tab",Rows.laid_math_bits_deBruijn32tab),("math/bits.deBruijn64tab",Rows.laid_math_bits_deBruijn64tab),("internal/strconv.uint64pow10",Rows.laid_internal_strconv_uint64pow10),("unicode/utf8.acceptRanges",Rows.laid_unicode_utf8_acceptRanges),("strconv.ErrRange",Rows.laid_strconv_ErrRange),("strconv.ErrSyntax",Rows.laid_strconv_ErrSyntax),("unicode.asciiFold",Rows.laid_unicode_asciiFold),("unicode.caseOrbit",Rows.laid_unicode_caseOrbit),("unicode.CaseRanges",Rows.laid_unicode_CaseRanges),("unicode/utf8.first",Rows.laid_unicode_utf8_first)]
theorem max_of {W : World} (hsh : W.ShapedOpen Tryz.prog) : ∃ m,W.var? Tryz.prog "internal/bytealg.MaxLen" = some #[.int .i64 m] := by
 have h0 : ((begin Tryz.prog (fun _ _=>0) default).world.heap[0]?).bind Obj.row?=some (#[.int .i64 0],3):=by kernel_rfl
 obtain ⟨cs,hh,hs,hr⟩:=hsh.1 0 _ 3 (of_decide_eq_true (by kernel_rfl)) h0
 obtain ⟨ts,hts,_,hall⟩:=hr (by kernel_rfl)
 rw [show Tryz.prog.cellTypes Tryz.prog.depth 3=some [3] by kernel_rfl] at hts
 cases hts
 have h1 : 0 < cs.size:=by rw [hs]; decide
 obtain ⟨u,hu,hok⟩:=hall 0 cs[0] (by simp [h1])
 have hu3 : u=3:=by simpa using hu.symm
 subst hu3
 have hv : ∃ m,cs[0]=.int .i64 m:=by
  simp only [Cell.ok,Tryz.underlying3] at hok
  split at hok <;> simp_all
 obtain ⟨m,hm⟩:=hv
 refine ⟨m,?_⟩
 unfold World.var?
 rw [gMaxL]
 simp only [Option.bind_some,hh]
 congr 1
 apply Array.ext_getElem?
 intro i
 cases i with
 | zero=>simp [h1,hm]
 | succ j=>rw [Array.getElem?_eq_none (by rw [hs]; simp),Array.getElem?_eq_none (by simp)]
def foldT : List Int:=[0,1,2,3,4,5,6,7,8,9,10,11,12,13,14,15,16,17,18,19,20,21,22,23,24,25,26,27,28,29,30,31,32,33,34,35,36,37,38,39,40,41,42,43,44,45,46,47,48,49,50,51,52,53,54,55,56,57,58,59,60,61,62,63,64,97,98,99,100,101,102,103,104,105,106,107,108,109,110,111,112,113,114,115,116,117,118,119,120,121,122,91,92,93,94,95,96,65,66,67,68,69,70,71,72,73,74,8490,76,77,78,79,80,81,82,383,84,85,86,87,88,89,90,123,124,125,126,127]
theorem env_of {W : World} (h : laidMetH Tryz.prog laidL W) (hsh : W.ShapedOpen Tryz.prog) : EnvC W:=by
 rw [MakeChecks.laidMetH_plain _ _ _ (by kernel_rfl)] at h
 have h1 : laidMet Tryz.prog _ W:=h.tail
 have t1:=Lib.tabIs_of_head (k:=.u8) (zs:=[0,1,56,2,57,49,28,3,61,58,42,50,38,29,17,4,62,47,59,36,45,43,51,22,53,39,33,30,24,18,12,5,63,55,48,27,60,41,37,16,46,35,44,21,52,32,23,11,54,26,40,15,34,20,31,10,25,14,19,9,13,8,7,6]) g64 g64Type Tryz.underlying327 Tryz.underlying5 cellsU8 cells64 h1
 have h2:=h1.tail
 have t2:=Lib.tabIs_of_head (k:=.u64) (zs:=Lib.pow10Tab) gPow gPowType Tryz.underlying319 Tryz.underlying198 cellsU64 cellsPow h2
 have h4:=h2.tail.tail
 obtain ⟨a0,s0,hv0,_,_,_⟩:=laid_sentinel h4 gRngN gRngType Tryz.underlying177 rowErr Tryz.underlying323 Tryz.underlying325 rfl rfl Tryz.underlying9 cellsErr cellsStr
 obtain ⟨a1,s1,hv1,_,_,_⟩:=laid_sentinel h4.tail gSynN gSynType Tryz.underlying177 rowErr Tryz.underlying323 Tryz.underlying325 rfl rfl Tryz.underlying9 cellsErr cellsStr
 have h6:=h4.tail.tail
 have t3:=Lib.tabIs_of_head (k:=.u16) (zs:=foldT) gFold gFoldType Tryz.underlying218 Tryz.underlying217 cellsU16 cellsFold h6
 have hmax:=max_of hsh
 have hf : ∀ (j : Nat) b,sixT.data.toList[j]?=some b→b.toNat < 128∧∃ f : Nat,f < 128∧W.cell? ⟨1,b.toNat,none⟩=some (.int .u16 (f : Int))∧W.cell? ⟨1,f,none⟩=some (.int .u16 (b.toNat : Int)):=fun j b hj=>by
  match j,hj with
  | 0,hj=>cases hj; exact ⟨by decide,105,by decide,t3.cell gFold 73 (by decide),t3.cell gFold 105 (by decide)⟩
  | 1,hj=>cases hj; exact ⟨by decide,112,by decide,t3.cell gFold 80 (by decide),t3.cell gFold 112 (by decide)⟩
  | 2,hj=>cases hj; exact ⟨by decide,86,by decide,t3.cell gFold 118 (by decide),t3.cell gFold 86 (by decide)⟩
  | 3,hj=>cases hj; exact ⟨by decide,54,by decide,t3.cell gFold 54 (by decide),t3.cell gFold 54 (by decide)⟩
  | 4,hj=>cases hj; exact ⟨by decide,58,by decide,t3.cell gFold 58 (by decide),t3.cell gFold 58 (by decide)⟩
  | (k + 5),hj=>exact absurd (List.getElem?_eq_some_iff.1 hj).1 (by show ¬ k + 5 < 5; omega)
 have hcx : Cidr.EnvS W:=⟨⟨hmax,⟨_,_,hv1⟩,⟨_,_,hv0⟩,t2⟩,t1.cell g64 15 (by decide)⟩
 obtain ⟨m,hm⟩:=hmax
 exact ⟨⟨hcx,fun j b hj=>(hf j b hj).1,fun j b hj=>(hf j b hj).2⟩,⟨m,Cidr.var_cell gMaxL hm⟩⟩
theorem laid_met (os : Os) (args : Array Value) : laidMetH Tryz.prog laidL ((World.laidAll Tryz.prog os laidL).forCall (fun _ _=>0) ⟨#[],args,[]⟩).memory:=by
 rw [MakeChecks.laidMetH_plain _ _ _ (by kernel_rfl)]
 exact laidMet_laidAll _ (by kernel_rfl) (by kernel_rfl)
theorem laid_shaped (os : Os) (args : Array Value) : ((World.laidAll Tryz.prog os laidL).forCall (fun _ _=>0) ⟨#[],args,[]⟩).Shaped Tryz.prog :=
 World.shaped_of_ZipB (by kernel_rfl) (by kernel_rfl)
theorem witness_laid {H : Type} {enc : TypeId × Value→H} {C : Checked} {os : Os} {f : FuncId} {fn : Func} {s : OpenSpec} {conds : List PathCond} {apart : Bool} {laid : List (String × DataW Unit)} (w0 : World) (args : Array Value) (hos : w0.os=os)
  (hsh : (w0.forCall (fun _ _=>0) ⟨#[],args,[]⟩).Shaped C.prog)
  (hok : Input.okWideB C.prog (w0.forCall (fun _ _=>0) ⟨#[],args,[]⟩) f ⟨#[],args,[]⟩=true)
  (hrow : s.preRow enc C.prog fn conds apart laid (w0.forCall (fun _ _=>0) ⟨#[],args,[]⟩).memory args) :
  ∃ (w : World) (tape : Tape) (i : Input),w.os=os∧(w.forCall tape i).Shaped C.prog∧i.vars=[]∧Input.okWide C.prog (w.forCall tape i) .any w.heap.size f i ∧
   s.preRow enc C.prog fn conds apart laid (w.forCall tape i).memory i.args∧({} : Assume).holds C.prog (lone (Frame.enter C.prog f i.args .normal) [] (w.forCall tape i)) :=
 ⟨w0,fun _ _=>0,⟨#[],args,[]⟩,hos,hsh,(Input.okWide_of_okWideB (base:=0) hok).1,(Input.okWide_of_okWideB hok).2,hrow,by
  simp only [Assume.holds]
  exact ⟨by simp,by simp,fun _=>Modest.zero,by simp,by simp⟩⟩
theorem cellsAsked : Tryz.prog.cellsOf 24=2:=by kernel_rfl
theorem cellsPath : Tryz.prog.cellsOf 26=4:=by kernel_rfl
theorem bulk_str {H : Type} (s : ByteArray) : Rows.uptoBulk (DataW.lit (H:=H) (.string s.data.toList))=s.size + 1:=by
 show s.data.toList.length + 1=_
 rw [str_len]
theorem open_path {H : Type} {enc : TypeId × Value→H} {W : World} {v : Value} {d : DataW H} {p : List MemPlace} {base : Nat} (hval : Value.okWide Tryz.prog W .any base 26 v)
  (h : DataW.Trod enc Tryz.prog W 0 (fun _=>true) true 26 v d p) : ∃ q : PV,v=q.val∧q.loc.size≤Rows.uptoBulk d∧q.dom.size≤Rows.uptoBulk d:=by
 obtain ⟨v0,v1,v2,v3,y0,y1,y2,y3,n,rfl,rfl,_,t0,t1,t2,t3⟩:=Joins.open_agg4 Tryz.underlying26 (by kernel_rfl) cellsPath hval h
 obtain ⟨b0,h0,rfl⟩:=DataW.trod_bool Tryz.underlying4 t0
 obtain ⟨s1,h1,rfl,_⟩:=DataW.trod_string Tryz.underlying9 t1
 obtain ⟨s2,h2,rfl,_⟩:=DataW.trod_string Tryz.underlying9 t2
 obtain ⟨b3,h3,rfl⟩:=DataW.trod_bool Tryz.underlying4 t3
 simp at h0 h1 h2 h3
 subst h0 h1 h2 h3
 have e1:=bulk_str (H:=H) s1
 have e2:=bulk_str (H:=H) s2
 refine ⟨⟨b0,s1,s2,b3⟩,rfl,?_,?_⟩
 ·show s1.size≤Rows.uptoBulk _ + (Rows.uptoBulk (DataW.lit (H:=H) (.string s1.data.toList)) + (Rows.uptoBulk (DataW.lit (H:=H) (.string s2.data.toList)) + _)) + 1
  rw [e1]; omega
 ·show s2.size≤Rows.uptoBulk _ + (Rows.uptoBulk (DataW.lit (H:=H) (.string s1.data.toList)) + (Rows.uptoBulk (DataW.lit (H:=H) (.string s2.data.toList)) + _)) + 1
  rw [e2]; omega
theorem strs_at {H : Type} {enc : TypeId × Value→H} {W : World} {a0 : Option Addr} {n0 c0 : Nat} {n : Nat} {y : DataW H × List MemPlace} (h : DataW.trod enc Tryz.prog W 0 (fun _=>true) true n 22 [.slice a0 n0 c0]=some y) :
  ∃ Xs : List ByteArray,n0=Xs.length∧StrsAt W a0 Xs∧Xs.length≤9223372036854775807:=by
 obtain ⟨d,p⟩:=y
 rcases Go.Deep.open_slice Tryz.underlying22 h with ⟨hcs,hx⟩ | ⟨a,len,cap,m,k0,D,Pl,hcs,_,hl,hm,hmm,hx,hi⟩
 ·simp at hcs
  obtain ⟨rfl,rfl,rfl⟩:=hcs
  exact ⟨[],rfl,fun i s hs=>by simp at hs,Nat.zero_le _⟩
 ·simp at hcs
  obtain ⟨rfl,rfl,rfl⟩:=hcs
  rw [cellsStr] at hi
  have el : ∀ r,r < n0→∃ S0 : ByteArray,W.cell? ((a.add (r * 1)).add 0)=some (.string S0):=fun r hr=>by
   obtain ⟨cs',h1,h2⟩:=hi r (by simp at hmm; omega)
   obtain ⟨_,hcl,hat⟩:=World.cells?_some h1
   obtain ⟨S0,hS0,hy,_⟩:=DataW.trod_string Tryz.underlying9 h2
   subst hS0
   exact ⟨S0,hat 0 (by omega)⟩
  by_cases h0 : n0=0
  ·subst h0
   exact ⟨[],rfl,fun i s hs=>by simp at hs,Nat.zero_le _⟩
  obtain ⟨ab,ao,spot⟩:=a
  have hspot : spot=none:=by
   obtain ⟨S1,h1⟩:=el 0 (by omega)
   simpa [Addr.add] using World.cell?_spot h1
  subst hspot
  have each : ∀ r,r < n0→∃ S0 : ByteArray,W.cell? ⟨ab,ao + r,none⟩=some (.string S0):=fun r hr=>by
   obtain ⟨S0,h1⟩:=el r hr
   rw [Addr.add_lit,Addr.add_lit] at h1
   exact ⟨S0,by simpa using h1⟩
  obtain ⟨F,hF⟩:=Go.Deep.choose_lt (α:=ByteArray) each
  refine ⟨(List.range n0).map F,by simp,fun i x hx=>?_,by unfold maxLen at hm; simp; omega⟩
  have hil : i < n0:=by simpa using (List.getElem?_eq_some_iff.1 hx).1
  simp [hil] at hx
  subst hx
  exact ⟨ab,ao,rfl,hF i hil⟩
theorem open_asked {H : Type} {enc : TypeId × Value→H} {W : World} {v : Value} {d : DataW H} {p : List MemPlace} {base : Nat} (hval : Value.okWide Tryz.prog W .any base 24 v)
  (h : DataW.Trod enc Tryz.prog W 0 (fun _=>true) true 24 v d p) : ∃ (host : ByteArray) (A : Option Addr) (c : Nat) (Xs : List ByteArray),v=.agg #[.string host,.slice A Xs.length c]∧StrsAt W A Xs∧Xs.length≤9223372036854775807∧host.size≤Rows.uptoBulk d:=by
 obtain ⟨v0,v1,y0,y1,n,rfl,rfl,_,t0,t1⟩:=Joins.open_agg2 Tryz.underlying24 (by kernel_rfl) cellsAsked hval h
 obtain ⟨s0,h0,rfl,_⟩:=DataW.trod_string Tryz.underlying9 t0
 simp at h0
 subst h0
 have hform : ∃ a n c,v1=.slice a n c:=by
  rcases Go.Deep.open_slice Tryz.underlying22 t1 with ⟨hcs,_⟩ | ⟨a,len,cap,m,k0,D,Pl,hcs,_⟩
  ·simp at hcs; exact ⟨none,0,0,hcs⟩
  ·simp at hcs; exact ⟨some a,len,cap,hcs⟩
 obtain ⟨a,m,cc,rfl⟩:=hform
 obtain ⟨Xs,rfl,h1,h2⟩:=strs_at t1
 have e1:=bulk_str (H:=H) s0
 refine ⟨s0,a,cc,Xs,rfl,h1,h2,?_⟩
 show s0.size≤Rows.uptoBulk (DataW.lit (H:=H) (.string s0.data.toList)) + _ + 1
 rw [e1]; omega
end Go.Proofs.YtghnopkgcgfcpaaGreatDoor.Path
