/-
  MERGED by mergefill.py: CidrAddr, CidrParse, CidrPLib, CidrG3, CidrPHexF, CidrForm.
-/
import Derived.Test.YtghnopkgcgfcpaaGreatDoorCidrFourMg
import Derived.Test.YtghnopkgcgfcpaaGreatDoorShelfMg
import Derived.Lib.LaidTab
import Derived.Lib.IndexBytes
import Derived.Lib.IndexLaws
import Derived.Lib.SplitLaws
import Derived.Lib.CountLaws
import Derived.Lib.CutLaws
import Derived.Lib.Split
import Derived.Test.YtghnopkgcgfcpaaGreatDoorStrBaseMg
import Derived.Lib.SmallJoins
import Derived.Lib.ItoaNum
import Derived.Test.YtghnopkgcgfcpaaGreatDoorCidrG2Mg
import Derived.Laws.Bits64b
set_option maxHeartbeats 16000000
set_option maxRecDepth 100000
namespace Go.Proofs.YtghnopkgcgfcpaaGreatDoor.Cidr
open Go.RowKit Base
def addrN (s : ByteArray) : Option NetM:=match fourN s.data.toList with | some n=>some n | none=>sixS s
def AddrEnd (o : Option NetM) (w : World) (e : Ending) (w' : World) : Prop :=
 Below w.heap.size w w'∧((o=none∧e=.returned (.tuple #[netV zeroN,.int .i64 70]))∨∃ n : NetM,o=some n∧n.a.length=16∧e=.returned (.tuple #[netV n,.int .i64 0]))
theorem net_no {f : FuncId} {args : Array Value} {w : World} (h : Calls Tryz.prog f args w (NetEnd none w)) : Calls Tryz.prog f args w (fun e w'=>∃ n : NetM,n.a.length=16∧e=.returned (.tuple #[netV n,.bool false])∧Below w.heap.size w w') :=
 h.mono fun e w' h=>by
  rcases h with ⟨hb,⟨_,n,h1,h2⟩ | ⟨n,h1,_⟩⟩
  ·exact ⟨n,h1,h2,hb⟩
  ·cases h1
theorem net_yes {f : FuncId} {args : Array Value} {w : World} {n : NetM} (h : Calls Tryz.prog f args w (NetEnd (some n) w)) : Calls Tryz.prog f args w (fun e w'=>n.a.length=16∧e=.returned (.tuple #[netV n,.bool true])∧Below w.heap.size w w') :=
 h.mono fun e w' h=>by
  rcases h with ⟨hb,⟨h1,_⟩ | ⟨m,h1,h2,h3⟩⟩
  ·cases h1
  ·cases h1; exact ⟨h2,h3,hb⟩
theorem net_new {w w2 : World} {n : NetM} (ha : n.a.length=16) (hw : (w.alloc (.cells (netC zeroN) 70)).setCells w.heap.size 0 (netC n).toList=w2) : NetAt w2 w.heap.size n∧Below w.heap.size w w2:=by
 obtain ⟨h1,h2,_⟩:=net_put (NetAt.new w zeroN) rfl ha hw
 exact ⟨h1,(Below.alloc1 _ _).trans (h2.below (Nat.le_refl _) (by simp))⟩
theorem net_again {w w2 : World} {b B : Nat} {m n : NetM} (h : NetAt w b m) (hm : m.a.length=16) (ha : n.a.length=16) (hB : B≤b) (hw : w.setCells b 0 (netC n).toList=w2) : NetAt w2 b n∧Below B w w2∧KeepX b w w2:=by
 obtain ⟨h1,h2,_⟩:=net_put h (netC_size hm) ha hw
 exact ⟨h1,h2.below hB (heap_lt h),h2⟩
theorem there_net {w : World} {b : Nat} {m n : NetM} (h : NetAt w b m) (hm : m.a.length=16) (ha : n.a.length=16) : w.there b 0 (netC n).size:=there_of h (by rw [netC_size hm,netC_size ha]; omega)
theorem rAddr (s : ByteArray) (w : World) (hs : s.size≤4294967280) : Calls Tryz.prog 24 #[.string s] w (AddrEnd (addrN s) w):=by
 have HB0:=Lib.hid (Below.alloc1 w (.cells (netC zeroN) 70))
 have HN0:=Lib.hid (NetAt.new w zeroN)
 have HF:=Lib.hid (fun w=>rFour s w hs)
 have HX:=Lib.hid (fun w=>rSix s w hs)
 obtain ⟨o,ho⟩ : ∃ o,o=addrN s:=⟨_,rfl⟩
 rw [← ho]
 unfold addrN at ho
 generalize fourN s.data.toList=o4 at ho HF
 generalize sixS s=o6 at ho HX
 have HO:=Lib.hid ho
 clear ho
 go_enter Tryz.func24,Tryz.ntmps24
 cases o4 with
 | some n =>
  have HY : Hid (o=some n):=HO.out
  have HF2:=Lib.hid (fun wx=>net_yes (HF.out wx))
  clear HF HX HO
  go_wp2_with (go_at_call 55; refine (HF2.out _).mono ?_; rintro e w1 ⟨ha,rfl,b1⟩; refine Hid.out ?_)
  refine Lib.hid ?_
  have HA:=Lib.hid ha
  have HN1 : Hid (NetAt w1 w.heap.size zeroN):=HN0.out.on b1
  have HB1 : Hid (Below w.heap.size w w1):=HB0.out.trans (b1.mono HB0.out.size)
  have HT:=Lib.hid (there_net (NetAt.new w1 zeroN) rfl HA.out)
  have HC:=Lib.hid (size25c HA.out)
  clear ha b1
  go_wp2_with (first | (refine wpList_store_mid rfl 70 (.tmp 4) (.tmp 9) rfl w1.heap.size 0 (netC n) rfl rfl HT.out HC.out (netC_all _) ?_; generalize hw2 : World.setCells _ _ _ _=w2; refine Hid.out ?_) | fail)
  refine Lib.hid ?_
  obtain ⟨hn2,hb2⟩:=net_new HA.out hw2
  have HN2:=Lib.hid hn2
  have HN20 : Hid (NetAt w2 w.heap.size zeroN):=HN1.out.on hb2
  have HB2 : Hid (Below w.heap.size w w2):=HB1.out.trans (hb2.mono HB1.out.size)
  have HL2:=Lib.hid (heap_lt HN1.out)
  clear hw2 hn2 hb2 HT HC
  have HSt:=Lib.hid (size25_of HA.out)
  have HTt:=Lib.hid (there_net HN20.out rfl HA.out)
  have HCt:=Lib.hid (size25c HA.out)
  go_wp2_with (first | (refine wpList_load_mid rfl 70 (.tmp 4) rfl w1.heap.size 0 rfl (netL n) _ HN2.out.range0 Tryz.underlying70 rfl HSt.out ?_) | (refine wpList_store_mid rfl 70 (.tmp 2) (.tmp 12) rfl w.heap.size 0 (netC n) rfl rfl HTt.out HCt.out (netC_all _) ?_; generalize hwf : World.setCells _ _ _ _=wf; refine Hid.out ?_) | fail)
  refine Lib.hid ?_
  obtain ⟨hnf,hbf,_⟩:=net_again HN20.out rfl HA.out (Nat.le_refl _) hwf
  have HNF:=Lib.hid hnf
  have HBF:=Lib.hid hbf
  clear hnf hbf hwf
  go_wp2
  exact bodyPost_ret (results_net Tryz.results24 rfl rfl HNF.out HA.out) rfl ⟨HB2.out.trans HBF.out,Or.inr ⟨n,HY.out,HA.out,rfl⟩⟩
 | none =>
  have HO2 : Hid (o=o6):=HO.out
  have HF2:=Lib.hid (fun wx=>net_no (HF.out wx))
  clear HF HO
  go_wp2_with (go_at_call 55; refine (HF2.out _).mono ?_; rintro e w1 ⟨n,ha,rfl,b1⟩; refine Hid.out ?_)
  refine Lib.hid ?_
  have HA:=Lib.hid ha
  have HN1 : Hid (NetAt w1 w.heap.size zeroN):=HN0.out.on b1
  have HB1 : Hid (Below w.heap.size w w1):=HB0.out.trans (b1.mono HB0.out.size)
  have HT:=Lib.hid (there_net (NetAt.new w1 zeroN) rfl HA.out)
  have HC:=Lib.hid (size25c HA.out)
  clear ha b1
  go_wp2_with (first | (refine wpList_store_mid rfl 70 (.tmp 4) (.tmp 9) rfl w1.heap.size 0 (netC n) rfl rfl HT.out HC.out (netC_all _) ?_; generalize hw2 : World.setCells _ _ _ _=w2; refine Hid.out ?_) | fail)
  refine Lib.hid ?_
  obtain ⟨hn2,hb2⟩:=net_new HA.out hw2
  have HN2:=Lib.hid hn2
  have HN20 : Hid (NetAt w2 w.heap.size zeroN):=HN1.out.on hb2
  have HB2 : Hid (Below w.heap.size w w2):=HB1.out.trans (hb2.mono HB1.out.size)
  have HL2:=Lib.hid (heap_lt HN1.out)
  clear hw2 hn2 hb2 HT HC
  cases o6 with
  | some m =>
   have HY : Hid (o=some m):=HO2.out
   have HX2:=Lib.hid (fun wx=>net_yes (HX.out wx))
   clear HX HO2
   go_wp2_with (go_at_call 56; refine (HX2.out _).mono ?_; rintro e w3 ⟨hm,rfl,b3⟩; refine Hid.out ?_)
   refine Lib.hid ?_
   have HM:=Lib.hid hm
   have HN3:=Lib.hid (HN2.out.on b3)
   have HN30:=Lib.hid (HN20.out.on b3)
   have HB3:=Lib.hid (HB2.out.trans (b3.mono HB2.out.size))
   have HT3:=Lib.hid (there_net HN3.out HA.out HM.out)
   have HC3:=Lib.hid (size25c HM.out)
   clear hm b3
   go_wp2_with (first | (refine wpList_store_mid rfl 70 (.tmp 4) (.tmp 16) rfl w1.heap.size 0 (netC m) rfl rfl HT3.out HC3.out (netC_all _) ?_; generalize hw4 : World.setCells _ _ _ _=w4; refine Hid.out ?_) | fail)
   refine Lib.hid ?_
   obtain ⟨hn4,hb4,hk4⟩:=net_again HN3.out HA.out HM.out (Nat.le_of_lt HL2.out) hw4
   have HN4:=Lib.hid hn4
   have HN40 : Hid (NetAt w4 w.heap.size zeroN):=HN30.out.kept hk4 (by have:=HL2.out; omega)
   have HB4:=Lib.hid (HB3.out.trans hb4)
   clear hw4 hn4 hb4 hk4
   have HSt:=Lib.hid (size25_of HM.out)
   have HTt:=Lib.hid (there_net HN40.out rfl HM.out)
   have HCt:=Lib.hid (size25c HM.out)
   go_wp2_with (first | (refine wpList_load_mid rfl 70 (.tmp 4) rfl w1.heap.size 0 rfl (netL m) _ HN4.out.range0 Tryz.underlying70 rfl HSt.out ?_) | (refine wpList_store_mid rfl 70 (.tmp 2) (.tmp 19) rfl w.heap.size 0 (netC m) rfl rfl HTt.out HCt.out (netC_all _) ?_; generalize hwf : World.setCells _ _ _ _=wf; refine Hid.out ?_) | fail)
   refine Lib.hid ?_
   obtain ⟨hnf,hbf,_⟩:=net_again HN40.out rfl HM.out (Nat.le_refl _) hwf
   have HNF:=Lib.hid hnf
   have HBF:=Lib.hid hbf
   clear hnf hbf hwf
   go_wp2
   exact bodyPost_ret (results_net Tryz.results24 rfl rfl HNF.out HM.out) rfl ⟨HB4.out.trans HBF.out,Or.inr ⟨m,HY.out,HM.out,rfl⟩⟩
  | none =>
   have HX2:=Lib.hid (fun wx=>net_no (HX.out wx))
   have HNO : Hid (o=none):=HO2.out
   clear HX HO2
   go_wp2_with (go_at_call 56; refine (HX2.out _).mono ?_; rintro e w3 ⟨m,hm,rfl,b3⟩; refine Hid.out ?_)
   refine Lib.hid ?_
   have HM:=Lib.hid hm
   have HN3:=Lib.hid (HN2.out.on b3)
   have HN30:=Lib.hid (HN20.out.on b3)
   have HB3:=Lib.hid (HB2.out.trans (b3.mono HB2.out.size))
   have HT3:=Lib.hid (there_net HN3.out HA.out HM.out)
   have HC3:=Lib.hid (size25c HM.out)
   clear hm b3
   go_wp2_with (first | (refine wpList_store_mid rfl 70 (.tmp 4) (.tmp 16) rfl w1.heap.size 0 (netC m) rfl rfl HT3.out HC3.out (netC_all _) ?_; generalize hw4 : World.setCells _ _ _ _=w4; refine Hid.out ?_) | fail)
   refine Lib.hid ?_
   obtain ⟨hn4,hb4,hk4⟩:=net_again HN3.out HA.out HM.out (Nat.le_of_lt HL2.out) hw4
   have HN4:=Lib.hid hn4
   have HN40 : Hid (NetAt w4 w.heap.size zeroN):=HN30.out.kept hk4 (by have:=HL2.out; omega)
   have HB4:=Lib.hid (HB3.out.trans hb4)
   clear hw4 hn4 hb4 hk4
   have HTt:=Lib.hid (there_net (n:=zeroN) HN40.out rfl rfl)
   have HCt:=Lib.hid (size25c (n:=zeroN) rfl)
   go_wp2_with (first | (refine wpList_store_mid rfl 70 (.tmp 2) (.tmp 20) rfl w.heap.size 0 (netC zeroN) rfl rfl HTt.out HCt.out (netC_all _) ?_; generalize hwf : World.setCells _ _ _ _=wf; refine Hid.out ?_) | fail)
   refine Lib.hid ?_
   obtain ⟨hnf,hbf,_⟩:=net_again (n:=zeroN) HN40.out rfl rfl (Nat.le_refl _) hwf
   have HNF:=Lib.hid hnf
   have HBF:=Lib.hid hbf
   clear hnf hbf hwf
   go_wp2
   exact bodyPost_ret (results_net Tryz.results24 rfl rfl HNF.out rfl) rfl ⟨HB4.out.trans HBF.out,Or.inl ⟨HNO.out,rfl⟩⟩
end Go.Proofs.YtghnopkgcgfcpaaGreatDoor.Cidr
namespace Go.Proofs.YtghnopkgcgfcpaaGreatDoor.Cidr
open Go.RowKit Base
theorem addr_no {f : FuncId} {args : Array Value} {w : World} (h : Calls Tryz.prog f args w (AddrEnd none w)) : Calls Tryz.prog f args w (fun e w'=>e=.returned (.tuple #[netV zeroN,.int .i64 70])∧Below w.heap.size w w') :=
 h.mono fun e w' h=>by
  rcases h with ⟨hb,⟨_,h2⟩ | ⟨n,h1,_⟩⟩
  ·exact ⟨h2,hb⟩
  ·cases h1
theorem addr_yes {f : FuncId} {args : Array Value} {w : World} {n : NetM} (h : Calls Tryz.prog f args w (AddrEnd (some n) w)) : Calls Tryz.prog f args w (fun e w'=>n.a.length=16∧e=.returned (.tuple #[netV n,.int .i64 0])∧Below w.heap.size w w') :=
 h.mono fun e w' h=>by
  rcases h with ⟨hb,⟨h1,_⟩ | ⟨m,h1,h2,h3⟩⟩
  ·cases h1
  ·cases h1; exact ⟨h2,h3,hb⟩
theorem piece_len {c : UInt8} : ∀ {l p : List UInt8},p ∈ splitB c l→p.length≤l.length
 | [],p,h=>by simp [splitB] at h; subst h; simp
 | x :: r,p,h=>by
  rw [splitB_eq] at h
  split at h
  ·rcases List.mem_cons.1 h with rfl | h
   ·simp
   ·have:=piece_len h; simp; omega
  ·split at h
   ·rename_i hq
    exact absurd hq (splitB_ne c r)
   ·rename_i hd tl hq
    rcases List.mem_cons.1 h with rfl | h
    ·have:=piece_len (c:=c) (l:=r) (p:=hd) (by rw [hq]; exact List.mem_cons_self); simp; omega
    ·have:=piece_len (c:=c) (l:=r) (p:=p) (by rw [hq]; exact List.mem_cons_of_mem _ h); simp; omega
theorem arr_size (p : List UInt8) : (⟨p.toArray⟩ : ByteArray).size=p.length:=by show p.toArray.size=_; simp
end Go.Proofs.YtghnopkgcgfcpaaGreatDoor.Cidr
namespace Go.Proofs.YtghnopkgcgfcpaaGreatDoor.Cidr
open Go.RowKit Base
theorem var_on {P : Program} {w w' : World} {n : String} {cs : Array Value} (h : w.var? P n=some cs) (hb : Below w.heap.size w w') : w'.var? P n=some cs:=by
 unfold World.var? at h ⊢
 cases hg : P.globalNamed n with
 | none=>rw [hg] at h; cases h
 | some g =>
  rw [hg] at h
  simp only [Option.bind_some] at h ⊢
  cases hh : w.heap[g]? with
  | none=>rw [hh] at h; cases h
  | some o=>rw [hb.block g (heap_lt hh)]; rw [hh] at h ⊢; exact h
structure Env (w : World) : Prop where
 max : ∃ m,w.var? Tryz.prog "internal/bytealg.MaxLen"=some #[.int .i64 m]
 syn : ∃ tp p,w.var? Tryz.prog "strconv.ErrSyntax"=some #[.iface tp p]
 rng : ∃ tp p,w.var? Tryz.prog "strconv.ErrRange"=some #[.iface tp p]
 pow : Lib.TabIs Tryz.prog w "internal/strconv.uint64pow10" .u64 Lib.pow10Tab
theorem Env.on {w w' : World} (h : Env w) (hb : Below w.heap.size w w') : Env w':=by
 obtain ⟨⟨m,h1⟩,⟨a,b,h2⟩,⟨c,d,h3⟩,h4⟩:=h
 exact ⟨⟨m,var_on h1 hb⟩,⟨a,b,var_on h2 hb⟩,⟨c,d,var_on h3 hb⟩,var_on h4 hb⟩
theorem var_cell {w : World} {n : String} {g : Nat} {v : Value} (hg : Tryz.prog.globalNamed n=some g) (h : w.var? Tryz.prog n=some #[v]) : w.cell? ⟨g,0,none⟩=some v:=by
 unfold World.var? at h
 rw [hg] at h
 simp only [Option.bind_some] at h
 unfold World.cell?
 cases hh : w.heap[g]? with
 | none=>rw [hh] at h; cases h
 | some o =>
  rw [hh] at h
  cases o with
  | cells cs t fz=>simp only [Option.some.injEq] at h; subst h; rfl
  | _=>cases h
theorem gMax : Tryz.prog.globalNamed "internal/bytealg.MaxLen"=some 0:=by kernel_rfl
theorem gSyn : Tryz.prog.globalNamed "strconv.ErrSyntax"=some 6:=by kernel_rfl
theorem gRng : Tryz.prog.globalNamed "strconv.ErrRange"=some 7:=by kernel_rfl
theorem Env.maxCell {w : World} (h : Env w) : ∃ m,w.cell? ⟨0,0,none⟩=some (.int .i64 m):=by
 obtain ⟨m,hm⟩:=h.max
 exact ⟨m,var_cell gMax hm⟩
theorem bel_drew (n : Nat) (w : World) : Below w.heap.size w (w.drewN n):=⟨rfl,rfl,rfl,Nat.le_refl _,fun _ _=>rfl⟩
theorem byte_none {l : List UInt8} {c : UInt8} (h : Lib.indexByte l c=-1) : ∀ x ∈ l,x ≠ c:=fun x hx e=>by
 obtain ⟨k,hk⟩:=List.mem_iff_getElem?.1 hx
 exact Lib.indexByte_none h k (by rw [hk,e])
theorem byte_some {l : List UInt8} {c : UInt8} {o : Nat} (h : Lib.indexByte l c=o) : o < l.length∧l=l.take o++c :: l.drop (o + 1)∧∀ x ∈ l.take o,x ≠ c:=by
 obtain ⟨h1,h2⟩:=Lib.indexByte_some h
 obtain ⟨hl,he⟩:=List.getElem?_eq_some_iff.1 h1
 refine ⟨hl,?_,?_⟩
 ·rw [← he,List.getElem_cons_drop,List.take_append_drop]
 ·intro x hx e
  obtain ⟨k,hk⟩:=List.mem_iff_getElem?.1 hx
  have hk2 : k < o:=by
   have:=(List.getElem?_eq_some_iff.1 hk).1
   rw [List.length_take] at this; omega
  rw [List.getElem?_take_of_lt hk2] at hk
  exact h2 k hk2 (by rw [hk,e])
theorem byte_cases (l : List UInt8) (c : UInt8) : Lib.indexByte l c=-1∨∃ o : Nat,Lib.indexByte l c=o:=by
 have:=Lib.indexByte_ge l c
 by_cases h : Lib.indexByte l c=-1
 ·exact Or.inl h
 ·exact Or.inr ⟨(Lib.indexByte l c).toNat,by omega⟩
theorem splitB_miss {l : List UInt8} {c : UInt8} (h : Lib.indexByte l c=-1) : splitB c l=[l]:=splitB_none (byte_none h)
theorem splitB_hit {l : List UInt8} {c : UInt8} {o : Nat} (h : Lib.indexByte l c=o) : splitB c l=l.take o :: splitB c (l.drop (o + 1)):=by
 obtain ⟨_,h1,h2⟩:=byte_some h
 conv=>lhs; rw [h1]
 exact splitB_at h2
theorem lib_split (c : UInt8) : ∀ (k : Nat) (s : ByteArray),Lib.countB s ⟨#[c]⟩=k→(Lib.splitB ⟨#[c]⟩ 0 k s).map (·.data.toList)=splitB c s.data.toList
 | 0,s,hk=>by
  rcases Lib.indexB_cases s ⟨#[c]⟩ with hix | ⟨i,hix,_⟩
  ·have h2 : Lib.indexByte s.data.toList c=-1:=by rw [← Lib.index_one]; exact hix
   rw [splitB_miss h2]; rfl
  ·have:=Lib.countB_hit s ⟨#[c]⟩ i (Nat.le_refl 1) hix; omega
 | k + 1,s,hk=>by
  rcases Lib.indexB_cases s ⟨#[c]⟩ with hix | ⟨i,hix,_⟩
  ·rw [Lib.countB_miss s _ hix] at hk; omega
  ·have h2 : Lib.indexByte s.data.toList c=i:=by rw [← Lib.index_one]; exact hix
   have h3:=Lib.countB_hit s ⟨#[c]⟩ i (Nat.le_refl 1) hix
   have h4:=lib_split c k (s.extract (i + 1) s.size) (by have : (⟨#[c]⟩ : ByteArray).size=1:=rfl; rw [this] at h3; omega)
   rw [Lib.splitB_hit _ _ _ _ _ hix,List.map_cons,splitB_hit h2]
   have e1 : (s.extract 0 (i + 0)).data.toList=s.data.toList.take i:=by rw [extract_bytes]; simp
   have e2 : (s.extract (i + 1) s.size).data.toList=s.data.toList.drop (i + 1):=by
    rw [extract_bytes]
    rw [List.take_of_length_le (by rw [str_len]; omega)]
   rw [e1]
   congr 1
   rw [← e2]; exact h4
theorem map_S (l : List ByteArray) : (l.map (·.data.toList)).map S=l.map Value.string:=by
 rw [List.map_map]; rfl
theorem pSplit (s : ByteArray) (c : UInt8) (w : World) (hs : s.size≤100) (he : Env w) : Calls Tryz.prog 34 #[.string s,.string ⟨#[c]⟩] w (SplitEnd (splitB c s.data.toList) w):=by
 obtain ⟨m,hm⟩:=he.maxCell
 refine (Tryz.strings_Split s ⟨#[c]⟩ m w (by omega) hm (Nat.le_refl 1)).mono ?_
 rintro e w' ⟨rfl,rfl⟩
 have hl:=lib_split c _ s rfl
 have hlen:=Lib.splitB_all ⟨#[c]⟩ (Nat.le_refl 1) 0 (Lib.countB s ⟨#[c]⟩) s rfl
 have hle:=Lib.countB_le ⟨#[c]⟩ (Nat.le_refl 1) s.size s (Nat.le_refl _)
 refine ⟨_,rfl,?_,Below.alloc1 _ _⟩
 unfold OwnsS
 rw [← hl,map_S,List.length_map,hlen]
 have:=World.ownsRow_lit (base:=w.heap.size) (e:=9) (size:=1) w ((Lib.splitB ⟨#[c]⟩ 0 (Lib.countB s ⟨#[c]⟩) s).map Value.string).toArray (Lib.countB s ⟨#[c]⟩ + 1) (Nat.le_refl _) (by unfold maxLen; omega) (by simp [hlen])
 simpa using this
end Go.Proofs.YtghnopkgcgfcpaaGreatDoor.Cidr
set_option maxHeartbeats 16000000
set_option maxRecDepth 100000
namespace Go.Proofs.YtghnopkgcgfcpaaGreatDoor.Cidr
open Go.RowKit Base
theorem conv_one (w : World) (t : TypeId) (z : Int) (h0 : 0≤z) (h1 : z < 256) :
  (convert 86 9 (.slice (some ⟨w.heap.size,0,none⟩) 1 1)).run Tryz.prog (w.alloc (.cells #[.int .u8 z] t))=.ok (.string ⟨#[UInt8.ofNat z.toNat]⟩) (w.alloc (.cells #[.int .u8 z] t)):=by
 refine run_convert_bytes_back (P:=Tryz.prog) _ 86 9 5 ⟨w.heap.size,0,none⟩ 1 [UInt8.ofNat z.toNat] Tryz.underlying86 Tryz.underlying5 Tryz.underlying9 (fun j hj=>?_)
 rw [Addr.add_lit]
 match j,hj with
 | 0,_ =>
  go_simp
  omega
theorem rDigits_any (n : Nat) (hn : n≤9007199254740992) (w : World) :
  Calls Tryz.prog 59 #[.int .i64 n] w fun e w'=>e=.returned (.string ⟨(Lib.decDigits n).toArray⟩)∧Below w.heap.size w w':=by
 obtain ⟨out,hout⟩ : ∃ out,out=Lib.decDigits n:=⟨_,rfl⟩
 have HO:=Lib.hid hout
 rw [← hout]
 clear hout
 go_enter Tryz.func59,Tryz.ntmps59
 go_wp2
 go_loopw [0,3] (fun m s wr=>∃ (N : Nat) (S : ByteArray),m=.int .i64 N∧s=.string S∧N≤9007199254740992∧N + S.size≤9007199254740992∧Below w.heap.size w wr∧Hid (out=Lib.decDigits N++S.data.toList)) (fun m _ _=>(intOf m).toNat)
 case atStart=>exact ⟨n,⟨#[]⟩,rfl,rfl,hn,(by show n + 0≤_; omega),Below.refl _ _,by unfold Hid; simp [HO.out]⟩
 case round =>
  obtain ⟨N,S,rfl,rfl,hN,hS,hb,hrun⟩:=hrel
  by_cases h10 : 10≤N
  ·have hcv:=conv_one wr 5 (48 + (N : Int) % 10) (by omega) (by omega)
   obtain ⟨D,hD⟩ : ∃ D : ByteArray,D=⟨#[UInt8.ofNat (48 + (N : Int) % 10).toNat]⟩:=⟨_,rfl⟩
   have hDs : D.size≤1:=by rw [hD]; exact Nat.le_refl 1
   have HF : Hid (out=Lib.decDigits (N / 10)++(D++S).data.toList∧(D++S).size=S.size + 1):=by
    refine ⟨?_,?_⟩
    ·rw [hrun.out,Lib.decDigits,dif_neg (by omega),Joins.data_append,hD,show (48 + (N : Int) % 10).toNat=48 + N % 10 by omega]; simp
    ·rw [ByteArray.size_append,hD]; show 1 + S.size=_; omega
   rw [← hD] at hcv
   clear hD hrun
   go_wp2
   go_roundw
   case rel=>exact ⟨N / 10,D++S,by go_num,rfl,by omega,by rw [HF.out.2]; omega,(hb.alloc hb.size _),HF.out.1⟩
   case measure=>simp [intOf]; omega
  ·have hcv:=conv_one wr 5 (48 + (N : Int)) (by omega) (by omega)
   obtain ⟨D,hD⟩ : ∃ D : ByteArray,D=⟨#[UInt8.ofNat (48 + (N : Int)).toNat]⟩:=⟨_,rfl⟩
   have hDs : D.size≤1:=by rw [hD]; exact Nat.le_refl 1
   have HF : Hid (⟨out.toArray⟩=D++S):=by
    unfold Hid
    rw [hrun.out,Lib.decDigits,dif_pos (by omega),show 48 + N=(48 + (N : Int)).toNat by omega]
    apply ByteArray.ext
    apply Array.toList_inj.1
    rw [Joins.data_append,hD]
   rw [← hD] at hcv
   clear hD hrun
   go_wp2
   go_ret
   exact ⟨ret_str HF.out.symm,hb.alloc hb.size _⟩
end Go.Proofs.YtghnopkgcgfcpaaGreatDoor.Cidr
namespace Go.Proofs.YtghnopkgcgfcpaaGreatDoor.Cidr
open Go.RowKit Base
def hexDig (n : Nat) : UInt8:=if n < 10 then UInt8.ofNat (48 + n) else UInt8.ofNat (87 + n)
def hexD (u : Nat) : List UInt8:=if _ : u < 16 then [hexDig u] else hexD (u / 16)++[hexDig (u % 16)]
termination_by u
decreasing_by omega
theorem hex_at (k : Nat) (h : k < 16) : (⟨#[48,49,50,51,52,53,54,55,56,57,97,98,99,100,101,102]⟩ : ByteArray)[k]'h=hexDig k:=by
 have e : ∀ i : Fin 16,(⟨#[48,49,50,51,52,53,54,55,56,57,97,98,99,100,101,102]⟩ : ByteArray)[i.val]'i.isLt=hexDig i.val:=by decide +kernel
 exact e ⟨k,h⟩
theorem rHex (n : Nat) (hn : n≤9007199254740992) (w : World) :
  Calls Tryz.prog 91 #[.int .i64 n] w fun e w'=>e=.returned (.string ⟨(hexD n).toArray⟩)∧Below w.heap.size w w':=by
 obtain ⟨out,hout⟩ : ∃ out,out=hexD n:=⟨_,rfl⟩
 have HO:=Lib.hid hout
 rw [← hout]
 clear hout
 go_enter Tryz.func91,Tryz.ntmps91
 go_wp2
 go_loopw [0,3] (fun m s wr=>∃ (N : Nat) (S : ByteArray),m=.int .i64 N∧s=.string S∧N≤9007199254740992∧N + S.size≤9007199254740992∧Below w.heap.size w wr∧Hid (out=hexD N++S.data.toList)) (fun m _ _=>(intOf m).toNat)
 case atStart=>exact ⟨n,⟨#[]⟩,rfl,rfl,hn,(by show n + 0≤_; omega),Below.refl _ _,by unfold Hid; simp [HO.out]⟩
 case round =>
  obtain ⟨N,S,rfl,rfl,hN,hS,hb,hrun⟩:=hrel
  by_cases h10 : 16≤N
  ·have i1 : (16 : Int)≤(N : Int):=by omega
   have hb0:=((⟨#[48,49,50,51,52,53,54,55,56,57,97,98,99,100,101,102]⟩ : ByteArray)[N % 16]'(Nat.mod_lt _ (by decide))).toNat_lt
   have hcv:=conv_one wr 5 (((⟨#[48,49,50,51,52,53,54,55,56,57,97,98,99,100,101,102]⟩ : ByteArray)[N % 16]'(Nat.mod_lt _ (by decide))).toNat : Int) (by omega) (by omega)
   have hx:=hex_at (N % 16) (Nat.mod_lt _ (by decide))
   obtain ⟨D,hD⟩ : ∃ D : ByteArray,D=⟨#[UInt8.ofNat ((((⟨#[48,49,50,51,52,53,54,55,56,57,97,98,99,100,101,102]⟩ : ByteArray)[N % 16]'(Nat.mod_lt _ (by decide))).toNat : Int)).toNat]⟩:=⟨_,rfl⟩
   have hDs : D.size≤1:=by rw [hD]; exact Nat.le_refl 1
   have HF : Hid (out=hexD (N / 16)++(D++S).data.toList∧(D++S).size=S.size + 1):=by
    refine ⟨?_,?_⟩
    ·rw [hrun.out,hexD,dif_neg (by omega),Joins.data_append,hD,hx]; simp
    ·rw [ByteArray.size_append,hD]; show 1 + S.size=_; omega
   rw [← hD] at hcv
   clear hD hrun hx
   go_wp2
   go_roundw
   case rel=>exact ⟨N / 16,D++S,by go_num,rfl,by omega,by rw [HF.out.2]; omega,(hb.alloc hb.size _),HF.out.1⟩
   case measure=>simp [intOf]; omega
  ·have i1 : ¬ (16 : Int)≤(N : Int):=by omega
   have hN16 : N < 16:=by omega
   have i2 : (N : Int) < 16:=by omega
   have hb0:=((⟨#[48,49,50,51,52,53,54,55,56,57,97,98,99,100,101,102]⟩ : ByteArray)[N]'hN16).toNat_lt
   have hcv:=conv_one wr 5 (((⟨#[48,49,50,51,52,53,54,55,56,57,97,98,99,100,101,102]⟩ : ByteArray)[N]'hN16).toNat : Int) (by omega) (by omega)
   have hx:=hex_at N hN16
   obtain ⟨D,hD⟩ : ∃ D : ByteArray,D=⟨#[UInt8.ofNat ((((⟨#[48,49,50,51,52,53,54,55,56,57,97,98,99,100,101,102]⟩ : ByteArray)[N]'hN16).toNat : Int)).toNat]⟩:=⟨_,rfl⟩
   have hDs : D.size≤1:=by rw [hD]; exact Nat.le_refl 1
   have HF : Hid (⟨out.toArray⟩=D++S):=by
    unfold Hid
    rw [hrun.out,hexD,dif_pos (by omega)]
    apply ByteArray.ext
    apply Array.toList_inj.1
    rw [Joins.data_append,hD,hx]
    simp
   rw [← hD] at hcv
   clear hD hrun hx
   go_wp2
   go_ret
   exact ⟨ret_str HF.out.symm,hb.alloc hb.size _⟩
end Go.Proofs.YtghnopkgcgfcpaaGreatDoor.Cidr
set_option maxHeartbeats 16000000
set_option maxRecDepth 100000
namespace Go.Proofs.YtghnopkgcgfcpaaGreatDoor.Cidr
open Go.RowKit Base
def Tz (w : World) : Prop:=w.cell? ⟨10,15,none⟩=some (.int .u8 4)
theorem Tz.on {w w' : World} (h : Tz w) (hb : Below w.heap.size w w') : Tz w':=(hb.cell (p:=⟨10,15,none⟩) (cell_lt h)).trans h
theorem pow16 (w : World) : Calls Tryz.prog 252 #[.int .i64 16] w fun e w'=>e=.returned (.bool true)∧w'=w:=by
 go_enter Tryz.func252,Tryz.ntmps252
 go_wp2
 go_ret
 exact ⟨rfl,rfl⟩
theorem tz16 (w : World) (h : Tz w) : Calls Tryz.prog 253 #[.int .u64 16] w fun e w'=>e=.returned (.int .i64 4)∧w'=w:=by
 have h2 : w.cell? ⟨10,15,none⟩=some (.int .u8 4):=h
 have e2 : bits BinOp.and IntKind.u64 16 (IntKind.u64.wrap (-16))=16:=by decide +kernel
 have e3 : IntKind.u64.wrap (16 * 285870213051353865)=4573923408821661840:=by decide +kernel
 go_enter Tryz.func253,Tryz.ntmps253
 go_wp2
 go_ret
 exact ⟨rfl,rfl⟩
theorem and15 (u : Nat) (h : u≤65535) : bits .and .u64 (u : Int) 15=((u % 16 : Nat) : Int):=by
 have:=bits_and_u64_nat u 15 (by omega) (by omega)
 rw [show ((15 : Nat) : Int)=15 from rfl] at this
 rw [this]
 congr 1
 exact Nat.and_two_pow_sub_one_eq_mod u 4
def HexAt (w : World) (b : Nat) (l : List UInt8) : Prop:=w.heap[b]?=some (.cells ((List.replicate (65 - l.length) (0 : UInt8)++l).map B8).toArray 320 (0,0))
theorem HexAt.new (w : World) : HexAt (w.alloc (.cells Tryz.zeroCells320 320)) w.heap.size []:=by
 have:=(MapKept.heap_alloc w (.cells Tryz.zeroCells320 320)).1
 unfold HexAt
 rw [this]
 rfl
theorem HexAt.cell {w : World} {b : Nat} {l : List UInt8} (h : HexAt w b l) (hl : l.length≤64) : (∃ z,w.cell? ⟨b,64 - l.length,none⟩=some (.int .u8 z))∧w.frozen? ⟨b,64 - l.length,none⟩=false:=by
 refine ⟨⟨0,?_⟩,by simp [World.frozen?,show w.heap[b]?=_ from h]⟩
 rw [cell_of_row w b _ _ _ _ h]
 simp
 rw [List.getElem?_append_left (by simp; omega),List.getElem?_replicate,if_pos (by omega)]
 rfl
theorem HexAt.put {w : World} {b : Nat} {l : List UInt8} (h : HexAt w b l) (hl : l.length≤64) (x : UInt8) : HexAt (w.setCell ⟨b,64 - l.length,none⟩ (B8 x)) b (x :: l):=by
 have h1:=heap_setCell_any w b (64 - l.length) _ _ _ (B8 x) h
 unfold HexAt
 rw [h1]
 congr 2
 apply Array.toList_inj.1
 rw [List.length_cons,show 65 - l.length=65 - (l.length + 1) + 1 by omega,List.replicate_succ']
 have e : (List.replicate (65 - (l.length + 1)) (B8 0)).length=64 - l.length:=by rw [List.length_replicate]; omega
 simp only [List.setIfInBounds_toArray,List.map_append,List.map_cons,List.map_replicate,List.append_assoc,List.cons_append,List.nil_append]
 rw [← e,List.set_append_right _ _ (Nat.le_refl _),Nat.sub_self,List.set_cons_zero]
theorem HexAt.reads {w : World} {b : Nat} {l : List UInt8} (h : HexAt w b l) (hl : l.length≤64) (h0 : 0 < l.length) (c : Nat) (hc : l.length≤c) : Reads w (.slice (some ⟨b,65 - l.length,none⟩) l.length c) l:=by
 refine Or.inr ⟨b,65 - l.length,c,rfl,hc,fun i hi=>?_⟩
 rw [cell_of_row w b _ _ _ _ h]
 simp
 rw [List.getElem?_append_right (by simp),List.length_replicate,show 65 - l.length + i - (65 - l.length)=i by omega]
 simp [List.getElem?_eq_getElem hi]
theorem dig_at (k : Nat) (h : k < 16) : (⟨#[48,49,50,51,52,53,54,55,56,57,97,98,99,100,101,102,103,104,105,106,107,108,109,110,111,112,113,114,115,116,117,118,119,120,121,122]⟩ : ByteArray)[k]'(Nat.lt_of_lt_of_le h (by decide))=hexDig k:=by
 have e : ∀ i : Fin 16,(⟨#[48,49,50,51,52,53,54,55,56,57,97,98,99,100,101,102,103,104,105,106,107,108,109,110,111,112,113,114,115,116,117,118,119,120,121,122]⟩ : ByteArray)[i.val]'(Nat.lt_of_lt_of_le i.isLt (by decide))=hexDig i.val:=by decide +kernel
 exact e ⟨k,h⟩
theorem slice65 (w : World) (b k : Nat) (h : k≤3) : (Instr.sliceAt 320 (.pointer (some ⟨b,0,none⟩)) (some (.int .i64 ((64 - k : Nat) : Int))) none none).run Tryz.prog w=.ok (.slice (some ⟨b,64 - k,none⟩) (k + 1) (k + 1)) w:=by
 rcases (by omega : k=0∨k=1∨k=2∨k=3) with rfl | rfl | rfl | rfl
 all_goals kernel_rfl
theorem pBits (n : Nat) (hn : n≤65535) (w : World) (htz : Tz w) : Calls Tryz.prog 238 #[.slice none 0 0,.int .u64 (n : Int),.int .i64 16,.bool false,.bool false] w fun e w'=>e=.returned (.tuple #[.slice none 0 0,S (hexD n)])∧Below w.heap.size w w':=by
 have HTZ:=Lib.hid htz
 obtain ⟨out,hout⟩ : ∃ out,out=hexD n:=⟨_,rfl⟩
 have HO:=Lib.hid hout
 rw [← hout]
 clear hout htz
 go_enter Tryz.func238,Tryz.ntmps238
 go_wp2_with (first | (go_at_call 252; refine (pow16 _).mono ?_; rintro e w' ⟨rfl,rfl⟩) | (go_at_call 253; refine (tz16 _ (HTZ.out.on (Below.alloc1 _ _))).mono ?_; rintro e w' ⟨rfl,rfl⟩) | fail)
 obtain ⟨R,hR⟩ : ∃ R : Value→Value→World→Prop,R=fun u i wr=>∃ (N : Nat) (l : List UInt8),u=.int .u64 (N : Int)∧i=.int .i64 (65 - (l.length : Int))∧N * 16 ^ l.length≤65535∧l.length≤3∧HexAt wr w.heap.size l∧Below w.heap.size w wr∧Hid (out=hexD N++l):=⟨_,rfl⟩
 have HR:=Lib.hid hR
 clear hR
 have HN0:=Lib.hid (HexAt.new w)
 have HB0:=Lib.hid (Below.alloc1 w (.cells Tryz.zeroCells320 320))
 go_loopw [1,13] (fun u i wr=>R u i wr) (fun u _ _=>(intOf u).toNat)
 case atStart=>rw [HR.out]; exact ⟨n,[],rfl,rfl,by simpa using hn,by simp,HN0.out,HB0.out,by unfold Hid; simp [HO.out]⟩
 case round =>
  rw [HR.out] at hrel
  obtain ⟨N,l,rfl,rfl,hNl,hl3,hat,hb,ho⟩:=hrel
  have hp : 1≤16 ^ l.length:=Nat.one_le_pow _ _ (by omega)
  have hN : N≤65535:=Nat.le_trans (Nat.le_mul_of_pos_right _ hp) hNl
  obtain ⟨⟨z,c1⟩,c2⟩:=hat.cell (by omega)
  have i0 : (65 - (l.length : Int)) - 1=((64 - l.length : Nat) : Int):=by omega
  by_cases h16 : 16≤N
  ·have i1 : (16 : Int)≤(N : Int):=by omega
   have hl2 : l.length + 1≤3:=by
    rcases (by omega : l.length≤2∨l.length=3) with h | h
    ·omega
    ·rw [h] at hNl; omega
   have hand:=and15 N hN
   have hdg:=dig_at (N % 16) (Nat.mod_lt _ (by decide))
   have HFIN : Hid (R (.int .u64 ((N : Int) / 16)) (.int .i64 ((64 - l.length : Nat) : Int)) (wr.setCell ⟨w.heap.size,64 - l.length,none⟩ (.int .u8 ((hexDig (N % 16)).toNat : Int)))):=by
    show R _ _ _
    rw [HR.out]
    refine ⟨N / 16,hexDig (N % 16) :: l,by push_cast; rfl,by congr 1; simp; omega,?_,by simpa using hl2,hat.put (by omega) _,hb.setCell (p:=⟨w.heap.size,_,none⟩) (Nat.le_refl _) _,?_⟩
    ·rw [List.length_cons,Nat.pow_succ]
     refine Nat.le_trans ?_ hNl
     rw [Nat.mul_comm (16 ^ l.length) 16,← Nat.mul_assoc]
     exact Nat.mul_le_mul_right _ (Nat.div_mul_le_self N 16)
    ·show _=_
     rw [ho.out,hexD,dif_neg (by omega)]; simp
   have hmod : N % 16 < 36:=by omega
   clear hat hb ho hNl hp
   go_wp2
   go_roundw
   case rel=>exact HFIN.out
   case measure=>simp [intOf]; omega
  ·have i1 : ¬ (16 : Int)≤(N : Int):=by omega
   have hN16 : N < 16:=by omega
   have hN36 : N < 36:=by omega
   have hdg:=dig_at N hN16
   have hat2:=hat.put (by omega) (hexDig N)
   have hb2:=hb.setCell (p:=⟨w.heap.size,64 - l.length,none⟩) (Nat.le_refl _) (B8 (hexDig N))
   have HB5:=Lib.hid hb2
   have hrd:=hat2.reads (by simp; omega) (by simp) (l.length + 1) (by simp)
   rw [List.length_cons,show 65 - (l.length + 1)=64 - l.length by omega] at hrd
   have hcv:=conv_reads hrd
   have hsl:=slice65 (wr.setCell ⟨w.heap.size,64 - l.length,none⟩ (.int .u8 ((hexDig N).toNat : Int))) w.heap.size l.length hl3
   have HOUT : Hid ((⟨(hexDig N :: l).toArray⟩ : ByteArray)=⟨out.toArray⟩):=by
    show _=_
    rw [ho.out,hexD,dif_pos hN16]; rfl
   clear hat hb ho hNl hp hat2 hb2 hrd
   go_wp2
   go_ret2
   exact ⟨by rw [HOUT.out]; rfl,HB5.out⟩
theorem pHexF (n : Nat) (hn : n≤65535) (w : World) (htz : Tz w) : Calls Tryz.prog 204 #[.int .u64 (n : Int),.int .i64 16] w fun e w'=>e=.returned (S (hexD n))∧Below w.heap.size w w':=by
 have HB:=Lib.hid (pBits n hn w htz)
 go_enter Tryz.func204,Tryz.ntmps204
 go_wp2_with (first | (go_at_call 238; refine HB.out.mono ?_; rintro e w' ⟨rfl,hb⟩) | go_in)
 go_ret
 exact ⟨rfl,hb⟩
end Go.Proofs.YtghnopkgcgfcpaaGreatDoor.Cidr
namespace Go.Proofs.YtghnopkgcgfcpaaGreatDoor.Cidr
open Go.RowKit Base
def grpA (a : List UInt8) (i : Nat) : Nat:=256 * (a.getD (2 * i) 0).toNat + (a.getD (2 * i + 1) 0).toNat
def grpsA (a : List UInt8) : List Nat:=(List.range 8).map (grpA a)
def runN (G : List Nat) (i : Nat) : Nat:=((G.drop i).takeWhile (· == 0)).length
def bestN (G : List Nat) : Nat→Option Nat × Nat
 | 0=>(none,1)
 | k + 1=>if (bestN G k).2 < runN G k then (some k,runN G k) else bestN G k
def outN (G : List Nat) (o : Option Nat) (most : Nat) : Nat→List UInt8→Nat→List UInt8
 | 0,s,_=>s
 | f + 1,s,i =>
  if i < 8 then
   if o=some i then outN G o most f (s++[58,58]) (i + most)
   else outN G o most f ((if s ≠ []∧s.getLastD 0 ≠ 58 then s++[58] else s)++hexD (G.getD i 0)) (i + 1)
  else s
def form6 (a : List UInt8) : List UInt8:=outN (grpsA a) (bestN (grpsA a) 8).1 (bestN (grpsA a) 8).2 8 [] 0
theorem grpA_le (a : List UInt8) (i : Nat) : grpA a i≤65535:=by
 unfold grpA
 have h1:=(a.getD (2 * i) 0).toNat_lt
 have h2:=(a.getD (2 * i + 1) 0).toNat_lt
 omega
theorem grpsA_len (a : List UInt8) : (grpsA a).length=8:=by unfold grpsA; simp
theorem runN_le (G : List Nat) (i : Nat) : runN G i≤G.length - i:=by
 unfold runN
 exact Nat.le_trans (List.takeWhile_prefix _).length_le (by rw [List.length_drop]; omega)
theorem runN_zero {G : List Nat} {i n : Nat} (h : n < runN G i) : G.getD (i + n) 1=0:=by
 unfold runN at h
 have h1 : ((G.drop i).takeWhile (· == 0))[n]?=some (((G.drop i).takeWhile (· == 0))[n]):=List.getElem?_eq_getElem h
 have hm:=List.mem_of_getElem? h1
 have h2:=List.all_takeWhile (p:=(· == 0)) (l:=G.drop i)
 rw [List.all_eq_true] at h2
 have h3:=h2 _ hm
 obtain ⟨t,ht⟩:=List.takeWhile_prefix (p:=(· == 0)) (l:=G.drop i)
 have h4 : (G.drop i)[n]?=some (((G.drop i).takeWhile (· == 0))[n]):=by
  conv=>lhs; rw [← ht]
  rw [List.getElem?_append_left h]; exact h1
 rw [List.getElem?_drop] at h4
 rw [List.getD_eq_getElem?_getD,h4]
 simpa using h3
theorem bestN_le {G : List Nat} (hG : G.length=8) : ∀ (k : Nat),k≤8→1≤(bestN G k).2∧(bestN G k).2≤8∧∀ i,(bestN G k).1=some i→i + (bestN G k).2≤8
 | 0,_=>⟨Nat.le_refl _,(by show 1≤8; omega),fun i h=>by cases h⟩
 | k + 1,hk=>by
  obtain ⟨h1,h2,h3⟩:=bestN_le hG k (by omega)
  unfold bestN
  split
  ·have:=runN_le G k
   refine ⟨by omega,by show runN G k≤8; omega,fun i h=>?_⟩
   cases h
   show k + runN G k≤8
   omega
  ·exact ⟨h1,h2,h3⟩
end Go.Proofs.YtghnopkgcgfcpaaGreatDoor.Cidr
