/-
  CIDR, the given answers: an address as text.
-/
import Derived.Test.YtdmajikhpacpfaaDoorCidrSix
namespace Go.Proofs.YtdmajikhpacpfaaDoor.Cidr
open Go.RowKit Base
def addrN (s : ByteArray) : Option NetM := match fourN s.data.toList with | some n => some n | none => sixS s
def AddrEnd (o : Option NetM) (w : World) (e : Ending) (w' : World) : Prop :=
  Below w.heap.size w w' ∧ ((o = none ∧ e = .returned (.tuple #[netV zeroN, .int .i64 70])) ∨ ∃ n : NetM, o = some n ∧ n.a.length = 16 ∧ e = .returned (.tuple #[netV n, .int .i64 0]))
theorem net_no {f : FuncId} {args : Array Value} {w : World} (h : Calls Tryd.prog f args w (NetEnd none w)) : Calls Tryd.prog f args w (fun e w' => ∃ n : NetM, n.a.length = 16 ∧ e = .returned (.tuple #[netV n, .bool false]) ∧ Below w.heap.size w w') :=
  h.mono fun e w' h => by
    rcases h with ⟨hb, ⟨_, n, h1, h2⟩ | ⟨n, h1, _⟩⟩
    · exact ⟨n, h1, h2, hb⟩
    · cases h1
theorem net_yes {f : FuncId} {args : Array Value} {w : World} {n : NetM} (h : Calls Tryd.prog f args w (NetEnd (some n) w)) : Calls Tryd.prog f args w (fun e w' => n.a.length = 16 ∧ e = .returned (.tuple #[netV n, .bool true]) ∧ Below w.heap.size w w') :=
  h.mono fun e w' h => by
    rcases h with ⟨hb, ⟨h1, _⟩ | ⟨m, h1, h2, h3⟩⟩
    · cases h1
    · cases h1; exact ⟨h2, h3, hb⟩
/-- A new box, a range stored into it. -/
theorem net_new {w w2 : World} {n : NetM} (ha : n.a.length = 16) (hw : (w.alloc (.cells (netC zeroN) 25)).setCells w.heap.size 0 (netC n).toList = w2) : NetAt w2 w.heap.size n ∧ Below w.heap.size w w2 := by
  obtain ⟨h1, h2, _⟩ := net_put (NetAt.new w zeroN) rfl ha hw
  exact ⟨h1, (Below.alloc1 _ _).trans (h2.below (Nat.le_refl _) (by simp))⟩
theorem net_again {w w2 : World} {b B : Nat} {m n : NetM} (h : NetAt w b m) (hm : m.a.length = 16) (ha : n.a.length = 16) (hB : B ≤ b) (hw : w.setCells b 0 (netC n).toList = w2) : NetAt w2 b n ∧ Below B w w2 ∧ KeepX b w w2 := by
  obtain ⟨h1, h2, _⟩ := net_put h (netC_size hm) ha hw
  exact ⟨h1, h2.below hB (heap_lt h), h2⟩
theorem there_net {w : World} {b : Nat} {m n : NetM} (h : NetAt w b m) (hm : m.a.length = 16) (ha : n.a.length = 16) : w.there b 0 (netC n).size := there_of h (by rw [netC_size hm, netC_size ha]; omega)
set_option maxHeartbeats 4000000 in
set_option maxRecDepth 100000 in
theorem rAddr (s : ByteArray) (w : World) (hs : s.size ≤ 4294967280) : Calls Tryd.prog 10 #[.string s] w (AddrEnd (addrN s) w) := by
  have HB0 := Lib.hid (Below.alloc1 w (.cells (netC zeroN) 25))
  have HN0 := Lib.hid (NetAt.new w zeroN)
  have HF := Lib.hid (fun w => rFour s w hs)
  have HX := Lib.hid (fun w => rSix s w hs)
  obtain ⟨o, ho⟩ : ∃ o, o = addrN s := ⟨_, rfl⟩
  rw [← ho]
  unfold addrN at ho
  generalize fourN s.data.toList = o4 at ho HF
  generalize sixS s = o6 at ho HX
  have HO := Lib.hid ho
  clear ho
  go_enter Tryd.func10, Tryd.ntmps10
  cases o4 with
  | some n =>
    have HY : Hid (o = some n) := HO.out
    have HF2 := Lib.hid (fun wx => net_yes (HF.out wx))
    clear HF HX HO
    go_wp2_with (go_at_call 28; refine (HF2.out _).mono ?_; rintro e w1 ⟨ha, rfl, b1⟩; refine Hid.out ?_)
    refine Lib.hid ?_
    have HA := Lib.hid ha
    have HN1 : Hid (NetAt w1 w.heap.size zeroN) := HN0.out.on b1
    have HB1 : Hid (Below w.heap.size w w1) := HB0.out.trans (b1.mono HB0.out.size)
    have HT := Lib.hid (there_net (NetAt.new w1 zeroN) rfl HA.out)
    have HC := Lib.hid (size25c HA.out)
    clear ha b1
    go_wp2_with (first | (refine wpList_store_mid rfl 25 (.tmp 4) (.tmp 9) rfl w1.heap.size 0 (netC n) rfl rfl HT.out HC.out (netC_all _) ?_; generalize hw2 : World.setCells _ _ _ _ = w2; refine Hid.out ?_) | fail)
    refine Lib.hid ?_
    obtain ⟨hn2, hb2⟩ := net_new HA.out hw2
    have HN2 := Lib.hid hn2
    have HN20 : Hid (NetAt w2 w.heap.size zeroN) := HN1.out.on hb2
    have HB2 : Hid (Below w.heap.size w w2) := HB1.out.trans (hb2.mono HB1.out.size)
    have HL2 := Lib.hid (heap_lt HN1.out)
    clear hw2 hn2 hb2 HT HC
    have HSt := Lib.hid (size25_of HA.out)
    have HTt := Lib.hid (there_net HN20.out rfl HA.out)
    have HCt := Lib.hid (size25c HA.out)
    go_wp2_with (first | (refine wpList_load_mid rfl 25 (.tmp 4) rfl w1.heap.size 0 rfl (netL n) _ HN2.out.range0 Tryd.underlying25 rfl HSt.out ?_) | (refine wpList_store_mid rfl 25 (.tmp 2) (.tmp 12) rfl w.heap.size 0 (netC n) rfl rfl HTt.out HCt.out (netC_all _) ?_; generalize hwf : World.setCells _ _ _ _ = wf; refine Hid.out ?_) | fail)
    refine Lib.hid ?_
    obtain ⟨hnf, hbf, _⟩ := net_again HN20.out rfl HA.out (Nat.le_refl _) hwf
    have HNF := Lib.hid hnf
    have HBF := Lib.hid hbf
    clear hnf hbf hwf
    go_wp2
    exact bodyPost_ret (results_net Tryd.results10 rfl rfl HNF.out HA.out) rfl ⟨HB2.out.trans HBF.out, Or.inr ⟨n, HY.out, HA.out, rfl⟩⟩
  | none =>
    have HO2 : Hid (o = o6) := HO.out
    have HF2 := Lib.hid (fun wx => net_no (HF.out wx))
    clear HF HO
    go_wp2_with (go_at_call 28; refine (HF2.out _).mono ?_; rintro e w1 ⟨n, ha, rfl, b1⟩; refine Hid.out ?_)
    refine Lib.hid ?_
    have HA := Lib.hid ha
    have HN1 : Hid (NetAt w1 w.heap.size zeroN) := HN0.out.on b1
    have HB1 : Hid (Below w.heap.size w w1) := HB0.out.trans (b1.mono HB0.out.size)
    have HT := Lib.hid (there_net (NetAt.new w1 zeroN) rfl HA.out)
    have HC := Lib.hid (size25c HA.out)
    clear ha b1
    go_wp2_with (first | (refine wpList_store_mid rfl 25 (.tmp 4) (.tmp 9) rfl w1.heap.size 0 (netC n) rfl rfl HT.out HC.out (netC_all _) ?_; generalize hw2 : World.setCells _ _ _ _ = w2; refine Hid.out ?_) | fail)
    refine Lib.hid ?_
    obtain ⟨hn2, hb2⟩ := net_new HA.out hw2
    have HN2 := Lib.hid hn2
    have HN20 : Hid (NetAt w2 w.heap.size zeroN) := HN1.out.on hb2
    have HB2 : Hid (Below w.heap.size w w2) := HB1.out.trans (hb2.mono HB1.out.size)
    have HL2 := Lib.hid (heap_lt HN1.out)
    clear hw2 hn2 hb2 HT HC
    cases o6 with
    | some m =>
      have HY : Hid (o = some m) := HO2.out
      have HX2 := Lib.hid (fun wx => net_yes (HX.out wx))
      clear HX HO2
      go_wp2_with (go_at_call 29; refine (HX2.out _).mono ?_; rintro e w3 ⟨hm, rfl, b3⟩; refine Hid.out ?_)
      refine Lib.hid ?_
      have HM := Lib.hid hm
      have HN3 := Lib.hid (HN2.out.on b3)
      have HN30 := Lib.hid (HN20.out.on b3)
      have HB3 := Lib.hid (HB2.out.trans (b3.mono HB2.out.size))
      have HT3 := Lib.hid (there_net HN3.out HA.out HM.out)
      have HC3 := Lib.hid (size25c HM.out)
      clear hm b3
      go_wp2_with (first | (refine wpList_store_mid rfl 25 (.tmp 4) (.tmp 16) rfl w1.heap.size 0 (netC m) rfl rfl HT3.out HC3.out (netC_all _) ?_; generalize hw4 : World.setCells _ _ _ _ = w4; refine Hid.out ?_) | fail)
      refine Lib.hid ?_
      obtain ⟨hn4, hb4, hk4⟩ := net_again HN3.out HA.out HM.out (Nat.le_of_lt HL2.out) hw4
      have HN4 := Lib.hid hn4
      have HN40 : Hid (NetAt w4 w.heap.size zeroN) := HN30.out.kept hk4 (by have := HL2.out; omega)
      have HB4 := Lib.hid (HB3.out.trans hb4)
      clear hw4 hn4 hb4 hk4
      have HSt := Lib.hid (size25_of HM.out)
      have HTt := Lib.hid (there_net HN40.out rfl HM.out)
      have HCt := Lib.hid (size25c HM.out)
      go_wp2_with (first | (refine wpList_load_mid rfl 25 (.tmp 4) rfl w1.heap.size 0 rfl (netL m) _ HN4.out.range0 Tryd.underlying25 rfl HSt.out ?_) | (refine wpList_store_mid rfl 25 (.tmp 2) (.tmp 19) rfl w.heap.size 0 (netC m) rfl rfl HTt.out HCt.out (netC_all _) ?_; generalize hwf : World.setCells _ _ _ _ = wf; refine Hid.out ?_) | fail)
      refine Lib.hid ?_
      obtain ⟨hnf, hbf, _⟩ := net_again HN40.out rfl HM.out (Nat.le_refl _) hwf
      have HNF := Lib.hid hnf
      have HBF := Lib.hid hbf
      clear hnf hbf hwf
      go_wp2
      exact bodyPost_ret (results_net Tryd.results10 rfl rfl HNF.out HM.out) rfl ⟨HB4.out.trans HBF.out, Or.inr ⟨m, HY.out, HM.out, rfl⟩⟩
    | none =>
      have HX2 := Lib.hid (fun wx => net_no (HX.out wx))
      have HNO : Hid (o = none) := HO2.out
      clear HX HO2
      go_wp2_with (go_at_call 29; refine (HX2.out _).mono ?_; rintro e w3 ⟨m, hm, rfl, b3⟩; refine Hid.out ?_)
      refine Lib.hid ?_
      have HM := Lib.hid hm
      have HN3 := Lib.hid (HN2.out.on b3)
      have HN30 := Lib.hid (HN20.out.on b3)
      have HB3 := Lib.hid (HB2.out.trans (b3.mono HB2.out.size))
      have HT3 := Lib.hid (there_net HN3.out HA.out HM.out)
      have HC3 := Lib.hid (size25c HM.out)
      clear hm b3
      go_wp2_with (first | (refine wpList_store_mid rfl 25 (.tmp 4) (.tmp 16) rfl w1.heap.size 0 (netC m) rfl rfl HT3.out HC3.out (netC_all _) ?_; generalize hw4 : World.setCells _ _ _ _ = w4; refine Hid.out ?_) | fail)
      refine Lib.hid ?_
      obtain ⟨hn4, hb4, hk4⟩ := net_again HN3.out HA.out HM.out (Nat.le_of_lt HL2.out) hw4
      have HN4 := Lib.hid hn4
      have HN40 : Hid (NetAt w4 w.heap.size zeroN) := HN30.out.kept hk4 (by have := HL2.out; omega)
      have HB4 := Lib.hid (HB3.out.trans hb4)
      clear hw4 hn4 hb4 hk4
      have HTt := Lib.hid (there_net (n := zeroN) HN40.out rfl rfl)
      have HCt := Lib.hid (size25c (n := zeroN) rfl)
      go_wp2_with (first | (refine wpList_store_mid rfl 25 (.tmp 2) (.tmp 20) rfl w.heap.size 0 (netC zeroN) rfl rfl HTt.out HCt.out (netC_all _) ?_; generalize hwf : World.setCells _ _ _ _ = wf; refine Hid.out ?_) | fail)
      refine Lib.hid ?_
      obtain ⟨hnf, hbf, _⟩ := net_again (n := zeroN) HN40.out rfl rfl (Nat.le_refl _) hwf
      have HNF := Lib.hid hnf
      have HBF := Lib.hid hbf
      clear hnf hbf hwf
      go_wp2
      exact bodyPost_ret (results_net Tryd.results10 rfl rfl HNF.out rfl) rfl ⟨HB4.out.trans HBF.out, Or.inl ⟨HNO.out, rfl⟩⟩
end Go.Proofs.YtdmajikhpacpfaaDoor.Cidr
