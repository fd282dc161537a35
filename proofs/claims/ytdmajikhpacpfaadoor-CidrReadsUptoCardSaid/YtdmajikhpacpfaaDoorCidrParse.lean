/-
  CIDR, the given answers: a range as text.
-/
import Derived.Test.YtdmajikhpacpfaaDoorCidrAddr
namespace Go.Proofs.YtdmajikhpacpfaaDoor.Cidr
open Go.RowKit Base
def rightO (n : NetM) : Option NetM := if rightN n = true then some n else none
def parseL : List (List UInt8) → Option NetM
  | [p] => (addrN ⟨p.toArray⟩).bind rightO
  | [p, q] => (addrN ⟨p.toArray⟩).bind fun n => (decN q).bind fun k => rightO { n with bits := (k : Int) }
  | _ => none
def parseN (s : ByteArray) : Option NetM := parseL (splitB 47 s.data.toList)
theorem addr_no {f : FuncId} {args : Array Value} {w : World} (h : Calls Tryd.prog f args w (AddrEnd none w)) : Calls Tryd.prog f args w (fun e w' => e = .returned (.tuple #[netV zeroN, .int .i64 70]) ∧ Below w.heap.size w w') :=
  h.mono fun e w' h => by
    rcases h with ⟨hb, ⟨_, h2⟩ | ⟨n, h1, _⟩⟩
    · exact ⟨h2, hb⟩
    · cases h1
theorem addr_yes {f : FuncId} {args : Array Value} {w : World} {n : NetM} (h : Calls Tryd.prog f args w (AddrEnd (some n) w)) : Calls Tryd.prog f args w (fun e w' => n.a.length = 16 ∧ e = .returned (.tuple #[netV n, .int .i64 0]) ∧ Below w.heap.size w w') :=
  h.mono fun e w' h => by
    rcases h with ⟨hb, ⟨h1, _⟩ | ⟨m, h1, h2, h3⟩⟩
    · cases h1
    · cases h1; exact ⟨h2, h3, hb⟩
theorem NetAt.setBits {w : World} {b : Nat} {n : NetM} (h : NetAt w b n) (k : Int) : NetAt (w.setCell ⟨b, 1, none⟩ (.int .i64 k)) b { n with bits := k } := by
  have h1 := heap_setCell_any w b 1 _ _ _ (.int .i64 k) h
  unfold NetAt
  rw [h1]
  congr 2
theorem NetAt.frozen {w : World} {b : Nat} {n : NetM} (h : NetAt w b n) (j : Nat) : w.frozen? ⟨b, j, none⟩ = false := by simp [World.frozen?, show w.heap[b]? = _ from h]
theorem piece_len {c : UInt8} : ∀ {l p : List UInt8}, p ∈ splitB c l → p.length ≤ l.length
  | [], p, h => by simp [splitB] at h; subst h; simp
  | x :: r, p, h => by
    rw [splitB_eq] at h
    split at h
    · rcases List.mem_cons.1 h with rfl | h
      · simp
      · have := piece_len h; simp; omega
    · split at h
      · rename_i hq
        exact absurd hq (splitB_ne c r)
      · rename_i hd tl hq
        rcases List.mem_cons.1 h with rfl | h
        · have := piece_len (c := c) (l := r) (p := hd) (by rw [hq]; exact List.mem_cons_self); simp; omega
        · have := piece_len (c := c) (l := r) (p := p) (by rw [hq]; exact List.mem_cons_of_mem _ h); simp; omega
theorem arr_size (p : List UInt8) : (⟨p.toArray⟩ : ByteArray).size = p.length := by show p.toArray.size = _; simp
set_option maxHeartbeats 4000000 in
set_option maxRecDepth 100000 in
theorem rParse (s : ByteArray) (w : World) (hs : s.size ≤ 4294967280) : Calls Tryd.prog 12 #[.string s] w (AddrEnd (parseN s) w) := by
  have HB0 := Lib.hid (Below.alloc1 w (.cells (netC zeroN) 25))
  have HN0 := Lib.hid (NetAt.new w zeroN)
  have HSP := Lib.hid (fun w => rSplit s 47 w hs)
  obtain ⟨o, ho⟩ : ∃ o, o = parseN s := ⟨_, rfl⟩
  rw [← ho]
  unfold parseN at ho
  have HPL := Lib.hid (fun p => @piece_len 47 s.data.toList p)
  have hne := splitB_ne 47 s.data.toList
  generalize splitB 47 s.data.toList = ps at ho HSP HPL hne
  obtain ⟨p, rest, rfl⟩ : ∃ p rest, ps = p :: rest := by
    cases ps with
    | nil => exact absurd rfl hne
    | cons a b => exact ⟨a, b, rfl⟩
  clear hne
  have HAD := Lib.hid (fun w => rAddr ⟨p.toArray⟩ w (by rw [arr_size]; have := HPL.out p List.mem_cons_self; rw [str_len] at this; omega))
  have HO := Lib.hid ho
  clear ho
  go_enter Tryd.func12, Tryd.ntmps12
  go_wp2_with (go_at_call 32; refine (HSP.out _).mono ?_; rintro e w1 ⟨v1, rfl, o1, b1⟩; refine Hid.out ?_)
  refine Lib.hid ?_
  obtain ⟨pa, pc, rfl, _⟩ := o1.form
  obtain ⟨pb, rfl, hc0⟩ := o1.cell (i := 0) (x := p) rfl
  have HP := Lib.hid o1
  have HN1 : Hid (NetAt w1 w.heap.size zeroN) := HN0.out.on b1
  have HB1 : Hid (Below w.heap.size w w1) := HB0.out.trans (b1.mono HB0.out.size)
  have hl0 : (0 : Int) < ((p :: rest).length : Int) := by (simp; try omega)
  clear o1 b1
  cases hgo : addrN ⟨p.toArray⟩ with
  | none =>
    have HNO : Hid (o = none) := by
      refine HO.out.trans ?_
      match rest with
      | [] => simp [parseL, hgo]
      | [q] => simp [parseL, hgo]
      | _ :: _ :: _ => rfl
    rw [hgo] at HAD
    have HA2 := Lib.hid (fun wx => addr_no (HAD.out wx))
    clear HAD HO hgo
    go_wp2_with (go_at_call 10; refine (HA2.out _).mono ?_; rintro e w2 ⟨rfl, b2⟩; refine Hid.out ?_)
    refine Lib.hid ?_
    have ha : zeroN.a.length = 16 := rfl
    have HA : Hid ((zeroN).a.length = 16) := ha
    have HN2 : Hid (NetAt w2 w.heap.size zeroN) := HN1.out.on b2
    have HB2 : Hid (Below w.heap.size w w2) := HB1.out.trans (b2.mono HB1.out.size)
    have HBp := Lib.hid b2
    have HT := Lib.hid (there_net (NetAt.new w2 zeroN) rfl HA.out)
    have HC := Lib.hid (size25c HA.out)
    clear ha b2
    go_wp2_with (first | (refine wpList_store_mid rfl 25 (.tmp 5) (.tmp 17) rfl w2.heap.size 0 (netC zeroN) rfl rfl HT.out HC.out (netC_all _) ?_; generalize hw3 : World.setCells _ _ _ _ = w3; refine Hid.out ?_) | fail)
    refine Lib.hid ?_
    obtain ⟨hn3, hb3⟩ := net_new HA.out hw3
    have HN3 := Lib.hid hn3
    have HN30 : Hid (NetAt w3 w.heap.size zeroN) := HN2.out.on hb3
    have HB3 : Hid (Below w.heap.size w w3) := HB2.out.trans (hb3.mono HB2.out.size)
    have HL3 := Lib.hid (heap_lt HN2.out)
    have B23 := Lib.hid (HBp.out.trans (hb3.mono HBp.out.size))
    clear hw3 hn3 hb3 HT HC
    have HTt := Lib.hid (there_net (n := zeroN) HN30.out rfl rfl)
    have HCt := Lib.hid (size25c (n := zeroN) rfl)
    go_wp2_with (first | (refine wpList_store_mid rfl 25 (.tmp 2) (.tmp 26) rfl w.heap.size 0 (netC zeroN) rfl rfl HTt.out HCt.out (netC_all _) ?_; generalize hwf : World.setCells _ _ _ _ = wf; refine Hid.out ?_) | fail)
    refine Lib.hid ?_
    obtain ⟨hnf, hbf, _⟩ := net_again (n := zeroN) HN30.out rfl rfl (Nat.le_refl _) hwf
    have HNF := Lib.hid hnf
    have HBF := Lib.hid hbf
    clear hnf hbf hwf
    go_wp2
    exact bodyPost_ret (results_net Tryd.results12 rfl rfl HNF.out rfl) rfl ⟨(HB3.out).trans HBF.out, Or.inl ⟨HNO.out, rfl⟩⟩
  | some n =>
    rw [hgo] at HAD
    have HA2 := Lib.hid (fun wx => addr_yes (HAD.out wx))
    clear HAD
    go_wp2_with (go_at_call 10; refine (HA2.out _).mono ?_; rintro e w2 ⟨ha, rfl, b2⟩; refine Hid.out ?_)
    refine Lib.hid ?_
    have HA : Hid ((n).a.length = 16) := ha
    have HN2 : Hid (NetAt w2 w.heap.size zeroN) := HN1.out.on b2
    have HB2 : Hid (Below w.heap.size w w2) := HB1.out.trans (b2.mono HB1.out.size)
    have HBp := Lib.hid b2
    have HT := Lib.hid (there_net (NetAt.new w2 zeroN) rfl HA.out)
    have HC := Lib.hid (size25c HA.out)
    clear ha b2
    go_wp2_with (first | (refine wpList_store_mid rfl 25 (.tmp 5) (.tmp 17) rfl w2.heap.size 0 (netC n) rfl rfl HT.out HC.out (netC_all _) ?_; generalize hw3 : World.setCells _ _ _ _ = w3; refine Hid.out ?_) | fail)
    refine Lib.hid ?_
    obtain ⟨hn3, hb3⟩ := net_new HA.out hw3
    have HN3 := Lib.hid hn3
    have HN30 : Hid (NetAt w3 w.heap.size zeroN) := HN2.out.on hb3
    have HB3 : Hid (Below w.heap.size w w3) := HB2.out.trans (hb3.mono HB2.out.size)
    have HL3 := Lib.hid (heap_lt HN2.out)
    have B23 := Lib.hid (HBp.out.trans (hb3.mono HBp.out.size))
    clear hw3 hn3 hb3 HT HC
    match rest with
    | [] =>
      have HO2 : Hid (o = rightO n) := by refine HO.out.trans ?_; simp [parseL, hgo]
      clear HO hgo
      have HRI := Lib.hid (fun wx => rRight n HA.out wx)
      have HSt := Lib.hid (size25_of HA.out)
      have HO9 := Lib.hid HO2.out
      unfold rightO at HO9
      generalize rightN n = rb at HRI HO9
      clear HO2
      go_wp2_with (first | (refine wpList_load_mid rfl 25 (.tmp 5) rfl w2.heap.size 0 rfl (netL n) _ HN3.out.range0 Tryd.underlying25 rfl HSt.out ?_) | (go_at_call 19; refine (HRI.out _).mono ?_; rintro e w5 ⟨rfl, b5⟩; refine Hid.out ?_) | fail)
      refine Lib.hid ?_
      have HN5 := Lib.hid (HN3.out.on b5)
      have HN50 := Lib.hid (HN30.out.on b5)
      have HB5 : Hid (Below w.heap.size w w5) := HB3.out.trans (b5.mono HB3.out.size)
      clear b5
      cases rb with
      | false =>
        have HNO : Hid (o = none) := HO9.out
        have HTt := Lib.hid (there_net (n := zeroN) HN50.out rfl rfl)
        have HCt := Lib.hid (size25c (n := zeroN) rfl)
        go_wp2_with (first | (refine wpList_store_mid rfl 25 (.tmp 2) (.tmp 46) rfl w.heap.size 0 (netC zeroN) rfl rfl HTt.out HCt.out (netC_all _) ?_; generalize hwf : World.setCells _ _ _ _ = wf; refine Hid.out ?_) | fail)
        refine Lib.hid ?_
        obtain ⟨hnf, hbf, _⟩ := net_again (n := zeroN) HN50.out rfl rfl (Nat.le_refl _) hwf
        have HNF := Lib.hid hnf
        have HBF := Lib.hid hbf
        clear hnf hbf hwf
        go_wp2
        exact bodyPost_ret (results_net Tryd.results12 rfl rfl HNF.out rfl) rfl ⟨(HB5.out).trans HBF.out, Or.inl ⟨HNO.out, rfl⟩⟩
      | true =>
        have HY : Hid (o = some n) := HO9.out
        have HTt := Lib.hid (there_net HN50.out rfl HA.out)
        have HCt := Lib.hid (size25c HA.out)
        go_wp2_with (first | (refine wpList_load_mid rfl 25 (.tmp 5) rfl w2.heap.size 0 rfl (netL n) _ HN5.out.range0 Tryd.underlying25 rfl HSt.out ?_) | (refine wpList_store_mid rfl 25 (.tmp 2) (.tmp 47) rfl w.heap.size 0 (netC n) rfl rfl HTt.out HCt.out (netC_all _) ?_; generalize hwf : World.setCells _ _ _ _ = wf; refine Hid.out ?_) | fail)
        refine Lib.hid ?_
        obtain ⟨hnf, hbf, _⟩ := net_again HN50.out rfl HA.out (Nat.le_refl _) hwf
        have HNF := Lib.hid hnf
        have HBF := Lib.hid hbf
        clear hnf hbf hwf
        go_wp2
        exact bodyPost_ret (results_net Tryd.results12 rfl rfl HNF.out HA.out) rfl ⟨HB5.out.trans HBF.out, Or.inr ⟨n, HY.out, HA.out, rfl⟩⟩
    | [q] =>
      have HO2 : Hid (o = (decN q).bind fun k => rightO { n with bits := (k : Int) }) := by refine HO.out.trans ?_; simp [parseL, hgo]
      obtain ⟨_, hq1, hq2⟩ := (HP.out.on B23.out).cell (i := 1) (x := q) rfl
      cases hq1
      have HD := Lib.hid (fun wx => rDecimal ⟨q.toArray⟩ wx)
      rw [show (⟨q.toArray⟩ : ByteArray).data.toList = q from rfl] at HD
      clear HO hgo
      cases hdq : decN q with
      | none =>
        have HNO : Hid (o = none) := by refine HO2.out.trans ?_; rw [hdq]; rfl
        rw [hdq] at HD
        clear HO2 hdq
        go_wp2_with (go_at_call 33; refine (HD.out _).mono ?_; rintro e w4 ⟨rfl, rfl⟩; refine Hid.out ?_)
        refine Lib.hid ?_
        have HTt := Lib.hid (there_net (n := zeroN) HN30.out rfl rfl)
        have HCt := Lib.hid (size25c (n := zeroN) rfl)
        go_wp2_with (first | (refine wpList_store_mid rfl 25 (.tmp 2) (.tmp 39) rfl w.heap.size 0 (netC zeroN) rfl rfl HTt.out HCt.out (netC_all _) ?_; generalize hwf : World.setCells _ _ _ _ = wf; refine Hid.out ?_) | fail)
        refine Lib.hid ?_
        obtain ⟨hnf, hbf, _⟩ := net_again (n := zeroN) HN30.out rfl rfl (Nat.le_refl _) hwf
        have HNF := Lib.hid hnf
        have HBF := Lib.hid hbf
        clear hnf hbf hwf
        go_wp2
        exact bodyPost_ret (results_net Tryd.results12 rfl rfl HNF.out rfl) rfl ⟨(HB3.out).trans HBF.out, Or.inl ⟨HNO.out, rfl⟩⟩
      | some k =>
        have HO3 : Hid (o = rightO { n with bits := (k : Int) }) := by refine HO2.out.trans ?_; rw [hdq]; rfl
        rw [hdq] at HD
        clear HO2 hdq
        obtain ⟨hset, hkeep⟩ : NetAt (w3.setCell ⟨w2.heap.size, 1, none⟩ (.int .i64 (k : Int))) w2.heap.size { n with bits := (k : Int) } ∧ KeepX w2.heap.size w3 (w3.setCell ⟨w2.heap.size, 1, none⟩ (.int .i64 (k : Int))) := ⟨HN3.out.setBits _, KeepX.set _ _ _ _⟩
        have hcb := HN3.out.bits
        have hfb := HN3.out.frozen 1
        have HNb := Lib.hid hset
        have HNb0 : Hid (NetAt (w3.setCell ⟨w2.heap.size, 1, none⟩ (.int .i64 (k : Int))) w.heap.size zeroN) := HN30.out.kept hkeep (by have := HL3.out; omega)
        have HBb : Hid (Below w.heap.size w (w3.setCell ⟨w2.heap.size, 1, none⟩ (.int .i64 (k : Int)))) := HB3.out.trans (hkeep.below (Nat.le_of_lt HL3.out) (heap_lt HN3.out))
        clear hset hkeep
        go_wp2_with (go_at_call 33; refine (HD.out _).mono ?_; rintro e w4 ⟨rfl, rfl⟩; refine Hid.out ?_)
        refine Lib.hid ?_
        generalize hm : ({ n with bits := (k : Int) } : NetM) = m at HNb HO3
        have HAb : Hid (m.a.length = 16) := by rw [← hm]; exact HA.out
        clear hm
        have HRI := Lib.hid (fun wx => rRight m HAb.out wx)
        have HSt := Lib.hid (size25_of HAb.out)
        have HO9 := Lib.hid HO3.out
        unfold rightO at HO9
        generalize rightN m = rb at HRI HO9
        clear HO3
        go_wp2_with (first | (refine wpList_load_mid rfl 25 (.tmp 5) rfl w2.heap.size 0 rfl (netL m) _ HNb.out.range0 Tryd.underlying25 rfl HSt.out ?_) | (go_at_call 19; refine (HRI.out _).mono ?_; rintro e w5 ⟨rfl, b5⟩; refine Hid.out ?_) | fail)
        refine Lib.hid ?_
        have HN5 := Lib.hid (HNb.out.on b5)
        have HN50 := Lib.hid (HNb0.out.on b5)
        have HB5 : Hid (Below w.heap.size w w5) := HBb.out.trans (b5.mono HBb.out.size)
        clear b5
        cases rb with
        | false =>
          have HNO : Hid (o = none) := HO9.out
          have HTt := Lib.hid (there_net (n := zeroN) HN50.out rfl rfl)
          have HCt := Lib.hid (size25c (n := zeroN) rfl)
          go_wp2_with (first | (refine wpList_store_mid rfl 25 (.tmp 2) (.tmp 46) rfl w.heap.size 0 (netC zeroN) rfl rfl HTt.out HCt.out (netC_all _) ?_; generalize hwf : World.setCells _ _ _ _ = wf; refine Hid.out ?_) | fail)
          refine Lib.hid ?_
          obtain ⟨hnf, hbf, _⟩ := net_again (n := zeroN) HN50.out rfl rfl (Nat.le_refl _) hwf
          have HNF := Lib.hid hnf
          have HBF := Lib.hid hbf
          clear hnf hbf hwf
          go_wp2
          exact bodyPost_ret (results_net Tryd.results12 rfl rfl HNF.out rfl) rfl ⟨(HB5.out).trans HBF.out, Or.inl ⟨HNO.out, rfl⟩⟩
        | true =>
          have HY : Hid (o = some m) := HO9.out
          have HTt := Lib.hid (there_net HN50.out rfl HAb.out)
          have HCt := Lib.hid (size25c HAb.out)
          go_wp2_with (first | (refine wpList_load_mid rfl 25 (.tmp 5) rfl w2.heap.size 0 rfl (netL m) _ HN5.out.range0 Tryd.underlying25 rfl HSt.out ?_) | (refine wpList_store_mid rfl 25 (.tmp 2) (.tmp 47) rfl w.heap.size 0 (netC m) rfl rfl HTt.out HCt.out (netC_all _) ?_; generalize hwf : World.setCells _ _ _ _ = wf; refine Hid.out ?_) | fail)
          refine Lib.hid ?_
          obtain ⟨hnf, hbf, _⟩ := net_again HN50.out rfl HAb.out (Nat.le_refl _) hwf
          have HNF := Lib.hid hnf
          have HBF := Lib.hid hbf
          clear hnf hbf hwf
          go_wp2
          exact bodyPost_ret (results_net Tryd.results12 rfl rfl HNF.out HAb.out) rfl ⟨HB5.out.trans HBF.out, Or.inr ⟨m, HY.out, HAb.out, rfl⟩⟩
    | q :: q2 :: r2 =>
      have HNO : Hid (o = none) := HO.out
      have hl3 : (2 : Int) < ((p :: q :: q2 :: r2).length : Int) := by (simp; try omega)
      clear HO hgo
      have HTt := Lib.hid (there_net (n := zeroN) HN30.out rfl rfl)
      have HCt := Lib.hid (size25c (n := zeroN) rfl)
      go_wp2_with (first | (refine wpList_store_mid rfl 25 (.tmp 2) (.tmp 26) rfl w.heap.size 0 (netC zeroN) rfl rfl HTt.out HCt.out (netC_all _) ?_; generalize hwf : World.setCells _ _ _ _ = wf; refine Hid.out ?_) | fail)
      refine Lib.hid ?_
      obtain ⟨hnf, hbf, _⟩ := net_again (n := zeroN) HN30.out rfl rfl (Nat.le_refl _) hwf
      have HNF := Lib.hid hnf
      have HBF := Lib.hid hbf
      clear hnf hbf hwf
      go_wp2
      exact bodyPost_ret (results_net Tryd.results12 rfl rfl HNF.out rfl) rfl ⟨(HB3.out).trans HBF.out, Or.inl ⟨HNO.out, rfl⟩⟩
end Go.Proofs.YtdmajikhpacpfaaDoor.Cidr
