/-
  CIDR, the program: a range as text.
-/
import Derived.Test.YtdmajikhpacpfaaDoorCidrPAddr
namespace Go.Proofs.YtdmajikhpacpfaaDoor.Cidr
open Go.RowKit Base
theorem wpList_load_g {P : Program} {ops : Array Oper} {rest : List Oper} {op : Oper} {a : Act} {w : World} {Q : Exit → Act → World → Prop} (hgd : Region.wanted op (yielded ops a.tmps) = true) (ty : TypeId) (x : Operand) (ho : op.op = .load ty x)
    (b o : Nat) (hx : a.eval x = .pointer (some ⟨b, o, none⟩)) (cs : List Value) (d : TypeDesc) (hc : w.rangeAt b o cs)
    (hu : P.underlying ty = some d) (hd : d.isRow = true) (hi : (P.info? ty).map (·.size) = some cs.length)
    (h : wpList P ops Q rest (a.put op.dst (.agg cs.toArray)) w) : wpList P ops Q (op :: rest) a w := by
  show (if Region.wanted op (yielded ops a.tmps) then _ else _)
  rw [if_pos hgd]
  exact Or.inl (wp_load_mid ty x ho b o hx cs d hc hu hd hi h)
theorem split_single {c : UInt8} : ∀ {q x : List UInt8}, splitB c q = [x] → x = q
  | [], x, h => by simp [splitB] at h; exact h
  | y :: r, x, h => by
    rw [splitB_eq] at h
    split at h
    · cases hq : splitB c r with
      | nil => exact absurd hq (splitB_ne c r)
      | cons a b => rw [hq] at h; cases h
    · split at h
      · rename_i hq; exact absurd hq (splitB_ne c r)
      · rename_i hd tl hq
        cases h
        rw [split_single hq]
theorem dec_single {q : List UInt8} {k : Nat} (h : decN q = some k) : splitB 47 q = [q] := by
  refine splitB_none fun x hx e => ?_
  unfold decN at h
  split at h
  · rename_i hh
    have := List.all_eq_true.1 hh.2.2.2 x hx
    rw [e] at this
    exact absurd this (by decide)
  · cases h
theorem parse_cut (p q : List UInt8) : parseL (p :: splitB 47 q) = (addrN ⟨p.toArray⟩).bind fun n => (decN q).bind fun k => rightO { n with bits := (k : Int) } := by
  cases hq : splitB 47 q with
  | nil => exact absurd hq (splitB_ne 47 q)
  | cons x r =>
    cases r with
    | nil =>
      obtain rfl := split_single hq
      rfl
    | cons y r =>
      have hn : decN q = none := by
        cases hd : decN q with
        | none => rfl
        | some k => rw [dec_single hd] at hq; cases hq
      rw [hn]
      show none = _
      cases addrN ⟨p.toArray⟩ <;> rfl
theorem right_addr {s : ByteArray} {n : NetM} (h : addrN s = some n) : rightN n = true := by
  unfold addrN at h
  split at h
  · rename_i m hm
    cases h
    unfold fourN at hm
    cases hb : fourB s.data.toList with
    | none => rw [hb] at hm; cases hm
    | some ns =>
      rw [hb] at hm
      cases hm
      unfold rightN
      rw [Bool.and_eq_true]
      refine ⟨(by show decide ((0 : Int) ≤ 32 ∧ (32 : Int) ≤ sizeN false) = true; decide), ?_⟩
      show zeroFrom (addr4 ns) 32 = true
      have hl : ns.length = 4 := by
        unfold fourB at hb
        split at hb
        · rename_i h4; rw [(mapO_all hb).1, h4]
        · cases hb
      rw [zeroFrom_iff]
      intro j h1 h2
      unfold bitA addr4
      rw [List.getD_eq_getElem?_getD, List.getElem?_append_right (by rw [List.length_map]; omega), List.getElem?_replicate]
      split <;> simp
  · unfold sixS at h
    split at h
    · split at h
      · cases h
        unfold rightN
        rw [Bool.and_eq_true]
        refine ⟨(by show decide ((0 : Int) ≤ 128 ∧ (128 : Int) ≤ sizeN true) = true; decide), ?_⟩
        show zeroFrom _ 128 = true
        exact zeroFrom_end _ (Nat.le_refl _)
      · cases h
    · cases h
theorem cut_no {s : ByteArray} {c : UInt8} (hs : s.size ≤ 9223372036854775807) (h : splitB c s.data.toList = [s.data.toList]) (w : World) : Calls Tryd.prog 30 #[.string s, .string ⟨#[c]⟩] w fun e w' => e = .returned (.tuple #[.string s, .string ⟨#[]⟩, .bool false]) ∧ Below w.heap.size w w' :=
  (pCut1 s c w hs).mono fun e w' ⟨hb, hh⟩ => by
    rcases hh with ⟨_, h2⟩ | ⟨p, q, h1, _, h3⟩
    · exact ⟨h2, hb⟩
    · rw [h] at h1
      cases hq : splitB c q with
      | nil => exact absurd hq (splitB_ne c q)
      | cons a b => rw [hq] at h1; cases h1
set_option maxRecDepth 100000 in
theorem pCutLAt (s : ByteArray) (c : UInt8) (w : World) (hs : s.size ≤ 9223372036854775807) (o : Nat) (hix : Lib.indexByte s.data.toList c = o) : Calls Tryd.prog 51 #[.string s, .string ⟨#[c]⟩] w fun e w' => e = .returned (.tuple #[S (s.data.toList.take o), S (s.data.toList.drop (o + 1)), .bool true]) ∧ Below w.heap.size w w' := by
  obtain ⟨h1, -, -⟩ := byte_some hix
  rw [str_len] at h1
  have HI := Lib.hid (Tryd.stringslite_Index_one s c)
  have c1 : (0 : Int) ≤ (o : Int) := by omega
  have c2 : (o : Int) ≤ (s.size : Int) := by omega
  have c3 : (0 : Int) ≤ (o : Int) + 1 := by omega
  have c4 : (o : Int) + 1 ≤ (s.size : Int) := by omega
  have HE1 : Hid (s.extract 0 o = ⟨(s.data.toList.take o).toArray⟩) := by
    show _ = _
    rw [extract_bytes]; simp
  have HE2 : Hid (s.extract (o + 1) s.size = ⟨(s.data.toList.drop (o + 1)).toArray⟩) := by
    show _ = _
    rw [extract_bytes, List.take_of_length_le (by rw [str_len]; omega)]
  go_enter Tryd.func51, Tryd.ntmps51
  go_wp2_with (first | (go_at_call 61; refine (HI.out _).mono ?_; rintro e w' ⟨rfl, rfl⟩; rw [hix]) | fail)
  go_region
  go_wp2
  go_ret3
  exact ⟨by rw [HE1.out, HE2.out]; rfl, (Below.refl _ _).drew⟩
theorem pCutAt (s : ByteArray) (c : UInt8) (w : World) (hs : s.size ≤ 9223372036854775807) (o : Nat) (hix : Lib.indexByte s.data.toList c = o) : Calls Tryd.prog 30 #[.string s, .string ⟨#[c]⟩] w fun e w' => e = .returned (.tuple #[S (s.data.toList.take o), S (s.data.toList.drop (o + 1)), .bool true]) ∧ Below w.heap.size w w' := by
  have HC := Lib.hid (pCutLAt s c w hs o hix)
  go_enter Tryd.func30, Tryd.ntmps30
  go_wp2_with (first | (go_at_call 51; refine (HC.out).mono ?_; rintro e w' ⟨rfl, hb⟩) | fail)
  go_ret3
  exact ⟨rfl, hb⟩
set_option maxHeartbeats 8000000 in
set_option maxRecDepth 100000 in
set_option linter.unusedSimpArgs false in
theorem pParse (s : ByteArray) (w : World) (hs : s.size ≤ 9223372036854775807) (he : Env w) : Calls Tryd.prog 11 #[.string s] w (AddrEnd (parseN s) w) := by
  have HB0 := Lib.hid (Below.alloc1 w (.cells (netC zeroN) 25))
  have HN0 := Lib.hid (NetAt.new w zeroN)
  have HE0 := Lib.hid (he.on HB0.out)
  clear he
  obtain ⟨o, ho⟩ : ∃ o, o = parseN s := ⟨_, rfl⟩
  rw [← ho]
  unfold parseN at ho
  rcases byte_cases s.data.toList 47 with hix | ⟨j, hix⟩
  · have hsp := splitB_miss hix
    rw [hsp] at ho
    have HCUT := Lib.hid (fun w => cut_no (c := 47) hs hsp w)
    have HO : Hid (o = (addrN s).bind rightO) := ho
    have HAD := Lib.hid (fun w he => pAddr s w he)
    clear ho hsp hix
    go_enter Tryd.func11, Tryd.ntmps11
    go_wp2_with (first | (go_at_call 30; refine (HCUT.out _).mono ?_; rintro e w1 ⟨rfl, b1⟩; refine Hid.out ?_) | fail)
    refine Lib.hid ?_
    have HN1 := Lib.hid (HN0.out.on b1)
    have HB1 := Lib.hid (HB0.out.trans (b1.mono HB0.out.size))
    have HE1 := Lib.hid (HE0.out.on b1)
    clear b1
    cases hgo : addrN s with
    | none =>
      have HNO : Hid (o = none) := by show _ = _; rw [HO.out, hgo]; rfl
      rw [hgo] at HAD
      have HA2 := Lib.hid (fun wx he => addr_no (HAD.out wx he))
      clear HAD HO hgo
      go_wp2_with (first | (go_at_call 9; refine (HA2.out _ HE1.out).mono ?_; rintro e w2 ⟨rfl, b2⟩; refine Hid.out ?_) | fail)
      refine Lib.hid ?_
      have HN2 := Lib.hid (HN1.out.on b2)
      have HB2 := Lib.hid (HB1.out.trans (b2.mono HB1.out.size))
      clear b2
      have HT := Lib.hid (there_net (NetAt.new w2 zeroN) rfl (n := zeroN) rfl)
      have HC := Lib.hid (size25c (n := zeroN) rfl)
      go_wp2_with (first | (refine wpList_store_mid rfl 25 (.tmp 7) (.tmp 20) rfl w2.heap.size 0 (netC zeroN) rfl rfl HT.out HC.out (netC_all _) ?_; generalize hw3 : World.setCells _ _ _ _ = w3; refine Hid.out ?_) | fail)
      refine Lib.hid ?_
      obtain ⟨hn3, hb3⟩ := net_new (n := zeroN) rfl hw3
      have HN3 := Lib.hid hn3
      have HN30 := Lib.hid (HN2.out.on hb3)
      have HB3 := Lib.hid (HB2.out.trans (hb3.mono HB2.out.size))
      clear hw3 hn3 hb3 HT HC
      have HTt := Lib.hid (there_net (n := zeroN) HN30.out rfl rfl)
      have HCt := Lib.hid (size25c (n := zeroN) rfl)
      have HSt := Lib.hid (size25_of (n := zeroN) rfl)
      go_wp2_with (first | (refine wpList_load_mid rfl 25 (.tmp 7) rfl w2.heap.size 0 rfl (netL zeroN) _ HN3.out.range0 Tryd.underlying25 rfl HSt.out ?_) | (refine wpList_store_mid rfl 25 (.tmp 2) (.tmp 28) rfl w.heap.size 0 (netC zeroN) rfl rfl HTt.out HCt.out (netC_all _) ?_; generalize hwf : World.setCells _ _ _ _ = wf; refine Hid.out ?_) | fail)
      refine Lib.hid ?_
      obtain ⟨hnf, hbf, _⟩ := net_again (n := zeroN) HN30.out rfl rfl (Nat.le_refl _) hwf
      have HNF := Lib.hid hnf
      have HBF := Lib.hid hbf
      clear hnf hbf hwf
      go_wp2
      exact bodyPost_ret (results_net Tryd.results11 rfl rfl HNF.out rfl) rfl ⟨HB3.out.trans HBF.out, Or.inl ⟨HNO.out, rfl⟩⟩
    | some n =>
      have HYES : Hid (o = some n) := by show _ = _; rw [HO.out, hgo]; show rightO n = _; unfold rightO; rw [right_addr hgo]; rfl
      rw [hgo] at HAD
      have HA2 := Lib.hid (fun wx he => addr_yes (HAD.out wx he))
      clear HAD HO hgo
      go_wp2_with (first | (go_at_call 9; refine (HA2.out _ HE1.out).mono ?_; rintro e w2 ⟨hna, rfl, b2⟩; refine Hid.out ?_) | fail)
      refine Lib.hid ?_
      have HA : Hid (n.a.length = 16) := hna
      have HN2 := Lib.hid (HN1.out.on b2)
      have HB2 := Lib.hid (HB1.out.trans (b2.mono HB1.out.size))
      have HE2 := Lib.hid (HE1.out.on b2)
      clear b2 hna
      have HT := Lib.hid (there_net (NetAt.new w2 zeroN) rfl HA.out)
      have HC := Lib.hid (size25c HA.out)
      go_wp2_with (first | (refine wpList_store_mid rfl 25 (.tmp 7) (.tmp 20) rfl w2.heap.size 0 (netC n) rfl rfl HT.out HC.out (netC_all _) ?_; generalize hw3 : World.setCells _ _ _ _ = w3; refine Hid.out ?_) | fail)
      refine Lib.hid ?_
      obtain ⟨hn3, hb3⟩ := net_new HA.out hw3
      have HN3 := Lib.hid hn3
      have HN30 := Lib.hid (HN2.out.on hb3)
      have HB3 := Lib.hid (HB2.out.trans (hb3.mono HB2.out.size))
      have HE3 := Lib.hid (HE2.out.on hb3)
      have HNE : Hid (w.heap.size ≠ w2.heap.size) := Nat.ne_of_lt (heap_lt HN2.out)
      have HLE2 : Hid (w2.heap.size < w3.heap.size) := heap_lt hn3
      clear hw3 hn3 hb3 HT HC
      have HFN0 := HN30
      have HFN := HN3
      have HNNA := HA
      have HFB := HB3
      have HTt := Lib.hid (there_net (n := n) HFN0.out rfl HNNA.out)
      have HCt := Lib.hid (size25c HNNA.out)
      have HSt := Lib.hid (size25_of HNNA.out)
      go_wp2_with (first | (refine wpList_load_mid rfl 25 (.tmp 7) rfl w2.heap.size 0 rfl (netL n) _ HFN.out.range0 Tryd.underlying25 rfl HSt.out ?_) | (refine wpList_store_mid rfl 25 (.tmp 2) (.tmp 28) rfl w.heap.size 0 (netC n) rfl rfl HTt.out HCt.out (netC_all _) ?_; generalize hwf : World.setCells _ _ _ _ = wf; refine Hid.out ?_) | fail)
      refine Lib.hid ?_
      obtain ⟨hnf, hbf, _⟩ := net_again (n := n) HFN0.out rfl HNNA.out (Nat.le_refl _) hwf
      have HNF := Lib.hid hnf
      have HBF := Lib.hid hbf
      clear hnf hbf hwf
      go_wp2
      exact bodyPost_ret (results_net Tryd.results11 rfl rfl HNF.out HNNA.out) rfl ⟨HFB.out.trans HBF.out, Or.inr ⟨_, HYES.out, HNNA.out, rfl⟩⟩
  · obtain ⟨hj, hcut, _⟩ := byte_some hix
    have hsp := splitB_hit hix
    obtain ⟨p, hp⟩ : ∃ p, p = s.data.toList.take j := ⟨_, rfl⟩
    obtain ⟨q, hq⟩ : ∃ q, q = s.data.toList.drop (j + 1) := ⟨_, rfl⟩
    rw [← hp, ← hq] at hsp
    rw [hsp, parse_cut] at ho
    have HCUT : Hid (∀ w, Calls Tryd.prog 30 #[.string s, .string ⟨#[47]⟩] w fun e w' => e = .returned (.tuple #[S p, S q, .bool true]) ∧ Below w.heap.size w w') := fun w => by
      have := pCutAt s 47 w hs j hix
      rw [← hp, ← hq] at this
      exact this
    have HO : Hid (o = (addrN ⟨p.toArray⟩).bind fun n => (decN q).bind fun k => rightO { n with bits := (k : Int) }) := ho
    have HAD := Lib.hid (fun w he => pAddr ⟨p.toArray⟩ w he)
    clear ho hsp hix hj hcut hp hq
    go_enter Tryd.func11, Tryd.ntmps11
    go_wp2_with (first | (go_at_call 30; refine (HCUT.out _).mono ?_; rintro e w1 ⟨rfl, b1⟩; refine Hid.out ?_) | fail)
    refine Lib.hid ?_
    have HN1 := Lib.hid (HN0.out.on b1)
    have HB1 := Lib.hid (HB0.out.trans (b1.mono HB0.out.size))
    have HE1 := Lib.hid (HE0.out.on b1)
    clear b1
    cases hgo : addrN ⟨p.toArray⟩ with
    | none =>
      have HNO : Hid (o = none) := by show _ = _; rw [HO.out, hgo]; rfl
      rw [hgo] at HAD
      have HA2 := Lib.hid (fun wx he => addr_no (HAD.out wx he))
      clear HAD HO hgo
      go_wp2_with (first | (go_at_call 9; refine (HA2.out _ HE1.out).mono ?_; rintro e w2 ⟨rfl, b2⟩; refine Hid.out ?_) | fail)
      refine Lib.hid ?_
      have HN2 := Lib.hid (HN1.out.on b2)
      have HB2 := Lib.hid (HB1.out.trans (b2.mono HB1.out.size))
      clear b2
      have HT := Lib.hid (there_net (NetAt.new w2 zeroN) rfl (n := zeroN) rfl)
      have HC := Lib.hid (size25c (n := zeroN) rfl)
      go_wp2_with (first | (refine wpList_store_mid rfl 25 (.tmp 7) (.tmp 20) rfl w2.heap.size 0 (netC zeroN) rfl rfl HT.out HC.out (netC_all _) ?_; generalize hw3 : World.setCells _ _ _ _ = w3; refine Hid.out ?_) | fail)
      refine Lib.hid ?_
      obtain ⟨hn3, hb3⟩ := net_new (n := zeroN) rfl hw3
      have HN3 := Lib.hid hn3
      have HN30 := Lib.hid (HN2.out.on hb3)
      have HB3 := Lib.hid (HB2.out.trans (hb3.mono HB2.out.size))
      clear hw3 hn3 hb3 HT HC
      have HTt := Lib.hid (there_net (n := zeroN) HN30.out rfl rfl)
      have HCt := Lib.hid (size25c (n := zeroN) rfl)
      have HSt := Lib.hid (size25_of (n := zeroN) rfl)
      go_wp2_with (first | (refine wpList_load_mid rfl 25 (.tmp 7) rfl w2.heap.size 0 rfl (netL zeroN) _ HN3.out.range0 Tryd.underlying25 rfl HSt.out ?_) | (refine wpList_store_mid rfl 25 (.tmp 2) (.tmp 28) rfl w.heap.size 0 (netC zeroN) rfl rfl HTt.out HCt.out (netC_all _) ?_; generalize hwf : World.setCells _ _ _ _ = wf; refine Hid.out ?_) | fail)
      refine Lib.hid ?_
      obtain ⟨hnf, hbf, _⟩ := net_again (n := zeroN) HN30.out rfl rfl (Nat.le_refl _) hwf
      have HNF := Lib.hid hnf
      have HBF := Lib.hid hbf
      clear hnf hbf hwf
      go_wp2
      exact bodyPost_ret (results_net Tryd.results11 rfl rfl HNF.out rfl) rfl ⟨HB3.out.trans HBF.out, Or.inl ⟨HNO.out, rfl⟩⟩
    | some n =>
      have HO2 : Hid (o = (decN q).bind fun k => rightO { n with bits := (k : Int) }) := by show _ = _; rw [HO.out, hgo]; rfl
      rw [hgo] at HAD
      have HA2 := Lib.hid (fun wx he => addr_yes (HAD.out wx he))
      clear HAD HO hgo
      go_wp2_with (first | (go_at_call 9; refine (HA2.out _ HE1.out).mono ?_; rintro e w2 ⟨hna, rfl, b2⟩; refine Hid.out ?_) | fail)
      refine Lib.hid ?_
      have HA : Hid (n.a.length = 16) := hna
      have HN2 := Lib.hid (HN1.out.on b2)
      have HB2 := Lib.hid (HB1.out.trans (b2.mono HB1.out.size))
      have HE2 := Lib.hid (HE1.out.on b2)
      clear b2 hna
      have HT := Lib.hid (there_net (NetAt.new w2 zeroN) rfl HA.out)
      have HC := Lib.hid (size25c HA.out)
      go_wp2_with (first | (refine wpList_store_mid rfl 25 (.tmp 7) (.tmp 20) rfl w2.heap.size 0 (netC n) rfl rfl HT.out HC.out (netC_all _) ?_; generalize hw3 : World.setCells _ _ _ _ = w3; refine Hid.out ?_) | fail)
      refine Lib.hid ?_
      obtain ⟨hn3, hb3⟩ := net_new HA.out hw3
      have HN3 := Lib.hid hn3
      have HN30 := Lib.hid (HN2.out.on hb3)
      have HB3 := Lib.hid (HB2.out.trans (hb3.mono HB2.out.size))
      have HE3 := Lib.hid (HE2.out.on hb3)
      have HNE : Hid (w.heap.size ≠ w2.heap.size) := Nat.ne_of_lt (heap_lt HN2.out)
      have HLE2 : Hid (w2.heap.size < w3.heap.size) := heap_lt hn3
      clear hw3 hn3 hb3 HT HC
      have HNB : Hid (∀ wx, Env wx → Calls Tryd.prog 31 #[S q] wx (NumEnd2 (decN q) wx)) := fun wx he => pNumber ⟨q.toArray⟩ wx he
      cases hd : decN q with
      | none =>
        have HNO : Hid (o = none) := by show _ = _; rw [HO2.out, hd]; rfl
        rw [hd] at HNB
        clear hd HO2
        go_wp2_with (first | (go_at_call 31; refine (HNB.out _ HE3.out).mono ?_; rintro e w4 ⟨rfl, b4⟩; refine Hid.out ?_) | fail)
        refine Lib.hid ?_
        have HN4 := Lib.hid (HN3.out.on b4)
        have HN40 := Lib.hid (HN30.out.on b4)
        have HB4 := Lib.hid (HB3.out.trans (b4.mono HB3.out.size))
        have HLE4 : Hid (w2.heap.size < w4.heap.size) := Nat.lt_of_lt_of_le HLE2.out b4.size
        clear b4
        have hbc := HN4.out.bits
        have hbf := HN4.out.frozen 1
        go_upto_region 7 with (fail)
        obtain ⟨w5, hw5⟩ : ∃ w5, w5 = w4.setCell ⟨w2.heap.size, 1, none⟩ (.int .i64 0) := ⟨_, rfl⟩
        have HN5 : Hid (NetAt w5 w2.heap.size { n with bits := 0 }) := by show NetAt _ _ _; rw [hw5]; exact HN4.out.setBits _
        have hk5 : KeepX w2.heap.size w4 w5 := by rw [hw5]; exact KeepX.set _ _ _ _
        have HN50 : Hid (NetAt w5 w.heap.size zeroN) := HN40.out.kept hk5 HNE.out
        have HB5 : Hid (Below w.heap.size w w5) := HB4.out.trans (hk5.below HB2.out.size HLE4.out)
        clear hk5
        rw [← hw5]
        clear hw5
        have HFN0 := HN50
        have HFB := HB5
        have HTt := Lib.hid (there_net (n := zeroN) HFN0.out rfl rfl)
        have HCt := Lib.hid (size25c (n := zeroN) rfl)
        go_wp2_with (first | (refine wpList_store_mid rfl 25 (.tmp 2) (.tmp 44) rfl w.heap.size 0 (netC zeroN) rfl rfl HTt.out HCt.out (netC_all _) ?_; generalize hwf : World.setCells _ _ _ _ = wf; refine Hid.out ?_) | fail)
        refine Lib.hid ?_
        obtain ⟨hnf, hbf, _⟩ := net_again (n := zeroN) HFN0.out rfl rfl (Nat.le_refl _) hwf
        have HNF := Lib.hid hnf
        have HBF := Lib.hid hbf
        clear hnf hbf hwf
        go_wp2
        exact bodyPost_ret (results_net Tryd.results11 rfl rfl HNF.out rfl) rfl ⟨HFB.out.trans HBF.out, Or.inl ⟨HNO.out, rfl⟩⟩
      | some k =>
        have HO3 : Hid (o = rightO { n with bits := (k : Int) }) := by show _ = _; rw [HO2.out, hd]; rfl
        rw [hd] at HNB
        clear hd HO2
        go_wp2_with (first | (go_at_call 31; refine (HNB.out _ HE3.out).mono ?_; rintro e w4 ⟨rfl, b4⟩; refine Hid.out ?_) | fail)
        refine Lib.hid ?_
        have HN4 := Lib.hid (HN3.out.on b4)
        have HN40 := Lib.hid (HN30.out.on b4)
        have HB4 := Lib.hid (HB3.out.trans (b4.mono HB3.out.size))
        have HLE4 : Hid (w2.heap.size < w4.heap.size) := Nat.lt_of_lt_of_le HLE2.out b4.size
        clear b4
        have hbc := HN4.out.bits
        have hbf := HN4.out.frozen 1
        go_upto_region 7 with (fail)
        obtain ⟨w5, hw5⟩ : ∃ w5, w5 = w4.setCell ⟨w2.heap.size, 1, none⟩ (.int .i64 (k : Int)) := ⟨_, rfl⟩
        have HN5 : Hid (NetAt w5 w2.heap.size { n with bits := (k : Int) }) := by show NetAt _ _ _; rw [hw5]; exact HN4.out.setBits _
        have hk5 : KeepX w2.heap.size w4 w5 := by rw [hw5]; exact KeepX.set _ _ _ _
        have HN50 : Hid (NetAt w5 w.heap.size zeroN) := HN40.out.kept hk5 HNE.out
        have HB5 : Hid (Below w.heap.size w w5) := HB4.out.trans (hk5.below HB2.out.size HLE4.out)
        clear hk5
        rw [← hw5]
        clear hw5
        have HRT := Lib.hid (pRight { n with bits := (k : Int) } HA.out)
        have HS5 := Lib.hid (size25_of (n := { n with bits := (k : Int) }) HA.out)
        unfold rightO at HO3
        obtain ⟨NN, hNN⟩ : ∃ NN, NN = ({ n with bits := (k : Int) } : NetM) := ⟨_, rfl⟩
        have HNNA : Hid (NN.a.length = 16) := by show _ = _; rw [hNN]; exact HA.out
        rw [← hNN] at HRT HS5 HO3 HN5
        clear hNN
        generalize rightN NN = rb at HRT HO3
        go_wp2_with (first | (refine wpList_load_g (by rfl) 25 (.tmp 7) rfl w2.heap.size 0 rfl (netL NN) _ HN5.out.range0 Tryd.underlying25 rfl HS5.out ?_) | (go_at_call 18; refine (HRT.out _).mono ?_; rintro e w6 ⟨rfl, b6⟩; refine Hid.out ?_) | fail)
        refine Lib.hid ?_
        have HFN := Lib.hid (HN5.out.on b6)
        have HFN0 := Lib.hid (HN50.out.on b6)
        have HFB := Lib.hid (HB5.out.trans (b6.mono HB5.out.size))
        clear b6
        cases rb with
        | false =>
          have HNO : Hid (o = none) := HO3.out
          have HTt := Lib.hid (there_net (n := zeroN) HFN0.out rfl rfl)
          have HCt := Lib.hid (size25c (n := zeroN) rfl)
          go_wp2_with (first | (refine wpList_store_mid rfl 25 (.tmp 2) (.tmp 44) rfl w.heap.size 0 (netC zeroN) rfl rfl HTt.out HCt.out (netC_all _) ?_; generalize hwf : World.setCells _ _ _ _ = wf; refine Hid.out ?_) | fail)
          refine Lib.hid ?_
          obtain ⟨hnf, hbf, _⟩ := net_again (n := zeroN) HFN0.out rfl rfl (Nat.le_refl _) hwf
          have HNF := Lib.hid hnf
          have HBF := Lib.hid hbf
          clear hnf hbf hwf
          go_wp2
          exact bodyPost_ret (results_net Tryd.results11 rfl rfl HNF.out rfl) rfl ⟨HFB.out.trans HBF.out, Or.inl ⟨HNO.out, rfl⟩⟩
        | true =>
          have HYES : Hid (o = some NN) := HO3.out
          have HTt := Lib.hid (there_net (n := NN) HFN0.out rfl HNNA.out)
          have HCt := Lib.hid (size25c HNNA.out)
          have HSt := Lib.hid (size25_of HNNA.out)
          go_wp2_with (first | (refine wpList_load_mid rfl 25 (.tmp 7) rfl w2.heap.size 0 rfl (netL NN) _ HFN.out.range0 Tryd.underlying25 rfl HSt.out ?_) | (refine wpList_store_mid rfl 25 (.tmp 2) (.tmp 45) rfl w.heap.size 0 (netC NN) rfl rfl HTt.out HCt.out (netC_all _) ?_; generalize hwf : World.setCells _ _ _ _ = wf; refine Hid.out ?_) | fail)
          refine Lib.hid ?_
          obtain ⟨hnf, hbf, _⟩ := net_again (n := NN) HFN0.out rfl HNNA.out (Nat.le_refl _) hwf
          have HNF := Lib.hid hnf
          have HBF := Lib.hid hbf
          clear hnf hbf hwf
          go_wp2
          exact bodyPost_ret (results_net Tryd.results11 rfl rfl HNF.out HNNA.out) rfl ⟨HFB.out.trans HBF.out, Or.inr ⟨_, HYES.out, HNNA.out, rfl⟩⟩
end Go.Proofs.YtdmajikhpacpfaaDoor.Cidr
