/-
  CIDR, the given answers: several ranges as text: the walk.
-/
import Derived.Test.YtdmajikhpacpfaaDoorCidrList
namespace Go.Proofs.YtdmajikhpacpfaaDoor.Cidr
open Go.RowKit Base
theorem words_piece {p : List UInt8} : ∀ {l cur : List UInt8}, p ∈ wordsA cur l → p.length ≤ cur.length + l.length
  | [], cur, h => by
    unfold wordsA at h
    split at h
    · cases h
    · rw [List.mem_singleton.1 h]; simp
  | x :: r, cur, h => by
    unfold wordsA at h
    split at h
    · split at h
      · have := words_piece h; simp at this ⊢; omega
      · rcases List.mem_cons.1 h with rfl | h
        · simp
        · have := words_piece h; simp at this ⊢; omega
    · have := words_piece h; simp at this ⊢; omega
theorem fold_set : ∀ (l : List Value) (o : Nat) (cur : Array Value), List.foldl (fun cs x => cs.setIfInBounds x.2 x.1) cur (l.zipIdx o) = setL cur o l
  | [], _, _ => rfl
  | v :: r, o, cur => by rw [List.zipIdx_cons, List.foldl_cons, fold_set r (o + 1)]; rfl
theorem fold_net {n : NetM} (ha : n.a.length = 16) : List.foldl (fun cs (x : Value × Nat) => cs.setIfInBounds x.2 x.1) #[Value.bool n.six, Value.int IntKind.i64 n.bits, Value.int IntKind.u8 0, Value.int IntKind.u8 0, Value.int IntKind.u8 0, Value.int IntKind.u8 0, Value.int IntKind.u8 0, Value.int IntKind.u8 0, Value.int IntKind.u8 0, Value.int IntKind.u8 0, Value.int IntKind.u8 0, Value.int IntKind.u8 0, Value.int IntKind.u8 0, Value.int IntKind.u8 0, Value.int IntKind.u8 0, Value.int IntKind.u8 0, Value.int IntKind.u8 0, Value.int IntKind.u8 0] ((List.map B8 n.a).zipIdx 2) = netC n := by
  rw [fold_set]
  apply Array.ext_getElem?
  intro j
  match j with
  | 0 => rw [setL_out _ _ _ 0 (by omega)]; rfl
  | 1 => rw [setL_out _ _ _ 1 (by omega)]; rfl
  | j + 2 =>
    rcases Nat.lt_or_ge j 16 with hj | hj
    · have := setL_in (List.map B8 n.a) 2 #[Value.bool n.six, Value.int IntKind.i64 n.bits, Value.int IntKind.u8 0, Value.int IntKind.u8 0, Value.int IntKind.u8 0, Value.int IntKind.u8 0, Value.int IntKind.u8 0, Value.int IntKind.u8 0, Value.int IntKind.u8 0, Value.int IntKind.u8 0, Value.int IntKind.u8 0, Value.int IntKind.u8 0, Value.int IntKind.u8 0, Value.int IntKind.u8 0, Value.int IntKind.u8 0, Value.int IntKind.u8 0, Value.int IntKind.u8 0, Value.int IntKind.u8 0] j (by simp; omega) (by simp; omega)
      rw [Nat.add_comm j 2, this, Nat.add_comm 2 j]
      simp
    · rw [Array.getElem?_eq_none (by rw [setL_size]; simp; omega), Array.getElem?_eq_none (by simp; omega)]
set_option maxHeartbeats 4000000 in
set_option maxRecDepth 100000 in
theorem rList (s : ByteArray) (w : World) (hs : s.size ≤ 4294967280) : Calls Tryd.prog 14 #[.string s] w (ListEnd (listN s) w) := by
  obtain ⟨o, ho⟩ : ∃ o, o = listN s := ⟨_, rfl⟩
  rw [← ho]
  unfold listN listO at ho
  have HW := Lib.hid (rWords s w hs)
  have HPL : Hid (∀ p ∈ wordsB s.data.toList, p.length ≤ s.size) := fun p hp => by
    have := words_piece (cur := []) hp
    rw [str_len] at this
    simpa using this
  generalize wordsB s.data.toList = ls at ho HW HPL
  have HO := Lib.hid ho
  clear ho
  go_enter Tryd.func14, Tryd.ntmps14
  go_wp2_with (go_at_call 36; refine HW.out.mono ?_; rintro e w1 ⟨v1, rfl, o1, b1⟩; refine Hid.out ?_)
  refine Lib.hid ?_
  obtain ⟨pa, pc, rfl, _⟩ := o1.form
  have HP := Lib.hid o1
  have HB1 := Lib.hid b1
  clear o1 b1
  by_cases hl : 200 < ls.length
  · have e1 : (200 : Int) < (ls.length : Int) := by omega
    have HBD : Hid (o = .bad 71) := by have := HO.out; rw [if_pos hl] at this; exact this
    go_wp2
    go_ret2
    exact ⟨HB1.out, Or.inl ⟨71, HBD.out, rfl⟩⟩
  · have e1 : ¬ (200 : Int) < (ls.length : Int) := by omega
    have HO2 : Hid (o = match mapO parseW ls with | none => .bad 70 | some ns => .ok ns) := by have := HO.out; rw [if_neg hl] at this; exact this
    have HLL := Lib.hid hl
    clear HO hl
    obtain ⟨R, hR⟩ : ∃ R : Value → Value → World → Prop, R = fun v i wr => ∃ ns : List NetM, ns.length ≤ ls.length ∧ i = .int .i64 (ns.length : Int) ∧ OwnsN wr w1.heap.size v ns ∧ Below w1.heap.size w1 wr ∧ Hid (mapO parseW (ls.take ns.length) = some ns) := ⟨_, rfl⟩
    have HR := Lib.hid hR
    clear hR
    go_wp2
    go_loopw [5, 6] (fun v i wr => R v i wr) (fun _ i _ => ls.length - (intOf i).toNat)
    case atStart => rw [HR.out]; exact ⟨[], Nat.zero_le _, rfl, ⟨World.ownsRow_nil _ _ _ _, fun n h => by cases h⟩, Below.refl _ _, rfl⟩
    case round =>
      rw [HR.out] at hrel
      obtain ⟨ns, hk, rfl, hown, hb1, hm⟩ := hrel
      obtain ⟨oa, oc, rfl, hoc⟩ := hown.form
      have HOWN := Lib.hid hown
      have HB := Lib.hid hb1
      have HBW := Lib.hid (HB1.out.trans (hb1.mono HB1.out.size))
      have HPW := Lib.hid (HP.out.on hb1)
      clear hown hb1
      by_cases hlt : ns.length < ls.length
      · have hx : ls[ns.length]? = some (ls[ns.length]) := List.getElem?_eq_getElem hlt
        obtain ⟨pb, rfl, hcell⟩ := HPW.out.cell hx
        have HX := Lib.hid hx
        generalize ls[ns.length] = x at hcell HX
        have HPA := Lib.hid (rParse ⟨x.toArray⟩ wr (by rw [arr_size]; have := HPL.out x (List.mem_of_getElem? HX.out); omega))
        have i1 : (ns.length : Int) < (ls.length : Int) := by omega
        have i0' : (0 : Int) ≤ (ns.length : Int) := by omega
        have hll := HLL.out
        have hns : ns.length ≤ 200 := by omega
        clear hx hll
        cases hgx : parseW x with
        | none =>
          have HNO : Hid (o = .bad 70) := by have := HO2.out; rw [mapO_none parseW hgx (List.mem_of_getElem? HX.out)] at this; exact this
          unfold parseW at hgx
          rw [hgx] at HPA
          have HP2 := Lib.hid (addr_no HPA.out)
          clear HPA hgx hm
          go_wp2_with (go_at_call 12; refine HP2.out.mono ?_; rintro e w2 ⟨rfl, b2⟩; refine Hid.out ?_)
          refine Lib.hid ?_
          have HT := Lib.hid (there_net (NetAt.new w2 zeroN) (n := zeroN) rfl rfl)
          have HC := Lib.hid (size25c (n := zeroN) rfl)
          have HBB := Lib.hid (HBW.out.trans (b2.mono HBW.out.size))
          have HSZ := Lib.hid (Nat.le_trans HBW.out.size b2.size)
          clear b2
          go_wp2_with (first | (refine wpList_store_mid rfl 25 (.tmp 7) (.tmp 26) rfl w2.heap.size 0 (netC zeroN) rfl rfl HT.out HC.out (netC_all _) ?_; generalize hw3 : World.setCells _ _ _ _ = w3; refine Hid.out ?_) | fail)
          refine Lib.hid ?_
          obtain ⟨hn3, hb3⟩ := net_new (n := zeroN) rfl hw3
          have HB3 := Lib.hid (HBB.out.trans (hb3.mono HSZ.out))
          clear hw3 hn3 hb3
          go_wp2
          go_ret2
          exact ⟨HB3.out, Or.inl ⟨70, HNO.out, rfl⟩⟩
        | some n =>
          have HM2 : Hid (mapO parseW (ls.take (ns.length + 1)) = some (ns ++ [n])) := by
            show _ = _
            rw [List.take_succ_eq_append_getElem hlt, show ls[ns.length] = x by have := HX.out; rw [List.getElem?_eq_getElem hlt] at this; exact Option.some.inj this]
            exact mapO_snoc parseW x _ hm.out hgx
          unfold parseW at hgx
          rw [hgx] at HPA
          have HP2 := Lib.hid (addr_yes HPA.out)
          clear HPA hgx hm
          go_wp2_with (go_at_call 12; refine HP2.out.mono ?_; rintro e w2 ⟨ha, rfl, b2⟩; refine Hid.out ?_)
          refine Lib.hid ?_
          have HA := Lib.hid ha
          have HT := Lib.hid (there_net (NetAt.new w2 zeroN) rfl HA.out)
          have HC := Lib.hid (size25c HA.out)
          have HS := Lib.hid (size25_of HA.out)
          have HB2 : Hid (Below w1.heap.size w1 w2) := HB.out.trans (b2.mono HB.out.size)
          have HOW2 := Lib.hid (HOWN.out.on b2)
          clear b2 ha
          go_wp2_with (first | (refine wpList_store_mid rfl 25 (.tmp 7) (.tmp 26) rfl w2.heap.size 0 (netC n) rfl rfl HT.out HC.out (netC_all _) ?_; generalize hw3 : World.setCells _ _ _ _ = w3; refine Hid.out ?_) | fail)
          refine Lib.hid ?_
          obtain ⟨hn3, hb3⟩ := net_new HA.out hw3
          have HN3 := Lib.hid hn3
          have HB3 : Hid (Below w1.heap.size w1 w3) := HB2.out.trans (hb3.mono HB2.out.size)
          have HOW3 := Lib.hid (HOW2.out.on hb3)
          clear hw3 hn3 hb3
          have HNW := Lib.hid (NetAt.new w3 n)
          have FN := Lib.hid (fold_net HA.out)
          have ha16 := HA.out
          have HOW4 := Lib.hid (HOW3.out.on (Below.alloc1 w3 (.cells (netC n) 25)))
          have HB4 : Hid (Below w1.heap.size w1 (w3.alloc (.cells (netC n) 25))) := HB3.out.alloc HB3.out.size _
          go_wp2_with (first | (refine wpList_load_mid rfl 25 (.tmp 7) rfl w2.heap.size 0 rfl (netL n) _ HN3.out.range0 Tryd.underlying25 rfl HS.out ?_) | (at_builtin; simp only [FN.out]; go_must (refine wp_append_net _ rfl _ _ rfl w1.heap.size (.slice oa ns.length oc) ns n w3.heap.size 1 rfl rfl HOW4.out HNW.out HA.out (by omega) HB4.out.size ?_); intro v5 w5 o5 b5; refine Hid.out ?_) | fail)
          refine Lib.hid ?_
          obtain ⟨va, vc, rfl, _⟩ := o5.form
          clear ha16
          have HO5 := Lib.hid o5
          have HB5 : Hid (Below w1.heap.size w1 w5) := HB4.out.trans b5
          have HRR : Hid (R (.slice va (ns ++ [n]).length vc) (.int .i64 ((ns.length : Int) + 1)) w5) := by
            show R _ _ _
            rw [HR.out]
            exact ⟨ns ++ [n], by (simp; try omega), by simp, HO5.out, HB5.out, by rw [List.length_append]; exact HM2.out⟩
          clear o5 b5
          go_wp2
          go_roundw
          case rel => exact HRR.out
          case measure => simp [intOf]; omega
      · have hfin : Hid (o = .ok ns) := by
          have h1 := hm.out
          rw [List.take_of_length_le (by omega)] at h1
          have := HO2.out
          rw [h1] at this
          exact this
        have i1 : ¬ (ns.length : Int) < (ls.length : Int) := by omega
        clear hm
        go_wp2
        go_ret2
        exact ⟨HBW.out, Or.inr ⟨ns, _, hfin.out, rfl, OwnsN.mono HOWN.out HB1.out.size⟩⟩
end Go.Proofs.YtdmajikhpacpfaaDoor.Cidr
