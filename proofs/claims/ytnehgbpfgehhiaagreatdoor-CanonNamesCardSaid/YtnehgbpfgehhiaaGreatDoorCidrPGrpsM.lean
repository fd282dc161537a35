/-
  MERGED by mergefill.py: CidrPGrps, CidrPSixP.
-/
import Derived.Test.YtnehgbpfgehhiaaGreatDoorCidrPWithinM
import Derived.Laws.CopyOwn
/-
  CIDR, the program: groups, two bytes of each.
-/
namespace Go.Proofs.YtnehgbpfgehhiaaGreatDoor.Cidr
open Go.RowKit Base
def GEnd (o : Option (List Nat)) (w : World) (e : Ending) (w' : World) : Prop :=
  Below w.heap.size w w' ∧ ((o = none ∧ e = .returned (.tuple #[.slice none 0 0, .bool false])) ∨ ∃ ns v, o = some ns ∧ e = .returned (.tuple #[v, .bool true]) ∧ Owns w' w.heap.size v (ns.flatMap two))
theorem reads_two (w : World) (x y : UInt8) (a b : Int) (ha : a = (x.toNat : Int)) (hb : b = (y.toNat : Int)) : Reads (w.alloc (.cells #[.int .u8 a, .int .u8 b] 5)) (.slice (some ⟨w.heap.size, 0, none⟩) 2 2) [x, y] := by
  subst ha hb
  exact reads_lit w 5 #[.int .u8 x.toNat, .int .u8 y.toNat] [x, y] 2 rfl rfl (0, 0)
theorem two_parts (n : Nat) (h : n ≤ 65535) : ((n / 256 : Nat) : Int) = ((UInt8.ofNat (n / 256)).toNat : Int) ∧ ((n % 256 : Nat) : Int) = ((UInt8.ofNat (n % 256)).toNat : Int) := by
  constructor
  · simp; omega
  · simp
theorem grpN_yes {x : List UInt8} {n : Nat} (h : hexO x = some n) (h4 : x.length ≤ 4) : grpN x = some n := by rw [hexO_grp x h4, h]
theorem grpN_no {x : List UInt8} (h : hexO x = none ∨ 4 < x.length) : grpN x = none := by
  by_cases h4 : x.length ≤ 4
  · rcases h with h | h
    · rw [hexO_grp x h4, h]
    · omega
  · unfold grpN; rw [if_neg (fun h => h4 h.2.1)]
theorem flat_two_len (ns : List Nat) : (ns.flatMap two).length = 2 * ns.length := by
  induction ns with
  | nil => rfl
  | cons a r ih => rw [List.flatMap_cons, List.length_append, ih]; simp [two]; omega
set_option maxHeartbeats 4000000 in
set_option maxRecDepth 100000 in
theorem pGroups (s : ByteArray) (hs : s.size ≤ 39) (w : World) (he : Env w) : Calls Tryz.prog 180 #[.string s] w (GEnd (grpsN s.data.toList) w) := by
  obtain ⟨o, ho⟩ : ∃ o, o = grpsN s.data.toList := ⟨_, rfl⟩
  rw [← ho]
  have HE := Lib.hid he
  clear he
  by_cases h0 : s.size = 0
  · obtain rfl := str_empty h0
    have HO : Hid (o = some []) := ho
    clear ho h0
    go_enter Tryz.func180, Tryz.ntmps180
    go_wp2
    go_ret2
    exact ⟨Below.refl _ _, Or.inr ⟨[], _, HO.out, rfl, owns_nil _ _⟩⟩
  · obtain ⟨hz1, hz2⟩ := str_ne h0
    have hl0 : s.data.toList ≠ [] := fun h => h0 (by rw [← str_len, h]; rfl)
    unfold grpsN at ho
    rw [if_neg hl0] at ho
    have HSP := Lib.hid (pSplit s 58 w (by omega) HE.out)
    have hle : ∀ p ∈ splitB 58 s.data.toList, p.length ≤ 39 := fun p hp => by have := piece_len hp; rw [str_len] at this; omega
    have hcnt := splitB_len 58 s.data.toList
    rw [str_len] at hcnt
    obtain ⟨ps, hps⟩ : ∃ ps, ps = splitB 58 s.data.toList := ⟨_, rfl⟩
    rw [← hps] at ho HSP hle hcnt
    have HO := Lib.hid ho
    have HLE := Lib.hid hle
    have HCN : Hid (ps.length ≤ 40) := by show _ ≤ _; omega
    clear ho hps hl0 hle hcnt
    go_enter Tryz.func180, Tryz.ntmps180
    go_wp2_with (first | (go_at_call 37; refine HSP.out.mono ?_; rintro e w1 ⟨v1, rfl, o1, b1⟩; refine Hid.out ?_) | fail)
    refine Lib.hid ?_
    obtain ⟨pa, pc, rfl, _⟩ := o1.form
    have HP := Lib.hid o1
    have HB1 := Lib.hid b1
    have HE1 : Hid (Env w1) := HE.out.on b1
    clear o1 b1
    have e5 : ¬ (ps.length : Int) < 0 := by omega
    obtain ⟨R, hR⟩ : ∃ R : Value → Value → World → Prop, R = fun v i wr => ∃ ns : List Nat, ns.length ≤ ps.length ∧ i = .int .i64 (ns.length : Int) ∧ Owns wr w1.heap.size v (ns.flatMap two) ∧ Below w.heap.size w wr ∧ Below w1.heap.size w1 wr ∧ Hid (mapO grpN (ps.take ns.length) = some ns) := ⟨_, rfl⟩
    have HR := Lib.hid hR
    clear hR
    go_wp2
    go_loopw [4, 14] (fun v i wr => R v i wr) (fun _ i _ => ps.length - (intOf i).toNat)
    case atStart => rw [HR.out]; exact ⟨[], by simp, rfl, (owns_nil _ _), HB1.out, Below.refl _ _, rfl⟩
    case round =>
      rw [HR.out] at hrel
      obtain ⟨ns, hk, rfl, hown, hbw, hbw1, hm⟩ := hrel
      have HOW := Lib.hid hown
      have HBW := Lib.hid hbw
      have HER := Lib.hid (HE1.out.on hbw1)
      by_cases hlt : ns.length < ps.length
      · have hx : ps[ns.length]? = some (ps[ns.length]) := List.getElem?_eq_getElem hlt
        have HX := Lib.hid hx
        obtain ⟨pb, rfl, hcell⟩ := (HP.out.on hbw1).cell hx
        generalize hxx : ps[ns.length] = x at hcell HX
        have hxl := HLE.out x (List.mem_of_getElem? HX.out)
        have HG := Lib.hid (pParse16 ⟨x.toArray⟩ wr (by rw [arr_size]; omega) HER.out)
        have hcn := HCN.out
        have i1 : (ns.length : Int) < (ps.length : Int) := by omega
        have i0' : (0 : Int) ≤ (ns.length : Int) := by omega
        rw [show (⟨x.toArray⟩ : ByteArray).data.toList = x from rfl] at HG
        have HASZ := Lib.hid (arr_size x)
        have HBW1 := Lib.hid hbw1
        clear hx hown hbw hbw1 hxx
        cases hgx : hexO x with
        | none =>
          have HNO : Hid (o = none) := by have := HO.out; rw [mapO_none grpN (grpN_no (Or.inl hgx)) (List.mem_of_getElem? HX.out)] at this; exact this
          rw [hgx] at HG
          have HG2 := Lib.hid (parse_no HG.out)
          clear hgx hm HG
          go_wp2_with (first | (go_at_call 204; refine HG2.out.mono ?_; rintro e w2 ⟨x0, t0, p0, rfl, b2⟩; refine Hid.out ?_) | fail)
          refine Lib.hid ?_
          have HB2 := Lib.hid (HBW.out.trans (b2.mono HBW.out.size))
          clear b2
          go_wp2
          go_ret2
          exact ⟨HB2.out, Or.inl ⟨HNO.out, rfl⟩⟩
        | some n =>
          have hn := hexO_le hgx
          rw [hgx] at HG
          have HG2 := Lib.hid (parse_yes HG.out)
          by_cases h4 : x.length ≤ 4
          · have hgr := grpN_yes hgx h4
            have HM2 : Hid (mapO grpN (ps.take (ns ++ [n]).length) = some (ns ++ [n])) := by
              show _ = _
              rw [List.length_append, List.length_singleton, List.take_succ_eq_append_getElem hlt, show ps[ns.length] = x by have := HX.out; rw [List.getElem?_eq_getElem hlt] at this; exact Option.some.inj this]
              exact mapO_snoc grpN x _ hm.out hgr
            have i4 : ¬ (4 : Int) < ((⟨x.toArray⟩ : ByteArray).size : Int) := by rw [HASZ.out]; omega
            have HFL := Lib.hid (flat_two_len ns)
            have HCL : Hid ((ns.flatMap two).length ≤ 100) := by show _ ≤ _; rw [HFL.out]; have := HCN.out; omega
            have HTP := Lib.hid (two_parts n hn)
            clear hgx hm HG hgr
            go_wp2_with (first | (go_at_call 204; refine HG2.out.mono ?_; rintro e w2 ⟨rfl, b2⟩; refine Hid.out ?_) | fail)
            refine Lib.hid ?_
            have HO5 := Lib.hid (HOW.out.on (b2.alloc b2.size (.cells #[.int .u8 ((n : Int) / 256), .int .u8 ((n : Int) % 256)] 5)))
            have HR5 := Lib.hid (reads_two w2 (UInt8.ofNat (n / 256)) (UInt8.ofNat (n % 256)) ((n : Int) / 256) ((n : Int) % 256) (by rw [← HTP.out.1]; push_cast; rfl) (by rw [← HTP.out.2]; push_cast; rfl))
            have HSZ5 : Hid (w1.heap.size ≤ (w2.alloc (.cells #[.int .u8 ((n : Int) / 256), .int .u8 ((n : Int) % 256)] 5)).heap.size) := by show _ ≤ _; have h1 := HBW1.out.size; have h2 := b2.size; simp; omega
            have HLM : Hid ((ns.flatMap two).length + (two n).length ≤ 200000000000000) := by show _ ≤ _; have := HCL.out; simp only [two, List.length_cons, List.length_nil]; omega
            have HB52 := Lib.hid (b2.alloc b2.size (.cells #[.int .u8 ((n : Int) / 256), .int .u8 ((n : Int) % 256)] 5))
            clear b2
            go_wp2_with (first | (refine wp_append_reads _ rfl _ _ rfl w1.heap.size _ _ (ns.flatMap two) (two n) rfl rfl HO5.out HR5.out HLM.out HSZ5.out ?_; intro v3 w3 ow3 b3; refine Hid.out ?_) | fail)
            refine Lib.hid ?_
            have HFIN : Hid (R v3 (.int .i64 ((ns.length : Int) + 1)) w3) := by
              show R _ _ _
              rw [HR.out]
              have hb5 : Below w1.heap.size w1 (w2.alloc (.cells #[.int .u8 ((n : Int) / 256), .int .u8 ((n : Int) % 256)] 5)) := HBW1.out.trans (HB52.out.mono HBW1.out.size)
              refine ⟨ns ++ [n], by simp; omega, by simp, by rw [List.flatMap_append]; simpa using ow3, ((HBW.out.trans (HB52.out.mono HBW.out.size))).trans (b3.mono HB1.out.size), hb5.trans b3, HM2.out⟩
            clear ow3 b3
            go_wp2
            go_roundw
            case rel => exact HFIN.out
            case measure => simp [intOf]; omega
          · have HNO : Hid (o = none) := by have := HO.out; rw [mapO_none grpN (grpN_no (Or.inr (by omega))) (List.mem_of_getElem? HX.out)] at this; exact this
            have i4 : (4 : Int) < ((⟨x.toArray⟩ : ByteArray).size : Int) := by rw [HASZ.out]; omega
            clear hgx hm HG
            go_wp2_with (first | (go_at_call 204; refine HG2.out.mono ?_; rintro e w2 ⟨rfl, b2⟩; refine Hid.out ?_) | fail)
            refine Lib.hid ?_
            have HB2 := Lib.hid (HBW.out.trans (b2.mono HBW.out.size))
            clear b2
            go_wp2
            go_ret2
            exact ⟨HB2.out, Or.inl ⟨HNO.out, rfl⟩⟩
      · have HYES : Hid (o = some ns) := by
          have h1 := hm.out
          rw [List.take_of_length_le (by omega)] at h1
          exact HO.out.trans h1
        have i1 : ¬ (ns.length : Int) < (ps.length : Int) := by omega
        clear hm hown hbw hbw1
        go_wp2
        go_ret2
        exact ⟨HBW.out, Or.inr ⟨ns, _, HYES.out, rfl, HOW.out.mono HB1.out.size⟩⟩
end Go.Proofs.YtnehgbpfgehhiaaGreatDoor.Cidr
/-
  CIDR, the program: groups of IPv6 as bytes (plain); '::' found.
-/
namespace Go.Proofs.YtnehgbpfgehhiaaGreatDoor.Cidr
open Go.RowKit Base
theorem occ_cc (l : List UInt8) (j : Nat) (h : j + 1 < l.length) : Lib.occAt l [58, 58] j = ccB l j := by
  have e : l.drop j = l[j] :: l[j + 1] :: l.drop (j + 2) := by
    rw [List.getElem_cons_drop, List.getElem_cons_drop]
  unfold Lib.occAt ccB
  rw [e]
  simp only [List.isPrefixOf, Bool.and_true]
  rw [List.getD_eq_getElem?_getD, List.getD_eq_getElem?_getD, List.getElem?_eq_getElem (show j < l.length by omega), List.getElem?_eq_getElem h]
  simp only [Option.getD_some]
  clear e
  generalize l[j] = x
  generalize l[j + 1] = y
  rw [Bool.eq_iff_iff]
  rw [Bool.and_eq_true, Bool.and_eq_true, beq_iff_eq, beq_iff_eq, decide_eq_true_iff, decide_eq_true_iff]
  exact ⟨fun h => ⟨h.1.symm, h.2.symm⟩, fun h => ⟨h.1.symm, h.2.symm⟩⟩
theorem index_cc (l : List UInt8) : Lib.index l [58, 58] = match firstCC l with | some a => (a : Int) | none => -1 := by
  unfold firstCC
  cases hf : (List.range (l.length - 1)).find? (ccB l) with
  | none =>
    rw [List.find?_eq_none] at hf
    by_cases h0 : l.length = 0
    · rw [List.eq_nil_of_length_eq_zero h0]; rfl
    · refine Lib.index_past (i := l.length - 1) (by simp) (fun j hj => ?_) (by simp; omega)
      rw [occ_cc l j (by omega)]
      simpa using hf j (List.mem_range.2 hj)
  | some a =>
    obtain ⟨h1, i, hi, h2, h3⟩ := List.find?_eq_some_iff_getElem.1 hf
    rw [List.length_range] at hi
    simp only [List.getElem_range] at h2
    subst h2
    refine Lib.index_hit (fun j hj => ?_) (by omega) ?_
    · rw [occ_cc l j (by omega)]
      simpa using h3 j hj
    · rw [occ_cc l i (by omega)]; exact h1
theorem pCC (s : ByteArray) (w : World) (hs : s.size ≤ 100) (he : Env w) : Calls Tryz.prog 179 #[.string s, .string ⟨#[58, 58]⟩] w fun e w' => e = .returned (.tuple #[.string (headS s (firstCC s.data.toList)), .string (tailS s (firstCC s.data.toList)), .bool (firstCC s.data.toList).isSome]) ∧ Below w.heap.size w w' := by
  obtain ⟨m, hm⟩ := he.maxCell
  refine (Tryz.strings_Cut s ⟨#[58, 58]⟩ m w (by omega) hm).mono ?_
  rintro e w' ⟨rfl, n, rfl⟩
  refine ⟨?_, bel_drew _ _⟩
  have hi := index_cc s.data.toList
  have hlt := fun a => @firstCC_lt s a
  generalize firstCC s.data.toList = cc at *
  have e2 : (⟨#[58, 58]⟩ : ByteArray).data.toList = [58, 58] := rfl
  rw [e2]
  unfold Lib.cut
  cases cc with
  | none =>
    simp only at hi
    rw [hi, if_neg (by omega)]
    rfl
  | some a =>
    simp only at hi
    have := hlt a rfl
    rw [hi, if_pos (by omega), Int.toNat_natCast]
    simp only [headS, tailS, extract_bytes]
    have ht : List.take s.size s.data.toList = s.data.toList := List.take_of_length_le (by rw [str_len]; omega)
    rw [ht]
    simp
theorem flat_zero : ∀ (k : Nat), (List.replicate k 0).flatMap two = List.replicate (2 * k) 0
  | 0 => rfl
  | k + 1 => by
    rw [List.replicate_succ, List.flatMap_cons, flat_zero k, show 2 * (k + 1) = 2 * k + 1 + 1 by omega, List.replicate_succ, List.replicate_succ]
    rfl
theorem splice_16 {X Y : List Value} (z : Value) (h : X.length + Y.length ≤ 16) : splice (splice (List.replicate 16 z) 0 X) (16 - Y.length) Y = X ++ (List.replicate (16 - X.length - Y.length) z ++ Y) := by
  unfold splice
  simp only [List.take_zero, List.nil_append, Nat.zero_add, List.drop_replicate]
  rw [List.take_append, List.drop_append, List.take_of_length_le (by omega), List.drop_eq_nil_of_le (by omega)]
  simp
  rw [show min (16 - Y.length - X.length) (16 - X.length) = 16 - X.length - Y.length by omega, show 16 - X.length - (16 - Y.length + Y.length - X.length) = 0 by omega]
  simp
theorem splice_all {A B : List Nat} (h : A.length + B.length ≤ 8) : splice (splice (zA.map B8) 0 ((A.flatMap two).map B8)) (16 - ((B.flatMap two).map B8).length) ((B.flatMap two).map B8) = ((allG A B).flatMap two).map B8 := by
  have e : zA.map B8 = List.replicate 16 (B8 0) := by simp [zA]
  rw [e, splice_16 (B8 0) (by rw [List.length_map, List.length_map, flat_two_len, flat_two_len]; omega)]
  unfold allG
  rw [List.flatMap_append, List.flatMap_append, flat_zero, List.map_append, List.map_append, List.map_replicate, List.length_map, List.length_map, flat_two_len, flat_two_len]
  rw [show 16 - 2 * A.length - 2 * B.length = 2 * (8 - A.length - B.length) by omega]
theorem bytes_one (l : List UInt8) : ∀ v ∈ l.map B8, v.oneCell' = true := fun v hv => by
  obtain ⟨x, _, rfl⟩ := List.mem_map.1 hv; rfl
theorem copy_src8 {w : World} {B : Nat} {a : Option Addr} {n c : Nat} {l : List UInt8} (h : Owns w B (.slice a n c) l) : 0 < (l.map B8).length → ∃ ad, a = some ad ∧ ∀ j v, (l.map B8)[j]? = some v → w.cell? (ad.add j) = some v := fun h0 => by
  rw [List.length_map] at h0
  obtain ⟨g, c', he, _⟩ := h.form h0
  cases he
  refine ⟨⟨g, 0, none⟩, rfl, fun j v hv => ?_⟩
  rw [List.getElem?_map] at hv
  cases hj : l[j]? with
  | none => rw [hj] at hv; cases hv
  | some x =>
    rw [hj] at hv
    cases hv
    have hjl := (List.getElem?_eq_some_iff.1 hj).1
    have := h.cell j hjl
    rw [Addr.add_lit, Nat.zero_add, this, List.getD_eq_getElem?_getD, hj]
    rfl
theorem grps_len {l : List UInt8} {A : List Nat} (h : grpsN l = some A) : l.length ≤ 5 * A.length ∧ (l ≠ [] → l.length + 1 ≤ 5 * A.length) := by
  unfold grpsN at h
  by_cases h0 : l = []
  · rw [if_pos h0] at h; cases h; subst h0; simp
  · rw [if_neg h0] at h
    obtain ⟨h1, h2⟩ := mapO_all h
    have h3 := pieces_len 58 l
    have h5 := sum_le (fun p : List UInt8 => p.length + 1) 5 (splitB 58 l) fun p hp => by
      obtain ⟨y, hy⟩ := h2 p hp
      unfold grpN at hy
      split at hy
      · rename_i hh; show p.length + 1 ≤ 5; omega
      · cases hy
    rw [← h1] at h5
    exact ⟨by omega, fun _ => by omega⟩
theorem sixS_big {s : ByteArray} (h : 39 < s.size) : sixS s = none := by
  unfold sixS
  have hlt := fun a => @firstCC_lt s a
  generalize firstCC s.data.toList = cc at *
  cases hA : grpsN (headS s cc).data.toList with
  | none => rfl
  | some A =>
    cases hB : grpsN (tailS s cc).data.toList with
    | none => rfl
    | some B =>
      obtain ⟨a1, a2⟩ := grps_len hA
      obtain ⟨b1, b2⟩ := grps_len hB
      rw [str_len] at a1 a2 b1 b2
      simp only
      rw [if_neg]
      intro hok
      unfold okG at hok
      cases cc with
      | none =>
        have h8 := of_decide_eq_true hok
        have hh : (headS s none).size = s.size := rfl
        rw [hh] at a1 a2
        have hne : (headS s none).data.toList ≠ [] := fun e => by have := str_len (headS s none); rw [e, hh] at this; simp at this; omega
        have := a2 hne
        omega
      | some a =>
        have h7 := of_decide_eq_true hok
        have hl := hlt a rfl
        have hh : (headS s (some a)).size = a := by unfold headS; rw [ByteArray.size_extract]; omega
        have ht : (tailS s (some a)).size = s.size - (a + 2) := by unfold tailS; rw [ByteArray.size_extract]; omega
        rw [hh] at a1; rw [ht] at b1
        omega
end Go.Proofs.YtnehgbpfgehhiaaGreatDoor.Cidr
