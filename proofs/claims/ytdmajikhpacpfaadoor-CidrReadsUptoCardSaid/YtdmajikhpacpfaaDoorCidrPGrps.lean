/-
  CIDR, the program: groups, two bytes of each.
-/
import Derived.Test.YtdmajikhpacpfaaDoorCidrPFour
namespace Go.Proofs.YtdmajikhpacpfaaDoor.Cidr
open Go.RowKit Base
def GEnd (o : Option (List Nat)) (w : World) (e : Ending) (w' : World) : Prop :=
  Below w.heap.size w w' ∧ ((o = none ∧ e = .returned (.tuple #[.slice none 0 0, .bool false])) ∨ ∃ ns v, o = some ns ∧ e = .returned (.tuple #[v, .bool true]) ∧ Owns w' w.heap.size v (ns.flatMap two))
theorem reads_two (w : World) (x y : UInt8) (a b : Int) (ha : a = (x.toNat : Int)) (hb : b = (y.toNat : Int)) : Reads (w.alloc (.cells #[.int .u8 a, .int .u8 b] 5)) (.slice (some ⟨w.heap.size, 0, none⟩) 2 2) [x, y] := by
  subst ha hb
  exact reads_lit w 5 #[.int .u8 x.toNat, .int .u8 y.toNat] [x, y] 2 rfl rfl (0, 0)
theorem two_parts (n : Nat) (h : n ≤ 65535) : ((n / 256 : Nat) : Int) = ((UInt8.ofNat (n / 256)).toNat : Int) ∧ ((n % 256 : Nat) : Int) = ((UInt8.ofNat (n % 256)).toNat : Int) := by
  constructor
  · simp; omega
  · simp
theorem grpN_yes {x : List UInt8} {n : Nat} (h : hexO x = some n) (h4 : x.length ≤ 4) : grpN x = some n := by rw [hexO_grp x h4, h]
theorem grpN_no {x : List UInt8} (h : hexO x = none ∨ 4 < x.length) : grpN x = none := by
  by_cases h4 : x.length ≤ 4
  · rcases h with h | h
    · rw [hexO_grp x h4, h]
    · omega
  · unfold grpN; rw [if_neg (fun h => h4 h.2.1)]
theorem flat_two_len (ns : List Nat) : (ns.flatMap two).length = 2 * ns.length := by
  induction ns with
  | nil => rfl
  | cons a r ih => rw [List.flatMap_cons, List.length_append, ih]; simp [two]; omega
set_option maxHeartbeats 4000000 in
set_option maxRecDepth 100000 in
theorem pGroups (s : ByteArray) (hs : s.size ≤ 39) (w : World) (he : Env w) : Calls Tryd.prog 49 #[.string s] w (GEnd (grpsN s.data.toList) w) := by
  obtain ⟨o, ho⟩ : ∃ o, o = grpsN s.data.toList := ⟨_, rfl⟩
  rw [← ho]
  have HE := Lib.hid he
  clear he
  by_cases h0 : s.size = 0
  · obtain rfl := str_empty h0
    have HO : Hid (o = some []) := ho
    clear ho h0
    go_enter Tryd.func49, Tryd.ntmps49
    go_wp2
    go_ret2
    exact ⟨Below.refl _ _, Or.inr ⟨[], _, HO.out, rfl, owns_nil _ _⟩⟩
  · obtain ⟨hz1, hz2⟩ := str_ne h0
    have hl0 : s.data.toList ≠ [] := fun h => h0 (by rw [← str_len, h]; rfl)
    unfold grpsN at ho
    rw [if_neg hl0] at ho
    have HSP := Lib.hid (pSplit s 58 w (by omega) HE.out)
    have hle : ∀ p ∈ splitB 58 s.data.toList, p.length ≤ 39 := fun p hp => by have := piece_len hp; rw [str_len] at this; omega
    have hcnt := splitB_len 58 s.data.toList
    rw [str_len] at hcnt
    obtain ⟨ps, hps⟩ : ∃ ps, ps = splitB 58 s.data.toList := ⟨_, rfl⟩
    rw [← hps] at ho HSP hle hcnt
    have HO := Lib.hid ho
    have HLE := Lib.hid hle
    have HCN : Hid (ps.length ≤ 40) := by show _ ≤ _; omega
    clear ho hps hl0 hle hcnt
    go_enter Tryd.func49, Tryd.ntmps49
    go_wp2_with (first | (go_at_call 48; refine HSP.out.mono ?_; rintro e w1 ⟨v1, rfl, o1, b1⟩; refine Hid.out ?_) | fail)
    refine Lib.hid ?_
    obtain ⟨pa, pc, rfl, _⟩ := o1.form
    have HP := Lib.hid o1
    have HB1 := Lib.hid b1
    have HE1 : Hid (Env w1) := HE.out.on b1
    clear o1 b1
    have e5 : ¬ (ps.length : Int) < 0 := by omega
    obtain ⟨R, hR⟩ : ∃ R : Value → Value → World → Prop, R = fun v i wr => ∃ ns : List Nat, ns.length ≤ ps.length ∧ i = .int .i64 (ns.length : Int) ∧ Owns wr w1.heap.size v (ns.flatMap two) ∧ Below w.heap.size w wr ∧ Below w1.heap.size w1 wr ∧ Hid (mapO grpN (ps.take ns.length) = some ns) := ⟨_, rfl⟩
    have HR := Lib.hid hR
    clear hR
    go_wp2
    go_loopw [4, 14] (fun v i wr => R v i wr) (fun _ i _ => ps.length - (intOf i).toNat)
    case atStart => rw [HR.out]; exact ⟨[], by simp, rfl, (owns_nil _ _), HB1.out, Below.refl _ _, rfl⟩
    case round =>
      rw [HR.out] at hrel
      obtain ⟨ns, hk, rfl, hown, hbw, hbw1, hm⟩ := hrel
      have HOW := Lib.hid hown
      have HBW := Lib.hid hbw
      have HER := Lib.hid (HE1.out.on hbw1)
      by_cases hlt : ns.length < ps.length
      · have hx : ps[ns.length]? = some (ps[ns.length]) := List.getElem?_eq_getElem hlt
        have HX := Lib.hid hx
        obtain ⟨pb, rfl, hcell⟩ := (HP.out.on hbw1).cell hx
        generalize hxx : ps[ns.length] = x at hcell HX
        have hxl := HLE.out x (List.mem_of_getElem? HX.out)
        have HG := Lib.hid (pParse16 ⟨x.toArray⟩ wr (by rw [arr_size]; omega) HER.out)
        have hcn := HCN.out
        have i1 : (ns.length : Int) < (ps.length : Int) := by omega
        have i0' : (0 : Int) ≤ (ns.length : Int) := by omega
        rw [show (⟨x.toArray⟩ : ByteArray).data.toList = x from rfl] at HG
        have HASZ := Lib.hid (arr_size x)
        have HBW1 := Lib.hid hbw1
        clear hx hown hbw hbw1 hxx
        cases hgx : hexO x with
        | none =>
          have HNO : Hid (o = none) := by have := HO.out; rw [mapO_none grpN (grpN_no (Or.inl hgx)) (List.mem_of_getElem? HX.out)] at this; exact this
          rw [hgx] at HG
          have HG2 := Lib.hid (parse_no HG.out)
          clear hgx hm HG
          go_wp2_with (first | (go_at_call 52; refine HG2.out.mono ?_; rintro e w2 ⟨x0, t0, p0, rfl, b2⟩; refine Hid.out ?_) | fail)
          refine Lib.hid ?_
          have HB2 := Lib.hid (HBW.out.trans (b2.mono HBW.out.size))
          clear b2
          go_wp2
          go_ret2
          exact ⟨HB2.out, Or.inl ⟨HNO.out, rfl⟩⟩
        | some n =>
          have hn := hexO_le hgx
          rw [hgx] at HG
          have HG2 := Lib.hid (parse_yes HG.out)
          by_cases h4 : x.length ≤ 4
          · have hgr := grpN_yes hgx h4
            have HM2 : Hid (mapO grpN (ps.take (ns ++ [n]).length) = some (ns ++ [n])) := by
              show _ = _
              rw [List.length_append, List.length_singleton, List.take_succ_eq_append_getElem hlt, show ps[ns.length] = x by have := HX.out; rw [List.getElem?_eq_getElem hlt] at this; exact Option.some.inj this]
              exact mapO_snoc grpN x _ hm.out hgr
            have i4 : ¬ (4 : Int) < ((⟨x.toArray⟩ : ByteArray).size : Int) := by rw [HASZ.out]; omega
            have HFL := Lib.hid (flat_two_len ns)
            have HCL : Hid ((ns.flatMap two).length ≤ 100) := by show _ ≤ _; rw [HFL.out]; have := HCN.out; omega
            have HTP := Lib.hid (two_parts n hn)
            clear hgx hm HG hgr
            go_wp2_with (first | (go_at_call 52; refine HG2.out.mono ?_; rintro e w2 ⟨rfl, b2⟩; refine Hid.out ?_) | fail)
            refine Lib.hid ?_
            have HO5 := Lib.hid (HOW.out.on (b2.alloc b2.size (.cells #[.int .u8 ((n : Int) / 256), .int .u8 ((n : Int) % 256)] 5)))
            have HR5 := Lib.hid (reads_two w2 (UInt8.ofNat (n / 256)) (UInt8.ofNat (n % 256)) ((n : Int) / 256) ((n : Int) % 256) (by rw [← HTP.out.1]; push_cast; rfl) (by rw [← HTP.out.2]; push_cast; rfl))
            have HSZ5 : Hid (w1.heap.size ≤ (w2.alloc (.cells #[.int .u8 ((n : Int) / 256), .int .u8 ((n : Int) % 256)] 5)).heap.size) := by show _ ≤ _; have h1 := HBW1.out.size; have h2 := b2.size; simp; omega
            have HLM : Hid ((ns.flatMap two).length + (two n).length ≤ 200000000000000) := by show _ ≤ _; have := HCL.out; simp only [two, List.length_cons, List.length_nil]; omega
            have HB52 := Lib.hid (b2.alloc b2.size (.cells #[.int .u8 ((n : Int) / 256), .int .u8 ((n : Int) % 256)] 5))
            clear b2
            go_wp2_with (first | (refine wp_append_reads _ rfl _ _ rfl w1.heap.size _ _ (ns.flatMap two) (two n) rfl rfl HO5.out HR5.out HLM.out HSZ5.out ?_; intro v3 w3 ow3 b3; refine Hid.out ?_) | fail)
            refine Lib.hid ?_
            have HFIN : Hid (R v3 (.int .i64 ((ns.length : Int) + 1)) w3) := by
              show R _ _ _
              rw [HR.out]
              have hb5 : Below w1.heap.size w1 (w2.alloc (.cells #[.int .u8 ((n : Int) / 256), .int .u8 ((n : Int) % 256)] 5)) := HBW1.out.trans (HB52.out.mono HBW1.out.size)
              refine ⟨ns ++ [n], by simp; omega, by simp, by rw [List.flatMap_append]; simpa using ow3, ((HBW.out.trans (HB52.out.mono HBW.out.size))).trans (b3.mono HB1.out.size), hb5.trans b3, HM2.out⟩
            clear ow3 b3
            go_wp2
            go_roundw
            case rel => exact HFIN.out
            case measure => simp [intOf]; omega
          · have HNO : Hid (o = none) := by have := HO.out; rw [mapO_none grpN (grpN_no (Or.inr (by omega))) (List.mem_of_getElem? HX.out)] at this; exact this
            have i4 : (4 : Int) < ((⟨x.toArray⟩ : ByteArray).size : Int) := by rw [HASZ.out]; omega
            clear hgx hm HG
            go_wp2_with (first | (go_at_call 52; refine HG2.out.mono ?_; rintro e w2 ⟨rfl, b2⟩; refine Hid.out ?_) | fail)
            refine Lib.hid ?_
            have HB2 := Lib.hid (HBW.out.trans (b2.mono HBW.out.size))
            clear b2
            go_wp2
            go_ret2
            exact ⟨HB2.out, Or.inl ⟨HNO.out, rfl⟩⟩
      · have HYES : Hid (o = some ns) := by
          have h1 := hm.out
          rw [List.take_of_length_le (by omega)] at h1
          exact HO.out.trans h1
        have i1 : ¬ (ns.length : Int) < (ps.length : Int) := by omega
        clear hm hown hbw hbw1
        go_wp2
        go_ret2
        exact ⟨HBW.out, Or.inr ⟨ns, _, HYES.out, rfl, HOW.out.mono HB1.out.size⟩⟩
end Go.Proofs.YtdmajikhpacpfaaDoor.Cidr
