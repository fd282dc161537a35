/-
  CIDR, the program: texts put together; the form of an address of IPv4, of groups.
-/
import Derived.Test.YtdmajikhpacpfaaDoorCidrPFirst
import Derived.Test.YtdmajikhpacpfaaDoorCidrPHexF
import Derived.Test.YtdmajikhpacpfaaDoorCidrShow
import Derived.Lib.AppendIntMem
namespace Go.Proofs.YtdmajikhpacpfaaDoor.Cidr
open Go.RowKit Base
/-- The library's variables, with what the form of a group reads. -/
structure EnvS (w : World) : Prop where
  env : Env w
  tz : Tz w
theorem EnvS.on {w w' : World} (h : EnvS w) (hb : Below w.heap.size w w') : EnvS w' := ⟨h.env.on hb, h.tz.on hb⟩
theorem wp_append_s {w0 : World} {ops : Array Oper} {rest : List Oper} {o : Oper} {a : Act} {Q : Exit → Act → World → Prop} (hgd : o.guard = none) (s y : Operand)
    (ho : o.op = .call { callee := .builtin .append, args := #[s, y], argTypes := #[52, 52] })
    (B : Nat) (v : Value) (ls : List (List UInt8)) (l : List UInt8) (hs : a.eval s = v) (hx : a.eval y = .slice (some ⟨w0.heap.size, 0, none⟩) 1 1) (hown : OwnsS w0 B v ls) (hl : ls.length ≤ 1000) (hB : B ≤ w0.heap.size)
    (h : ∀ v' w', OwnsS w' B v' (ls ++ [l]) → Below B w0 w' → wpList Tryd.prog ops Q rest (a.put o.dst v') w') : wpList Tryd.prog ops Q (o :: rest) a (w0.alloc (.cells #[S l] 9)) := by
  obtain ⟨i0, hi0, hz0, hz1, hz2⟩ := info_parts info9
  refine wpList_append_row _ hgd s y 52 ho B 9 i0 (.string ⟨#[]⟩) 16 Tryd.underlying52 hi0 hz0 hz1 hz2 rfl v _ ls.length (ls.map S) [S l] hs hx (World.ownsRow.alloc hown _) (vreads_one _ _ _) (one_str _) (by rw [List.length_singleton]; omega) (by rw [List.length_singleton]; omega) (Nat.le_trans hB (Below.alloc1 w0 _).size) (fun v' w' o2 g2 a2 => ?_)
  refine h v' w' ?_ (((Below.refl B w0).alloc hB _).grown g2 (Nat.le_trans hB (Below.alloc1 w0 _).size) (fun j hj => (World.ownsRow.lt hown j hj).1))
  unfold OwnsS
  rw [List.map_append, List.length_append]
  exact o2
/-- strings.Join of a row of the call's own. -/
theorem pJoin (B : Nat) (v : Value) (ls : List (List UInt8)) (c : UInt8) (w : World) (h : OwnsS w B v ls) (hl : ls.length ≤ 1000) (hlen : (Lib.join ls [c]).length ≤ 100000) : Calls Tryd.prog 57 #[v, .string ⟨#[c]⟩] w fun e w' => e = .returned (S (Lib.join ls [c])) ∧ Below w.heap.size w w' := by
  rcases h.2 with ⟨rfl, hn⟩ | ⟨g, cap, cur, rfl, h1, h2, h3, h4, h5, h6⟩
  · have : ls = [] := List.eq_nil_of_length_eq_zero hn
    subst this
    refine (Tryd.strings_Join_none none 0 ⟨#[c]⟩ w).mono ?_
    rintro e w' ⟨rfl, rfl⟩
    exact ⟨rfl, Below.refl _ _⟩
  · obtain ⟨xs, rfl⟩ : ∃ xs : List ByteArray, ls = xs.map (·.data.toList) := ⟨ls.map fun l => ⟨l.toArray⟩, by rw [List.map_map]; exact (List.map_id ls).symm⟩
    have hc := fun (j : Nat) (x : List UInt8) hx => OwnsS.cell (ls := xs.map (·.data.toList)) (i := j) (x := x) h hx
    have := Tryd.strings_Join g 0 cap xs ⟨#[c]⟩ w (fun j x hx => by
      obtain ⟨b, hb, hcell⟩ := hc j x.data.toList (by rw [List.getElem?_map, hx]; rfl)
      cases hb
      rw [Nat.zero_add, hcell]) (heap_lt h2) (by simp at hl; omega) (by simpa using h3) (by
        have e : (⟨#[c]⟩ : ByteArray).data.toList = [c] := rfl
        rw [e]; omega)
    rw [show (xs.map (·.data.toList)).length = xs.length by simp]
    exact this
theorem dec_len3 (x : UInt8) : (Lib.decDigits x.toNat).length ≤ 3 := dec_len0 2 _ (by have := x.toNat_lt; omega)
theorem four_join (a : List UInt8) : Lib.join ((List.range 4).map fun i => Lib.decDigits (a.getD i 0).toNat) [46] = fourA a 4 := by
  rw [show List.range 4 = [0, 1, 2, 3] from rfl]
  simp only [List.map_cons, List.map_nil, fourA]
  rw [Lib.join_cons]
  simp [Lib.joinTail]
theorem itoa_nat (n : Nat) : Lib.itoa (n : Int) = Lib.decDigits n := by unfold Lib.itoa; rw [if_neg (by omega), Int.toNat_natCast]
theorem pItoa (n : Nat) (hn : n ≤ 9223372036854775807) (w : World) (he : Env w) : Calls Tryd.prog 56 #[.int .i64 (n : Int)] w fun e w' => e = .returned (S (Lib.decDigits n)) ∧ Below w.heap.size w w' := by
  refine (Tryd.strconv_Itoa (n : Int) (by omega) (by omega) w he.pow).mono ?_
  rintro e w' ⟨rfl, k, os, rfl⟩
  exact ⟨by rw [itoa_nat], Lib.below_grow _ w (Nat.le_refl _) k os⟩
set_option maxHeartbeats 4000000 in
set_option maxRecDepth 100000 in
theorem pFormFour (a : List UInt8) (ha : a.length = 16) (w : World) (he : Env w) : Calls Tryd.prog 40 #[.agg (a.map B8).toArray] w fun e w' => e = .returned (S (fourA a 4)) ∧ Below w.heap.size w w' := by
  have HA := Lib.hid ha
  have H0 := Lib.hid (AddrAt.new w a)
  have HB0 := Lib.hid (Below.alloc1 w (.cells (a.map B8).toArray 23))
  have HE0 := Lib.hid (he.on HB0.out)
  have hs4 : (Instr.sliceAt 23 (.pointer (some ⟨w.heap.size, 0, none⟩)) none (some (.int .i64 4)) none).run Tryd.prog (w.alloc (.cells (a.map B8).toArray 23)) = .ok (.slice (some ⟨w.heap.size, 0, none⟩) 4 16) (w.alloc (.cells (a.map B8).toArray 23)) := by kernel_rfl
  obtain ⟨w0, hw0⟩ : ∃ w0, w0 = w.alloc (.cells (a.map B8).toArray 23) := ⟨_, rfl⟩
  rw [← hw0] at H0 HB0 HE0
  obtain ⟨R, hR⟩ : ∃ R : Value → Value → World → Prop, R = fun v i wr => ∃ k : Nat, k ≤ 4 ∧ i = .int .i64 (k : Int) ∧ OwnsS wr w0.heap.size v ((List.range k).map fun i => Lib.decDigits (a.getD i 0).toNat) ∧ Below w0.heap.size w0 wr := ⟨_, rfl⟩
  have HR := Lib.hid hR
  have HW0 := Lib.hid hw0
  clear hR hw0 he ha
  go_enter Tryd.func40, Tryd.ntmps40
  go_wp2
  go_loopw [3, 8] (fun v i wr => R v i wr) (fun _ i _ => 4 - (intOf i).toNat)
  case atStart =>
    rw [HR.out]
    exact ⟨0, by omega, rfl, World.ownsRow_nil _ _ _ _, by rw [HW0.out]; exact Below.refl _ _⟩
  case round =>
    rw [HR.out] at hrel
    obtain ⟨k, hk, rfl, hown, hbw⟩ := hrel
    have HOW := Lib.hid hown
    have HBW := Lib.hid hbw
    by_cases hlt : k < 4
    · have i1 : (k : Int) < 4 := by omega
      have i0 : (0 : Int) ≤ (k : Int) := by omega
      obtain ⟨c1, _⟩ := (H0.out.on hbw).cell (k := k) (by rw [HA.out]; omega)
      have hx := (a.getD k 0).toNat_lt
      have HDL := Lib.hid (dec_len3 (a.getD k 0))
      have HNX : Hid ((List.range (k + 1)).map (fun i => Lib.decDigits (a.getD i 0).toNat) = (List.range k).map (fun i => Lib.decDigits (a.getD i 0).toNat) ++ [Lib.decDigits (a.getD k 0).toNat]) := by
        show _ = _
        rw [List.range_succ, List.map_append]; rfl
      have HE1 := Lib.hid (HE0.out.on hbw)
      obtain ⟨z, hz⟩ : ∃ z, z = (a.getD k 0).toNat := ⟨_, rfl⟩
      rw [← hz] at c1 hx HDL HNX
      have HI := Lib.hid (pItoa z (by omega) wr HE1.out)
      have HLS : Hid (((List.range k).map (fun i => Lib.decDigits (a.getD i 0).toNat)).length ≤ 1000) := by show _ ≤ _; simp; omega
      generalize (List.range k).map (fun i => Lib.decDigits (a.getD i 0).toNat) = ls at hown HOW HNX HLS
      obtain ⟨oa, oc, rfl, hoc⟩ := hown.form
      clear hown hbw hz
      go_wp2_with (first | (go_at_call 56; refine HI.out.mono ?_; rintro e w2 ⟨rfl, b2⟩; refine Hid.out ?_) | fail)
      refine Lib.hid ?_
      have HO2 := Lib.hid (HOW.out.on b2)
      have HB2 := Lib.hid (HBW.out.trans (b2.mono HBW.out.size))
      clear b2
      go_wp2_with (at_builtin; go_must (refine wp_append_s rfl _ _ rfl w0.heap.size (.slice oa ls.length oc) ls (Lib.decDigits z) rfl rfl HO2.out HLS.out HB2.out.size ?_); intro v3 w3 o3 b3; refine Hid.out ?_)
      refine Lib.hid ?_
      have HFIN : Hid (R v3 (.int .i64 ((k : Int) + 1)) w3) := by
        show R _ _ _
        rw [HR.out]
        exact ⟨k + 1, by omega, by simp, by rw [HNX.out]; exact o3, HB2.out.trans b3⟩
      clear o3 b3
      go_wp2
      go_roundw
      case rel => exact HFIN.out
      case measure => simp [intOf]; omega
    · obtain rfl : k = 4 := by omega
      have i1 : ¬ ((4 : Nat) : Int) < 4 := by omega
      have hjl : (Lib.join ((List.range 4).map fun i => Lib.decDigits (a.getD i 0).toNat) [46]).length ≤ 100000 := by rw [four_join]; have := fourA_len a 4; omega
      have HJ := Lib.hid (pJoin w0.heap.size _ _ 46 wr hown (by simp) hjl)
      rw [four_join] at HJ
      have HBF : Hid (Below w.heap.size w wr) := HB0.out.trans (hbw.mono HB0.out.size)
      clear hown hbw hjl HOW
      go_wp2_with (first | (go_at_call 57; refine HJ.out.mono ?_; rintro e w2 ⟨rfl, b2⟩; refine Hid.out ?_) | fail)
      refine Lib.hid ?_
      go_wp2
      go_ret
      exact ⟨rfl, HBF.out.trans (b2.mono HBF.out.size)⟩
end Go.Proofs.YtdmajikhpacpfaaDoor.Cidr
