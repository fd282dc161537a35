/-
  CIDR, the given answers: a text cut at a byte.
-/
import Derived.Test.YtdmajikhpacpfaaDoorStrBase
import Derived.Deep.DeepMust
namespace Go.Proofs.YtdmajikhpacpfaaDoor.Cidr
open Go.RowKit Base
def SplitEnd (ls : List (List UInt8)) (w : World) (e : Ending) (w' : World) : Prop :=
  ∃ v, e = .returned v ∧ OwnsS w' w.heap.size v ls ∧ Below w.heap.size w w'
structure SplitR (s : ByteArray) (c : UInt8) (w : World) (o f i : Value) (k m : Nat) (dn : List (List UInt8)) (wr : World) : Prop where
  i : i = .int .i64 k
  f : f = .int .i64 m
  hk : k ≤ s.size
  hm : m ≤ k
  row : OwnsS wr w.heap.size o dn
  below : Below w.heap.size w wr
  eq : splitB c s.data.toList = dn ++ splitB c (s.data.toList.drop m)
  none : ∀ x ∈ (s.data.toList.take k).drop m, x ≠ c
  len : dn.length ≤ m
section
variable {s : ByteArray} {c : UInt8} {w wr w' : World} {o f i : Value} {k m : Nat} {dn : List (List UInt8)}
theorem split_cut (h : SplitR s c w o f i k m dn wr) (hlt : k < s.size) (hc : s[k] = c) : splitB c s.data.toList = (dn ++ [(s.data.toList.take k).drop m]) ++ splitB c (s.data.toList.drop (k + 1)) := by
  have hl : k < s.data.toList.length := by rw [str_len]; exact hlt
  have e : s.data.toList.drop m = (s.data.toList.take k).drop m ++ c :: s.data.toList.drop (k + 1) := by
    have e1 : s.data.toList[k] = c := by
      have := str_get s k hlt
      rw [List.getD_eq_getElem?_getD, List.getElem?_eq_getElem hl] at this
      simpa [hc] using this
    have e2 : s.data.toList = s.data.toList.take k ++ c :: s.data.toList.drop (k + 1) := by
      rw [← e1, List.getElem_cons_drop, List.take_append_drop]
    conv => lhs; rw [e2]
    rw [List.drop_append_of_le_length (by rw [List.length_take]; have := h.hm; omega)]
  rw [h.eq, e, splitB_at h.none, List.append_assoc]
  rfl
theorem split_more (h : SplitR s c w o f i k m dn wr) (hlt : k < s.size) (hc : s[k] ≠ c) : ∀ x ∈ (s.data.toList.take (k + 1)).drop m, x ≠ c := by
  have hl : k < s.data.toList.length := by rw [str_len]; exact hlt
  intro x hx
  rw [List.take_succ_eq_append_getElem hl, List.drop_append_of_le_length (by rw [List.length_take]; have := h.hm; omega), List.mem_append] at hx
  rcases hx with hx | hx
  · exact h.none x hx
  · have := str_get s k hlt
    rw [List.getD_eq_getElem?_getD, List.getElem?_eq_getElem hl] at this
    rw [List.mem_singleton] at hx
    rw [hx]
    simp at this
    rw [show s.data.toList[k] = s[k] by simpa using this]
    exact hc
theorem split_end (h : SplitR s c w o f i k m dn wr) (hge : ¬ k < s.size) : splitB c s.data.toList = dn ++ [s.data.toList.drop m] := by
  have h1 := h.none
  rw [List.take_of_length_le (by rw [str_len]; omega)] at h1
  rw [h.eq, splitB_none h1]
end
set_option maxHeartbeats 1000000 in
set_option maxRecDepth 100000 in
theorem rSplit (s : ByteArray) (c : UInt8) (w : World) (hs : s.size ≤ 4294967280) : Calls Tryd.prog 32 #[.string s, .int .u8 (c.toNat : Int)] w (SplitEnd (splitB c s.data.toList) w) := by
  obtain ⟨i0, hi0, hz0, hz1, hz2⟩ := info_parts info9
  obtain ⟨ls, hls⟩ : ∃ ls, ls = splitB c s.data.toList := ⟨_, rfl⟩
  have HLS := Lib.hid hls
  rw [← hls]
  clear hls
  go_enter Tryd.func32, Tryd.ntmps32
  go_wp2
  go_loopw [5, 6, 7] (fun o f i wr => ∃ k m dn, SplitR s c w o f i k m dn wr) (fun _ _ i _ => s.size - (intOf i).toNat)
  case atStart => exact ⟨0, 0, [], rfl, rfl, Nat.zero_le _, Nat.le_refl _, World.ownsRow_nil _ _ _ _, Below.refl _ _, rfl, (fun x hx => by simp at hx), Nat.le_refl _⟩
  case round =>
    obtain ⟨k, m, dn, h⟩ := hrel
    obtain ⟨rfl, rfl, hk, hm, hrow, hb, heq, hno, hlen⟩ := id h
    obtain ⟨oa, oc, rfl, hoc⟩ := hrow.form
    have H := Lib.hid h
    have HROW := Lib.hid hrow
    have HB := Lib.hid hb
    clear h hrow hb heq hno
    have LIM : Hid ((dn.length + [Value.string (s.extract m k)].length) * 16 ≤ 140737488355328) := by show _ ≤ _; simp only [List.length_singleton]; omega
    have LIMb : Hid (dn.length + [Value.string (s.extract m k)].length ≤ 9223372036854775807) := by show _ ≤ _; simp only [List.length_singleton]; omega
    by_cases hlt : k < s.size
    · by_cases hc : s[k] = c
      · have hcu : ((s[k].toNat : Int) == (c.toNat : Int)) = true := by rw [hc]; simp
        have HCUT := Lib.hid (split_cut H.out hlt hc)
        clear hc
        go_wp2_with (at_builtin; go_must (refine wpList_append_row _ rfl _ _ 52 rfl w.heap.size 9 i0 (.string ⟨#[]⟩) 16 Tryd.underlying52 hi0 hz0 hz1 hz2 rfl (.slice oa dn.length oc) _ dn.length (dn.map S) [.string (s.extract m k)] rfl rfl (World.ownsRow.alloc HROW.out _) (vreads_one _ _ _) (one_str _) LIM.out LIMb.out (by have := HB.out.size; simp; omega) ?_); intro v2 w2 o2 g2 a2; refine Hid.out ?_)
        refine Lib.hid ?_
        have b2 : Below w.heap.size w w2 := (HB.out.alloc HB.out.size _).grown g2 (by have := HB.out.size; simp; omega) (fun j hj => (HROW.out.lt j hj).1)
        have HO2 : Hid (OwnsS w2 w.heap.size v2 (dn ++ [(s.data.toList.take k).drop m])) := by
          have o3 := o2
          rw [extract_bytes] at o3
          unfold OwnsS
          rw [List.map_append, List.length_append]
          exact o3
        have B2 := Lib.hid b2
        clear o2 g2 a2 b2
        go_wp2
        go_roundw
        case rel => exact ⟨k + 1, k + 1, _, by go_num, by go_num, by omega, Nat.le_refl _, HO2.out, B2.out, HCUT.out, (fun x hx => by rw [List.drop_eq_nil_of_le (by rw [List.length_take]; omega)] at hx; cases hx), by simp; omega⟩
        case measure => simp [intOf]; omega
      · have hcu : ((s[k].toNat : Int) == (c.toNat : Int)) = false := by
          rw [beq_eq_false_iff_ne]
          intro h
          exact hc (UInt8.toNat_inj.1 (by omega))
        have HMORE := Lib.hid (split_more H.out hlt hc)
        clear hc
        go_wp2
        go_roundw
        case rel => exact ⟨k + 1, m, dn, by go_num, rfl, by omega, by omega, HROW.out, HB.out, H.out.eq, HMORE.out, hlen⟩
        case measure => simp [intOf]; omega
    · have HEND := Lib.hid (split_end H.out hlt)
      have hm2 : (m : Int) ≤ (s.size : Int) := by omega
      have hk2 : k = s.size := by omega
      have HROW2 := Lib.hid (World.ownsRow.alloc HROW.out (.cells #[.string (s.extract m s.size)] 9))
      subst hk2
      go_wp2_with (at_builtin; go_must (refine wpList_append_row _ rfl _ _ 52 rfl w.heap.size 9 i0 (.string ⟨#[]⟩) 16 Tryd.underlying52 hi0 hz0 hz1 hz2 rfl (.slice oa dn.length oc) _ dn.length (dn.map S) [.string (s.extract m s.size)] rfl rfl HROW2.out (vreads_one _ _ _) (one_str _) LIM.out LIMb.out (by have := HB.out.size; simp; omega) ?_); intro v2 w2 o2 g2 a2; refine Hid.out ?_)
      refine Lib.hid ?_
      have b2 : Below w.heap.size w w2 := (HB.out.alloc HB.out.size _).grown g2 (by have := HB.out.size; simp; omega) (fun j hj => (HROW.out.lt j hj).1)
      have HO2 : Hid (OwnsS w2 w.heap.size v2 ls) := by
        have o3 := o2
        rw [extract_bytes, List.take_of_length_le (by rw [str_len]; omega)] at o3
        rw [HLS.out, HEND.out]
        unfold OwnsS
        rw [List.map_append, List.length_append]
        exact o3
      have B2 := Lib.hid b2
      clear o2 g2 a2 b2
      go_wp2
      go_ret
      exact ⟨v2, rfl, HO2.out, B2.out⟩
end Go.Proofs.YtdmajikhpacpfaaDoor.Cidr
