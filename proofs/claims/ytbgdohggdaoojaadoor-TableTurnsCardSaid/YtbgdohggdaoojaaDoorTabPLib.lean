/-
  TABLE, the program: blanks cut off, lines passed over, bytes that may not be.
-/
import Derived.Test.YtbgdohggdaoojaaDoorTabParM
namespace Go.Proofs.YtbgdohggdaoojaaDoor.Table
open Go.RowKit Base
theorem bl_iff (c : UInt8) : ([32, 9] : List UInt8).contains c = isBl c := by
  unfold isBl
  rw [Bool.eq_iff_iff]
  simp only [List.contains_cons, List.contains_nil, Bool.or_false, Bool.or_eq_true, beq_iff_eq, decide_eq_true_eq]
  constructor
  · rintro (h | h) <;> rw [h] <;> decide
  · rintro (h | h)
    · exact Or.inl (UInt8.toNat_inj.1 h)
    · exact Or.inr (UInt8.toNat_inj.1 h)
theorem left_set (l : List UInt8) : Lib.trimLeftS l [32, 9] = trimL l := by
  unfold Lib.trimLeftS trimL
  congr 1; funext c; exact bl_iff c
theorem right_set (l : List UInt8) : Lib.trimRightS l [32, 9] = trimR l := by
  unfold Lib.trimRightS trimR
  congr 2; funext c; exact bl_iff c
theorem trimL_snoc (m : List UInt8) (c : UInt8) : trimL (m ++ [c]) = if trimL m = [] then trimL [c] else trimL m ++ [c] := by
  unfold trimL
  rw [List.dropWhile_append]
  simp only [List.isEmpty_iff]
theorem trimR_blank : ∀ (n : Nat) (m : List UInt8), m.length = n → trimL m = [] → trimR m = []
  | 0, m, h, _ => by rw [List.eq_nil_of_length_eq_zero h]; rfl
  | n + 1, m, h, h0 => by
    have hne : m ≠ [] := fun e => by rw [e] at h; simp at h
    obtain ⟨q, c, rfl⟩ : ∃ q c, m = q ++ [c] := ⟨m.dropLast, m.getLast hne, (List.dropLast_concat_getLast hne).symm⟩
    rw [trimL_snoc] at h0
    have hq : trimL q = [] := by
      by_cases e : trimL q = []
      · exact e
      · rw [if_neg e] at h0; simp at h0
    rw [if_pos hq] at h0
    have hc : isBl c = true := by
      cases hb : isBl c
      · rw [trimL_cons_no hb] at h0; simp at h0
      · rfl
    rw [trimR_snoc_yes hc]
    exact trimR_blank n q (by simpa using h) hq
theorem trim_comm : ∀ (n : Nat) (l : List UInt8), l.length = n → trimL (trimR l) = trimR (trimL l)
  | 0, l, h => by rw [List.eq_nil_of_length_eq_zero h]; rfl
  | n + 1, l, h => by
    have hne : l ≠ [] := fun e => by rw [e] at h; simp at h
    obtain ⟨q, c, rfl⟩ : ∃ q c, l = q ++ [c] := ⟨l.dropLast, l.getLast hne, (List.dropLast_concat_getLast hne).symm⟩
    have ih := trim_comm n q (by simpa using h)
    cases hb : isBl c
    · rw [trimR_snoc_no hb, trimL_snoc]
      split
      · rw [trimL_cons_no hb]
        have := trimR_snoc_no (l := []) hb
        simpa using this.symm
      · rw [trimR_snoc_no hb]
    · rw [trimR_snoc_yes hb, trimL_snoc]
      split
      · rename_i hq
        rw [trimR_blank _ q rfl hq, trimL_cons_yes hb]; rfl
      · rw [trimR_snoc_yes hb, ih]
theorem trim_set (l : List UInt8) : Lib.trimS l [32, 9] = trim l := by
  unfold Lib.trimS trim
  rw [right_set, left_set, trim_comm _ l rfl]
theorem trimL_head (l : List UInt8) : trimL l = [] ∨ ∃ c r, trimL l = c :: r ∧ isBl c = false := by
  cases h : trimL l with
  | nil => exact Or.inl rfl
  | cons c r => exact Or.inr ⟨c, r, rfl, dw_head l h⟩
theorem trimR_head {c : UInt8} (hb : isBl c = false) : ∀ (n : Nat) (r : List UInt8), r.length = n → ∃ q, trimR (c :: r) = c :: q
  | 0, r, h => ⟨[], by
    rw [List.eq_nil_of_length_eq_zero h]
    have := trimR_snoc_no (l := []) hb
    simpa using this⟩
  | n + 1, r, h => by
    have hne : r ≠ [] := fun e => by rw [e] at h; simp at h
    obtain ⟨q, d, rfl⟩ : ∃ q d, r = q ++ [d] := ⟨r.dropLast, r.getLast hne, (List.dropLast_concat_getLast hne).symm⟩
    rw [← List.cons_append]
    cases hd : isBl d
    · rw [trimR_snoc_no hd]; exact ⟨_, rfl⟩
    · rw [trimR_snoc_yes hd]; exact trimR_head hb n q (by simpa using h)
/-- A line that is passed over: as the program asks. -/
def passB (line : List UInt8) : Bool := decide (trimL line = []) || headIs isHash (trimL line)
theorem pass_skip (line : List UInt8) : passB line = skipB line := by
  unfold passB skipB trim
  rcases trimL_head line with h | ⟨c, r, h, hb⟩
  · rw [h]; rfl
  · obtain ⟨q, hq⟩ := trimR_head hb _ r rfl
    rw [h, hq]; rfl
theorem asc : ∀ (j : Nat) b, (⟨#[32, 9]⟩ : ByteArray).data.toList[j]? = some b → b.toNat < 128 := fun j b h => by
  match j with
  | 0 => simp at h; subst h; decide
  | 1 => simp at h; subst h; decide
  | j + 2 => simp at h
theorem pTrim (s : ByteArray) (w : World) (hs : s.size ≤ 9223372036854775807) : Calls Tryd.prog 52 #[.string s, .string ⟨#[32, 9]⟩] w fun e w' => e = .returned (S (trim s.data.toList)) ∧ Below w.heap.size w w' := by
  have := Any.strings_Trim_laid Tryd.lays160 (by kernel_rfl) s ⟨#[32, 9]⟩ w hs (by decide) asc
  rw [show (⟨#[32, 9]⟩ : ByteArray).data.toList = [32, 9] from rfl, trim_set] at this
  exact this
theorem pTrimL (s : ByteArray) (w : World) : Calls Tryd.prog 49 #[.string s, .string ⟨#[32, 9]⟩] w fun e w' => e = .returned (S (trimL s.data.toList)) ∧ Below w.heap.size w w' := by
  have := Any.strings_TrimLeft_laid Tryd.lays161 (by kernel_rfl) s ⟨#[32, 9]⟩ w (by decide) asc
  rw [show (⟨#[32, 9]⟩ : ByteArray).data.toList = [32, 9] from rfl, left_set] at this
  exact this
theorem pBlank (c : UInt8) (w : World) : Calls Tryd.prog 28 #[.int .u8 (c.toNat : Int)] w fun e w' => e = .returned (.bool (isBl c)) ∧ w = w' := by
  by_cases h1 : c.toNat = 32
  · have e1 : ((c.toNat : Int) == 32) = true := by rw [h1]; rfl
    have HE : Hid (isBl c = true) := by show _ = _; simp [isBl, h1]
    clear h1
    go_enter Tryd.func28, Tryd.ntmps28
    go_wp2
    go_ret
    exact ⟨by rw [HE.out]; rfl, rfl⟩
  · have e1 : ((c.toNat : Int) == 32) = false := by rw [beq_eq_false_iff_ne]; omega
    by_cases h2 : c.toNat = 9
    · have e2 : ((c.toNat : Int) == 9) = true := by rw [h2]; rfl
      have HE : Hid (isBl c = true) := by show _ = _; simp [isBl, h2]
      clear h1 h2
      go_enter Tryd.func28, Tryd.ntmps28
      go_wp2
      go_ret
      exact ⟨by rw [HE.out]; rfl, rfl⟩
    · have e2 : ((c.toNat : Int) == 9) = false := by rw [beq_eq_false_iff_ne]; omega
      have HE : Hid (isBl c = false) := by show _ = _; simp [isBl, h1, h2]
      clear h1 h2
      go_enter Tryd.func28, Tryd.ntmps28
      go_wp2
      go_ret
      exact ⟨by rw [HE.out]; rfl, rfl⟩
def BoolEnd (b : Bool) (w : World) (e : Ending) (w' : World) : Prop := e = .returned (.bool b) ∧ Below w.heap.size w w'
set_option maxHeartbeats 1000000 in
theorem pPassed (s : ByteArray) (w : World) : Calls Tryd.prog 27 #[.string s] w (BoolEnd (skipB s.data.toList) w) := by
  rw [← pass_skip]
  have HT := pTrimL s w
  obtain ⟨inn, hinn⟩ : ∃ inn : ByteArray, inn.data.toList = trimL s.data.toList := ⟨⟨(trimL s.data.toList).toArray⟩, rfl⟩
  have HTH : Hid (Calls Tryd.prog 49 #[.string s, .string ⟨#[32, 9]⟩] w fun e w' => e = .returned (.string inn) ∧ Below w.heap.size w w') := by
    rw [← hinn] at HT; exact HT
  have HP : passB s.data.toList = (decide (inn.data.toList = []) || headIs isHash inn.data.toList) := by unfold passB; rw [hinn]
  clear HT hinn
  by_cases hi : inn.size = 0
  · have e4 : inn.toList = [] := (toList_nil_iff_emptyBytes inn).2 (str_empty hi)
    have e3 : inn.toList.isEmpty = true := by rw [e4]; rfl
    have HR := Lib.hid (show passB s.data.toList = true by rw [HP, List.eq_nil_of_length_eq_zero (l := inn.data.toList) (by rw [str_len]; exact hi)]; rfl)
    clear hi HP
    go_enter Tryd.func27, Tryd.ntmps27
    go_wp2_with (first | (go_at_call 49; (with_reducible refine HTH.out.mono ?_); rintro e w1 ⟨rfl, hb1⟩; refine Hid.out ?_) | fail)
    refine Lib.hid ?_
    have HB := Lib.hid hb1
    clear hb1
    go_wp2
    go_ret
    exact ⟨by rw [HR.out]; rfl, HB.out⟩
  · obtain ⟨e3, e4⟩ := str_ne hi
    have hi0 : 0 < inn.size := by omega
    have n0 : (0 : Int) < (inn.size : Int) := by omega
    have hne : ¬ inn.data.toList = [] := fun e => by have := str_len inn; rw [e] at this; simp at this; omega
    rw [head_at isHash inn hi0, decide_eq_false hne] at HP
    by_cases h35 : inn[0].toNat = 35
    · have e5 : ((inn[0].toNat : Int) == 35) = true := by rw [h35]; rfl
      have HR := Lib.hid (show passB s.data.toList = true by rw [HP]; simp [isHash, h35])
      clear hi h35 HP hne
      go_enter Tryd.func27, Tryd.ntmps27
      go_wp2_with (first | (go_at_call 49; (with_reducible refine HTH.out.mono ?_); rintro e w1 ⟨rfl, hb1⟩; refine Hid.out ?_) | fail)
      refine Lib.hid ?_
      have HB := Lib.hid hb1
      clear hb1
      go_wp2
      go_ret
      exact ⟨by rw [HR.out]; rfl, HB.out⟩
    · have e5 : ((inn[0].toNat : Int) == 35) = false := by rw [beq_eq_false_iff_ne]; omega
      have HR := Lib.hid (show passB s.data.toList = false by rw [HP]; simp [isHash, h35])
      clear hi h35 HP hne
      go_enter Tryd.func27, Tryd.ntmps27
      go_wp2_with (first | (go_at_call 49; (with_reducible refine HTH.out.mono ?_); rintro e w1 ⟨rfl, hb1⟩; refine Hid.out ?_) | fail)
      refine Lib.hid ?_
      have HB := Lib.hid hb1
      clear hb1
      go_wp2
      go_ret
      exact ⟨by rw [HR.out]; rfl, HB.out⟩
end Go.Proofs.YtbgdohggdaoojaaDoor.Table
