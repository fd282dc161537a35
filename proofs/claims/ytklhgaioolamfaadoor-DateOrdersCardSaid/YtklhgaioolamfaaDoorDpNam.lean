/-
  DATE, the program: a day's name.
-/
import Derived.Test.YtklhgaioolamfaaDoorDpNxt
namespace Go.Proofs.YtklhgaioolamfaaDoor.Date
open Go.RowKit Base
theorem suffix_comma (w : List UInt8) : Lib.hasSuffix w [44] = commaD w := by
  unfold Lib.hasSuffix commaD
  rw [Bool.eq_iff_iff, List.isSuffixOf_iff_suffix, decide_eq_true_eq]
  constructor
  · rintro ⟨t, rfl⟩
    refine ⟨by simp, ?_⟩
    rw [List.length_append, List.getD_eq_getElem?_getD, List.getElem?_append_right (by simp)]
    simp
  · rintro ⟨h0, h1⟩
    refine ⟨w.take (w.length - 1), ?_⟩
    have hp : 0 < w.length := List.length_pos_iff.2 h0
    have hg : w[w.length - 1]'(by omega) = 44 := by
      rw [List.getD_eq_getElem?_getD, List.getElem?_eq_getElem (by omega)] at h1
      exact h1
    have := List.drop_eq_getElem_cons (l := w) (i := w.length - 1) (by omega)
    rw [hg, show w.length - 1 + 1 = w.length by omega, List.drop_length] at this
    rw [← this, List.take_append_drop]
/-- A name's comma cut off. -/
def CutEnd (l : List UInt8) (w : World) (e : Ending) (w' : World) : Prop :=
  (if commaD (headW l) = true then ∃ r : List UInt8, e = .returned (.tuple #[S (headW l), S r]) ∧ wordsD r = (wordsD l).tail ∧ r.length ≤ l.length else e = .returned (.tuple #[S [], S l])) ∧ Below w.heap.size w w'
set_option maxHeartbeats 4000000 in
set_option maxRecDepth 100000 in
theorem pCutName (l : List UInt8) (w : World) (hv : Vars w) (hl : l.length ≤ 1000000000) : Calls Tryd.prog 33 #[S l] w (CutEnd l w) := by
  have HN := Lib.hid (pNext l w hv hl)
  obtain ⟨x, hxe⟩ : ∃ x, x = headW l := ⟨_, rfl⟩
  have hx : x.length ≤ l.length := by rw [hxe]; exact headW_le l
  have HS : Hid (∀ w1, Calls Tryd.prog 48 #[S x, .string ⟨#[44]⟩] w1 fun e w' => e = .returned (.bool (commaD x)) ∧ w' = w1) := fun w1 => by
    have := Tryd.strings_HasSuffix ⟨x.toArray⟩ ⟨#[44]⟩ w1 (by rw [← str_len]; show x.length ≤ _; omega)
    rw [show ((⟨x.toArray⟩ : ByteArray).data.toList) = x from rfl, show ((⟨#[44]⟩ : ByteArray).data.toList) = [44] from rfl, suffix_comma] at this
    exact this
  have HXE := Lib.hid hxe
  cases hc : commaD x
  · rw [hc] at HS
    have HE : Hid (∀ w', Below w.heap.size w w' → CutEnd l w (.returned (.tuple #[S [], S l])) w') := fun w' hb => ⟨by rw [if_neg (by rw [← HXE.out, hc]; decide)], hb⟩
    clear hc hx hxe
    go_enter Tryd.func33, Tryd.ntmps33
    go_wp2_with (first | (go_at_call 34; refine HN.out.mono ?_; rintro ee w1 ⟨r, rfl, h1, h2, h3⟩; refine Hid.out ?_) | fail)
    refine Lib.hid ?_
    have HB1 := Lib.hid h3
    rw [← HXE.out]
    clear h1 h2 h3
    go_wp2_with (first | (go_at_call 48; refine (HS.out _).mono ?_; rintro ee w2 ⟨rfl, rfl⟩; refine Hid.out ?_) | fail)
    refine Lib.hid ?_
    go_wp2
    go_ret2
    exact HE.out _ HB1.out
  · rw [hc] at HS
    have HE : Hid (∀ r w', wordsD r = (wordsD l).tail → r.length ≤ l.length → Below w.heap.size w w' → CutEnd l w (.returned (.tuple #[S x, S r])) w') := fun r w' h1 h2 hb => ⟨by rw [if_pos (by rw [← HXE.out, hc])]; exact ⟨r, by rw [HXE.out], h1, h2⟩, hb⟩
    clear hc hx hxe
    go_enter Tryd.func33, Tryd.ntmps33
    go_wp2_with (first | (go_at_call 34; refine HN.out.mono ?_; rintro ee w1 ⟨r, rfl, h1, h2, h3⟩; refine Hid.out ?_) | fail)
    refine Lib.hid ?_
    have HB1 := Lib.hid h3
    have HR1 := Lib.hid h1
    have HR2 := Lib.hid h2
    rw [← HXE.out]
    clear h1 h2 h3
    go_wp2_with (first | (go_at_call 48; refine (HS.out _).mono ?_; rintro ee w2 ⟨rfl, rfl⟩; refine Hid.out ?_) | fail)
    refine Lib.hid ?_
    go_wp2
    go_ret2
    exact HE.out r _ HR1.out HR2.out HB1.out
set_option maxHeartbeats 4000000 in
set_option maxRecDepth 100000 in
theorem pNames (nm : List UInt8) (day : Int) (w : World) (hv : Vars w) (hl : nm.length ≤ 1000000000) (h1 : -2000000 ≤ day) (h2 : day ≤ 20000000) : Calls Tryd.prog 38 #[S nm, .int .i64 day] w fun e w' => e = .returned (.bool (nameQ nm day)) ∧ Below w.heap.size w w' := by
  obtain ⟨Q, hQ⟩ : ∃ Q, Q = nameQ nm day := ⟨_, rfl⟩
  have HQ : Hid (Q = (decide (nm = []) || decide (lowL nm = lowL (nmAt dayB (weekZ day).toNat) ++ [44]))) := hQ
  rw [← hQ]
  obtain ⟨k, hk⟩ : ∃ k : Nat, weekZ day = (k : Int) := ⟨(weekZ day).toNat, by have := week_in day; omega⟩
  have hk7 : k < 7 := by have := week_in day; omega
  rw [hk, Int.toNat_natCast] at HQ
  have HW : Hid (∀ w1, Calls Tryd.prog 22 #[.int .i64 day] w1 fun e w' => e = .returned (.int .i64 (k : Int)) ∧ w1 = w') := fun w1 => by rw [← hk]; exact pWeek day w1 (by omega) (by omega)
  have HL1 : Hid (∀ w1, Calls Tryd.prog 54 #[S nm] w1 fun e w' => e = .returned (S (lowL nm)) ∧ Below w1.heap.size w1 w') := fun w1 => pLower ⟨nm.toArray⟩ w1 (by rw [← str_len]; show nm.length ≤ _; omega)
  have HL2 : Hid (∀ w1, Calls Tryd.prog 54 #[S (nmAt dayB k)] w1 fun e w' => e = .returned (S (lowL (nmAt dayB k))) ∧ Below w1.heap.size w1 w') := fun w1 => pLower ⟨(nmAt dayB k).toArray⟩ w1 (by
    have hz : ∀ k < 7, (nmAt dayB k).length = 3 := by decide
    rw [← str_len]; show (nmAt dayB k).length ≤ _; rw [hz k hk7]; decide)
  have HD : Hid (∀ w1, Vars w1 → w1.cell? ⟨0, k, none⟩ = some (S (nmAt dayB k))) := fun w1 hx => hx.day k hk7
  have hz3 : (lowL (nmAt dayB k)).length = 3 := days_len k hk7
  have HV := Lib.hid hv
  have hlow := low_len nm
  have k0 : (0 : Int) ≤ (k : Int) := by omega
  have k1 : (k : Int) < 7 := by omega
  generalize lowL (nmAt dayB k) = LD at HL2 HQ hz3
  generalize nmAt dayB k = ND at HL2 HD
  obtain ⟨LN, hLN⟩ : ∃ LN, LN = lowL nm := ⟨_, rfl⟩
  rw [← hLN] at HL1 HQ hlow
  clear hQ hk hk7 hv hLN h1 h2
  cases h0 : (nm == [])
  · have hne : nm ≠ [] := fun e => by rw [e] at h0; revert h0; decide
    have HQ2 : Hid (Q = decide (LN = LD ++ [44])) := by show _ = _; rw [HQ.out, decide_eq_false hne]; rfl
    clear HQ hne
    go_enter Tryd.func38, Tryd.ntmps38
    go_wp2_with (first | (go_at_call 54; refine (HL1.out _).mono ?_; rintro ee w1 ⟨rfl, hb1⟩; refine Hid.out ?_) | fail)
    refine Lib.hid ?_
    have HB1 := Lib.hid hb1
    have hcl := HD.out w1 (HV.out.on hb1)
    clear hb1
    go_wp2_with (first | (go_at_call 22; refine (HW.out _).mono ?_; rintro ee w2 ⟨rfl, rfl⟩; refine Hid.out ?_) | fail)
    refine Lib.hid ?_
    go_wp2_with (first | (go_at_call 54; refine (HL2.out _).mono ?_; rintro ee w2 ⟨rfl, hb2⟩; refine Hid.out ?_) | fail)
    refine Lib.hid ?_
    have HB2 : Hid (Below w.heap.size w w2) := HB1.out.trans (hb2.mono HB1.out.size)
    clear hb2 hcl
    go_wp2
    go_ret
    refine ⟨ret_bool ?_, HB2.out⟩
    rw [HQ2.out, show ((⟨LD.toArray⟩ : ByteArray) ++ ⟨#[44]⟩).toList = LD ++ [44] by rw [ByteArray.toList_eq, ByteArray.data_append]; simp, Bool.eq_iff_iff, beq_iff_eq, decide_eq_true_eq]
  · have he : nm = [] := eq_of_beq h0
    have HQ2 : Hid (Q = true) := by show _ = _; rw [HQ.out, decide_eq_true he]; rfl
    clear HQ he
    go_enter Tryd.func38, Tryd.ntmps38
    go_wp2
    go_ret
    rw [HQ2.out]
    exact ⟨rfl, Below.refl _ _⟩
end Go.Proofs.YtklhgaioolamfaaDoor.Date
