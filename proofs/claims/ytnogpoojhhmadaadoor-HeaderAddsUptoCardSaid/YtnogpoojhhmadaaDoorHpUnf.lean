/-
  HEADER, the program: a body unfolded.
-/
import Derived.Test.YtnogpoojhhmadaaDoorHpUnfP
import Derived.Test.YtnogpoojhhmadaaDoorHpFind
import Derived.Lib.ReplaceLaws
import Derived.Shelf.Strings.SlTrimAscii
namespace Go.Proofs.YtnogpoojhhmadaaDoor.Header
open Go.RowKit Base
theorem pReplace (x : UInt8) (s : ByteArray) (w : World) (hs : s.size ≤ 4000000000) (he : Env w) : Calls Tryd.prog 37 #[.string s, .string ⟨#[13, 10, x]⟩, .string ⟨#[x]⟩] w fun e w' => e = .returned (S (repX x s.data.toList)) ∧ Below w.heap.size w w' := by
  obtain ⟨m, hm⟩ := he.max
  have hc := Lib.countB_mul_le ⟨#[13, 10, x]⟩ (by show 1 ≤ 3; omega) s.size s (Nat.le_refl _)
  have := Tryd.strings_ReplaceAll s ⟨#[13, 10, x]⟩ ⟨#[x]⟩ m w (by omega) hm (by show 1 ≤ 3; omega) (by
    have h3 : (⟨#[13, 10, x]⟩ : ByteArray).size = 3 := rfl
    have h1 : (⟨#[x]⟩ : ByteArray).size = 1 := rfl
    rw [h3] at hc
    rw [h1]
    omega)
  rw [show ((⟨#[13, 10, x]⟩ : ByteArray).data.toList) = [13, 10, x] from rfl, show ((⟨#[x]⟩ : ByteArray).data.toList) = [x] from rfl, replace_is] at this
  exact this
theorem asc4 : ∀ (j : Nat) b, (⟨#[32, 9, 13, 10]⟩ : ByteArray).data.toList[j]? = some b → b.toNat < 128 := ascii_of_all (by decide)
theorem pTrim (s : ByteArray) (w : World) (hs : s.size ≤ 9223372036854775807) : Calls Tryd.prog 38 #[.string s, .string ⟨#[32, 9, 13, 10]⟩] w fun e w' => e = .returned (S (trimE s.data.toList)) ∧ Below w.heap.size w w' := by
  have := Any.strings_Trim_laid Tryd.lays160 (by kernel_rfl) s ⟨#[32, 9, 13, 10]⟩ w hs (by decide) asc4
  rw [show ((⟨#[32, 9, 13, 10]⟩ : ByteArray).data.toList) = [32, 9, 13, 10] from rfl, trim_is] at this
  exact this
theorem trimE_len (l : List UInt8) : (trimE l).length ≤ l.length := by
  unfold trimE
  rw [List.length_reverse]
  have h1 := (List.dropWhile_sublist edge (l := (l.dropWhile edge).reverse)).length_le
  have h2 := (List.dropWhile_sublist edge (l := l)).length_le
  rw [List.length_reverse] at h1
  omega
set_option maxHeartbeats 4000000 in
set_option maxRecDepth 100000 in
theorem pUnfold (s : ByteArray) (w : World) (hs : s.size ≤ 4000000000) (he : Env w) : Calls Tryd.prog 19 #[.string s] w fun e w' => e = .returned (S (unfoldOf s.data.toList)) ∧ Below w.heap.size w w' := by
  obtain ⟨r1, hr1⟩ : ∃ r : ByteArray, r = ⟨(repX 32 s.data.toList).toArray⟩ := ⟨_, rfl⟩
  obtain ⟨r2, hr2⟩ : ∃ r : ByteArray, r = ⟨(repX 9 r1.data.toList).toArray⟩ := ⟨_, rfl⟩
  obtain ⟨r3, hr3⟩ : ∃ r : ByteArray, r = ⟨(trimE r2.data.toList).toArray⟩ := ⟨_, rfl⟩
  have z0 := repX_len 32 s.data.toList.length s.data.toList (Nat.le_refl _)
  have z1 : r1.size ≤ 4000000000 := by rw [hr1]; show (repX 32 s.data.toList).toArray.size ≤ _; rw [List.size_toArray]; rw [str_len] at z0; omega
  have z2' := repX_len 9 r1.data.toList.length r1.data.toList (Nat.le_refl _)
  have z2 : r2.size ≤ 4000000000 := by rw [hr2]; show (repX 9 r1.data.toList).toArray.size ≤ _; rw [List.size_toArray]; rw [str_len] at z2'; omega
  have z3' := trimE_len r2.data.toList
  have z3 : r3.size ≤ 4000000000 := by rw [hr3]; show (trimE r2.data.toList).toArray.size ≤ _; rw [List.size_toArray]; rw [str_len] at z3'; omega
  have HC1 : Hid (∀ w1, Env w1 → Calls Tryd.prog 37 #[.string s, .string ⟨#[13, 10, 32]⟩, .string ⟨#[32]⟩] w1 fun e w' => e = .returned (.string r1) ∧ Below w1.heap.size w1 w') := fun w1 h => by rw [hr1]; exact pReplace 32 s w1 hs h
  have HC2 : Hid (∀ w1, Env w1 → Calls Tryd.prog 37 #[.string r1, .string ⟨#[13, 10, 9]⟩, .string ⟨#[9]⟩] w1 fun e w' => e = .returned (.string r2) ∧ Below w1.heap.size w1 w') := fun w1 h => by rw [hr2]; exact pReplace 9 r1 w1 z1 h
  have HC3 : Hid (∀ w1, Calls Tryd.prog 38 #[.string r2, .string ⟨#[32, 9, 13, 10]⟩] w1 fun e w' => e = .returned (.string r3) ∧ Below w1.heap.size w1 w') := fun w1 => by rw [hr3]; exact pTrim r2 w1 (by omega)
  have HC4 : Hid (∀ w1, Calls Tryd.prog 29 #[.string r3] w1 fun e w' => e = .returned (.string r3) ∧ Below w1.heap.size w1 w') := fun w1 => pClone r3 w1 (by omega)
  have HE : Hid (S (unfoldOf s.data.toList) = .string r3) := by
    show _ = _
    rw [hr3, hr2, hr1]
    show S (unfoldOf s.data.toList) = S (trimE (repX 9 (repX 32 s.data.toList)))
    rw [rep_drop s.data.toList.length _ (Nat.le_refl _)]
    rfl
  have HV := Lib.hid he
  clear z0 z1 z2 z2' z3 z3' hr1 hr2 hr3 he
  go_enter Tryd.func19, Tryd.ntmps19
  go_wp2_with (first | (go_at_call 37; refine (HC1.out _ HV.out).mono ?_; rintro e w1 ⟨rfl, hb1⟩; refine Hid.out ?_) | fail)
  refine Lib.hid ?_
  have HV1 := Lib.hid (HV.out.on hb1)
  have HB1 := Lib.hid hb1
  clear hb1
  go_wp2_with (first | (go_at_call 37; refine (HC2.out _ HV1.out).mono ?_; rintro e w2 ⟨rfl, hb2⟩; refine Hid.out ?_) | fail)
  refine Lib.hid ?_
  have HB2 := Lib.hid (HB1.out.trans (hb2.mono HB1.out.size))
  clear hb2
  go_wp2_with (first | (go_at_call 38; refine (HC3.out _).mono ?_; rintro e w3 ⟨rfl, hb3⟩; refine Hid.out ?_) | fail)
  refine Lib.hid ?_
  have HB3 := Lib.hid (HB2.out.trans (hb3.mono HB2.out.size))
  clear hb3
  go_wp2_with (first | (go_at_call 29; refine (HC4.out _).mono ?_; rintro e w4 ⟨rfl, hb4⟩; refine Hid.out ?_) | fail)
  refine Lib.hid ?_
  have HB4 := Lib.hid (HB3.out.trans (hb4.mono HB3.out.size))
  clear hb4
  go_wp2
  go_ret
  exact ⟨by rw [HE.out]; rfl, HB4.out⟩
end Go.Proofs.YtnogpoojhhmadaaDoor.Header
