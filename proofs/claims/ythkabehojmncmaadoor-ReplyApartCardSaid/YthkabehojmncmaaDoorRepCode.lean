/-
  REPLY: codes, classes, marks; the given answers' digits.
-/
import Derived.Test.YthkabehojmncmaaDoorRepP
namespace Go.Proofs.YthkabehojmncmaaDoor.Reply
open Go.RowKit Base
theorem code_lo {c : Int} (h : ¬ 200 ≤ c) : codeB c = false := by unfold codeB; exact decide_eq_false (fun x => h x.1)
theorem code_hi {c : Int} (h : ¬ c ≤ 599) : codeB c = false := by unfold codeB; exact decide_eq_false (fun x => h x.2.1)
theorem code_mid {n : Nat} (h1 : 200 ≤ n) (h2 : n ≤ 599) (h3 : n / 10 % 10 ≤ 5) : codeB (n : Int) = true := by unfold codeB; exact decide_eq_true (by omega)
theorem code_out {n : Nat} (h3 : ¬ n / 10 % 10 ≤ 5) : codeB (n : Int) = false := by unfold codeB; exact decide_eq_false (by omega)
set_option maxHeartbeats 1600000 in
set_option maxRecDepth 100000 in
theorem rCode (c : Int) (w : World) : Calls Tryd.prog 23 #[.int .i64 c] w (AskEnd (codeB c) w) := by
  obtain ⟨out, hout⟩ : ∃ out, out = codeB c := ⟨_, rfl⟩
  have HO := Lib.hid hout
  rw [← hout]
  clear hout
  by_cases h1 : 200 ≤ c
  · by_cases h2 : c ≤ 599
    · obtain ⟨n, rfl⟩ : ∃ n : Nat, c = n := ⟨c.toNat, by omega⟩
      have HP : Hid (200 ≤ n ∧ n ≤ 599) := ⟨by omega, by omega⟩
      by_cases h3 : n / 10 % 10 ≤ 5
      · have HT : Hid (out = true) := by show _ = _; rw [HO.out]; exact code_mid HP.out.1 HP.out.2 h3
        have h4 : (n : Int) / 10 % 10 ≤ 5 := by omega
        go_enter Tryd.func23, Tryd.ntmps23
        go_wp2
        go_ret
        exact ⟨ret_bool HT.out.symm, rfl⟩
      · have HT : Hid (out = false) := by show _ = _; rw [HO.out]; exact code_out h3
        have h4 : ¬ (n : Int) / 10 % 10 ≤ 5 := by omega
        go_enter Tryd.func23, Tryd.ntmps23
        go_wp2
        go_ret
        exact ⟨ret_bool HT.out.symm, rfl⟩
    · have HT : Hid (out = false) := by show _ = _; rw [HO.out]; exact code_hi h2
      go_enter Tryd.func23, Tryd.ntmps23
      go_wp2
      go_ret
      exact ⟨ret_bool HT.out.symm, rfl⟩
  · have HT : Hid (out = false) := by show _ = _; rw [HO.out]; exact code_lo h1
    go_enter Tryd.func23, Tryd.ntmps23
    go_wp2
    go_ret
    exact ⟨ret_bool HT.out.symm, rfl⟩
set_option maxHeartbeats 1600000 in
set_option maxRecDepth 100000 in
theorem pCode (c : Int) (w : World) : Calls Tryd.prog 21 #[.int .i64 c] w (AskEnd (codeB c) w) := by
  obtain ⟨out, hout⟩ : ∃ out, out = codeB c := ⟨_, rfl⟩
  have HO := Lib.hid hout
  rw [← hout]
  clear hout
  by_cases h1 : 200 ≤ c
  · by_cases h2 : c ≤ 599
    · obtain ⟨n, rfl⟩ : ∃ n : Nat, c = n := ⟨c.toNat, by omega⟩
      have HP : Hid (200 ≤ n ∧ n ≤ 599) := ⟨by omega, by omega⟩
      by_cases h3 : n / 10 % 10 ≤ 5
      · have HT : Hid (out = true) := by show _ = _; rw [HO.out]; exact code_mid HP.out.1 HP.out.2 h3
        have h4 : (n : Int) / 10 % 10 ≤ 5 := by omega
        go_enter Tryd.func21, Tryd.ntmps21
        go_wp2
        go_ret
        exact ⟨ret_bool HT.out.symm, rfl⟩
      · have HT : Hid (out = false) := by show _ = _; rw [HO.out]; exact code_out h3
        have h4 : ¬ (n : Int) / 10 % 10 ≤ 5 := by omega
        go_enter Tryd.func21, Tryd.ntmps21
        go_wp2
        go_ret
        exact ⟨ret_bool HT.out.symm, rfl⟩
    · have HT : Hid (out = false) := by show _ = _; rw [HO.out]; exact code_hi h2
      go_enter Tryd.func21, Tryd.ntmps21
      go_wp2
      go_ret
      exact ⟨ret_bool HT.out.symm, rfl⟩
  · have HT : Hid (out = false) := by show _ = _; rw [HO.out]; exact code_lo h1
    go_enter Tryd.func21, Tryd.ntmps21
    go_wp2
    go_ret
    exact ⟨ret_bool HT.out.symm, rfl⟩
/-- The first digit. -/
def classB (c : Int) : Int := if codeB c = true then c / 100 else 0
set_option maxHeartbeats 1600000 in
set_option maxRecDepth 100000 in
theorem rClass (c : Int) (w : World) : Calls Tryd.prog 18 #[.int .i64 c] w fun e w' => e = .returned (.int .i64 (classB c)) ∧ w = w' := by
  have HC := Lib.hid (rCode c w)
  have hr := @codeB_rng c
  cases hcd : codeB c with
  | true =>
    have HE : Hid (classB c = c / 100) := by show _ = _; unfold classB; rw [if_pos hcd]
    obtain ⟨h1, h2⟩ := hr hcd
    rw [hcd] at HC
    clear hr hcd
    obtain ⟨n, rfl⟩ : ∃ n : Nat, c = n := ⟨c.toNat, by omega⟩
    rw [HE.out]
    clear HE
    go_enter Tryd.func18, Tryd.ntmps18
    go_wp2_with (first | (go_at_call 23; refine HC.out.mono ?_; rintro ee w1 ⟨rfl, rfl⟩; refine Hid.out ?_) | fail)
    refine Lib.hid ?_
    go_wp2
    go_ret
    first | exact ⟨rfl, rfl⟩ | exact ⟨by go_num, rfl⟩
  | false =>
    have HE : Hid (classB c = 0) := by show _ = _; unfold classB; rw [if_neg (by rw [hcd]; decide)]
    rw [hcd] at HC
    clear hr hcd
    rw [HE.out]
    go_enter Tryd.func18, Tryd.ntmps18
    go_wp2_with (first | (go_at_call 23; refine HC.out.mono ?_; rintro ee w1 ⟨rfl, rfl⟩; refine Hid.out ?_) | fail)
    refine Lib.hid ?_
    go_wp2
    go_ret
    exact ⟨rfl, rfl⟩
set_option maxHeartbeats 1600000 in
set_option maxRecDepth 100000 in
theorem pClass (c : Int) (w : World) : Calls Tryd.prog 17 #[.int .i64 c] w fun e w' => e = .returned (.int .i64 (classB c)) ∧ w = w' := by
  have HC := Lib.hid (pCode c w)
  have hr := @codeB_rng c
  cases hcd : codeB c with
  | true =>
    have HE : Hid (classB c = c / 100) := by show _ = _; unfold classB; rw [if_pos hcd]
    obtain ⟨h1, h2⟩ := hr hcd
    rw [hcd] at HC
    clear hr hcd
    obtain ⟨n, rfl⟩ : ∃ n : Nat, c = n := ⟨c.toNat, by omega⟩
    rw [HE.out]
    clear HE
    go_enter Tryd.func17, Tryd.ntmps17
    go_wp2_with (first | (go_at_call 21; refine HC.out.mono ?_; rintro ee w1 ⟨rfl, rfl⟩; refine Hid.out ?_) | fail)
    refine Lib.hid ?_
    go_wp2
    go_ret
    first | exact ⟨rfl, rfl⟩ | exact ⟨by go_num, rfl⟩
  | false =>
    have HE : Hid (classB c = 0) := by show _ = _; unfold classB; rw [if_neg (by rw [hcd]; decide)]
    rw [hcd] at HC
    clear hr hcd
    rw [HE.out]
    go_enter Tryd.func17, Tryd.ntmps17
    go_wp2_with (first | (go_at_call 21; refine HC.out.mono ?_; rintro ee w1 ⟨rfl, rfl⟩; refine Hid.out ?_) | fail)
    refine Lib.hid ?_
    go_wp2
    go_ret
    exact ⟨rfl, rfl⟩
set_option maxHeartbeats 1600000 in
set_option maxRecDepth 100000 in
theorem pMark (i n c : Nat) (A : Option Addr) (w : World) (hn : n ≤ 9223372036854775807) : Calls Tryd.prog 26 #[.int .i64 (i : Int), .slice A n c] w fun e w' => e = .returned (.int .u8 ((markB (decide (i + 1 = n))).toNat : Int)) ∧ w = w' := by
  by_cases h : i + 1 = n
  · have h1 : (i : Int) = (n : Int) - 1 := by omega
    have HE : Hid (((markB (decide (i + 1 = n))).toNat : Int) = 32) := by show _ = _; rw [decide_eq_true h]; rfl
    rw [HE.out]
    have q : ((i : Int) == (n : Int) - 1) = true := by rw [beq_iff_eq]; exact h1
    clear h HE h1
    go_enter Tryd.func26, Tryd.ntmps26
    go_wp2
    go_ret
    exact ⟨rfl, rfl⟩
  · have HE : Hid (((markB (decide (i + 1 = n))).toNat : Int) = 45) := by show _ = _; rw [decide_eq_false h]; rfl
    rw [HE.out]
    have q : ((i : Int) == (n : Int) - 1) = false := by rw [beq_eq_false_iff_ne]; omega
    clear HE h
    go_enter Tryd.func26, Tryd.ntmps26
    go_wp2
    go_ret
    exact ⟨rfl, rfl⟩
end Go.Proofs.YthkabehojmncmaaDoor.Reply
