/-
  HEADER, the program: how many bytes a field's name has.
-/
import Derived.Test.YtnogpoojhhmadaaDoorHpPlain
import Derived.Test.YtnogpoojhhmadaaDoorHpSame
namespace Go.Proofs.YtnogpoojhhmadaaDoor.Header
open Go.RowKit Base
set_option maxHeartbeats 4000000 in
set_option maxRecDepth 100000 in
theorem pNsz (A : Option Addr) (n c : Nat) (l : List UInt8) (w : World) (hr : Reads w (.slice A n c) l) (hn : n = l.length) (hl : l.length ≤ 140737488355328) :
    Calls Tryd.prog 40 #[.slice A n c] w fun e w' => e = .returned (.int .i64 (nsz l : Int)) ∧ w = w' := by
  have HR := Lib.hid hr
  subst hn
  clear hr
  have HP : Hid (∀ (c : UInt8) (w1 : World), Calls Tryd.prog 48 #[.int .u8 (c.toNat : Int)] w1 fun e w' => e = .returned (.bool (nameC c)) ∧ w1 = w') := fun c w1 => pOfName c w1
  go_enter Tryd.func40, Tryd.ntmps40
  go_wp2
  go_loop [7] (fun i => ∃ j : Nat, j ≤ l.length ∧ i = .int .i64 (j : Int) ∧ Hid (∀ c ∈ l.take j, nameC c = true)) (fun i => l.length - (intOf i).toNat)
  case atStart => exact ⟨0, by omega, rfl, fun c hc => by simp at hc⟩
  case round =>
    obtain ⟨j, hj, rfl, HC⟩ := hrel
    have i0 : (0 : Int) ≤ (j : Int) := by omega
    by_cases hlt : j < l.length
    · obtain ⟨b, o, hA, _, hc, hcell⟩ := reads_cells HR.out (i := j) hlt
      subst hA
      have c0 := hcell j hlt
      have i1 : (j : Int) < (l.length : Int) := by omega
      have i2 : (j : Int) ≤ (c : Int) := by omega
      clear hcell
      by_cases h58 : (l.getD j 0).toNat = 58
      · have e1 : (((l.getD j 0).toNat : Int) == 58) = true := by rw [h58]; rfl
        have HE : Hid (nsz l = j) := nsz_at hlt HC.out h58
        clear h58 HC
        generalize (l.getD j 0).toNat = x at c0 e1
        go_wp2
        go_ret
        exact ⟨by rw [HE.out]; rfl, rfl⟩
      · have e1 : (((l.getD j 0).toNat : Int) == 58) = false := by rw [beq_eq_false_iff_ne]; omega
        have HP2 := Lib.hid (HP.out (l.getD j 0) w)
        cases hb : nameC (l.getD j 0)
        · have HE : Hid (nsz l = 0) := nsz_stop hlt HC.out hb h58
          rw [hb] at HP2
          clear h58 HC hb
          generalize (l.getD j 0).toNat = x at c0 e1 HP2
          go_wp2_with (first | (go_at_call 48; refine HP2.out.mono ?_; rintro e w' ⟨rfl, rfl⟩; refine Hid.out ?_) | fail)
          refine Lib.hid ?_
          go_wp2
          go_ret
          exact ⟨by rw [HE.out]; rfl, rfl⟩
        · have HC2 : Hid (∀ c ∈ l.take (j + 1), nameC c = true) := fun x hx => by
            rw [List.take_succ_eq_append_getElem hlt] at hx
            rcases List.mem_append.1 hx with hx | hx
            · exact HC.out x hx
            · rw [List.mem_singleton.1 hx]
              simpa [List.getD, List.getElem?_eq_getElem hlt] using hb
          rw [hb] at HP2
          clear h58 HC hb
          generalize (l.getD j 0).toNat = x at c0 e1 HP2
          go_wp2_with (first | (go_at_call 48; refine HP2.out.mono ?_; rintro e w' ⟨rfl, rfl⟩; refine Hid.out ?_) | fail)
          refine Lib.hid ?_
          go_wp2
          go_round
          case rel => exact ⟨j + 1, by omega, by go_num, HC2⟩
          case measure => simp [intOf]; omega
    · have i1 : ¬ (j : Int) < (l.length : Int) := by omega
      have HE : Hid (nsz l = 0) := nsz_none fun x hx => HC.out x (by rw [List.take_of_length_le (by omega)]; exact hx)
      clear HC
      go_wp2
      go_ret
      exact ⟨by rw [HE.out]; rfl, rfl⟩
end Go.Proofs.YtnogpoojhhmadaaDoor.Header
