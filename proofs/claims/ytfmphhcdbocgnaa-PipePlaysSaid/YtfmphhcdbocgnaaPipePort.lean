/-
  What may be a port.
-/
import Derived.Test.YtfmphhcdbocgnaaPipeLen
namespace Go.Proofs.Ytfmphhcdbocgnaa.Pipe
open Go.RowKit Base
def pbyte (c : UInt8) : Bool := (97 ≤ c && c ≤ 122) || (48 ≤ c && c ≤ 57) || c == 45
def portB (l : List UInt8) : Bool := decide (1 ≤ l.length) && decide (l.length ≤ 32) && l.all pbyte
theorem pbyte_iff (c : UInt8) : pbyte c = decide ((97 ≤ (c.toNat : Int) ∧ (c.toNat : Int) ≤ 122) ∨ (48 ≤ (c.toNat : Int) ∧ (c.toNat : Int) ≤ 57) ∨ (c.toNat : Int) = 45) := by
  unfold pbyte
  rw [Bool.eq_iff_iff]
  simp [UInt8.le_iff_toNat_le, ← UInt8.toNat_inj]
  omega
theorem str_len (s : ByteArray) : s.data.toList.length = s.size := Array.length_toList
theorem str_get (s : ByteArray) (k : Nat) (h : k < s.size) : s.data.toList.getD k 0 = s[k] := by
  have : k < s.data.size := h
  simp [List.getD, Array.getElem?_eq_getElem this]; rfl
theorem cIsPort' (s : ByteArray) (w : World) (hs : s.size ≤ maxLen) (B : Bool) (hB : Hid (portB s.data.toList = B)) : Calls Try.prog 24 #[.string s] w (AskEnd B w) := by
  unfold maxLen at hs
  have hl := str_len s
  by_cases h1 : s.size < 1
  · have hp : portB s.data.toList = false := by unfold portB; rw [hl]; simp; omega
    have d1 : decide ((s.size : Int) < 1) = true := by simp; omega
    obtain rfl : B = false := hB.out.symm.trans hp
    clear hp hl
    go_enter Try.func24, Try.ntmps24
    go_wp2
    go_ret
    exact ⟨rfl, rfl⟩
  by_cases h2 : 32 < s.size
  · have hp : portB s.data.toList = false := by unfold portB; rw [hl]; simp; intros; omega
    have d1 : decide ((s.size : Int) < 1) = false := by simp; omega
    have d2 : decide ((32 : Int) < (s.size : Int)) = true := by simp; omega
    obtain rfl : B = false := hB.out.symm.trans hp
    clear hp hl
    go_enter Try.func24, Try.ntmps24
    go_wp2
    go_ret
    exact ⟨rfl, rfl⟩
  have hp : Hid (s.data.toList.all pbyte = B) := by
    refine Eq.trans ?_ hB.out
    unfold portB; rw [hl, decide_eq_true (by omega : 1 ≤ s.size), decide_eq_true (by omega : s.size ≤ 32)]; rfl
  clear hB
  have d1 : decide ((s.size : Int) < 1) = false := by simp; omega
  have d2 : decide ((32 : Int) < (s.size : Int)) = false := by simp; omega
  have HL := Lib.hid hl
  clear hl
  go_enter Try.func24, Try.ntmps24
  go_wp2
  go_loop [3] (fun i => ∃ k : Nat, k ≤ s.size ∧ i = .int .i64 k ∧ Hid ((s.data.toList.take k).all pbyte = true)) (fun i => s.size - (intOf i).toNat)
  case atStart => exact ⟨0, Nat.zero_le _, rfl, rfl⟩
  case round =>
    obtain ⟨k, hk, rfl, hall⟩ := hrel
    by_cases hlt : k < s.size
    · have hb := pbyte_iff s[k]
      have hstep : Hid ((s.data.toList.take (k + 1)).all pbyte = ((s.data.toList.take k).all pbyte && pbyte s[k])) := by
        have := all_take (l := s.data.toList) (k := k) (by rw [HL.out]; exact hlt) pbyte
        rw [str_get s k hlt] at this; exact this
      have hu : (s[k].toNat : Int) ≤ 255 := by have := s[k].toNat_lt; omega
      by_cases hok : pbyte s[k] = true
      · have hfin : Hid ((s.data.toList.take (k + 1)).all pbyte = true) := by rw [hstep.out, hall.out, hok]; rfl
        rw [hb, decide_eq_true_iff] at hok
        clear hb hstep hall
        go_wp2
        all_goals first
          | (go_round
             case rel => exact ⟨k + 1, by omega, by go_num, hfin⟩
             case measure => simp [intOf]; omega)
          | (exfalso; simp at *; omega)
      · have hfin : Hid (B = false) := by
          refine hp.out.symm.trans (all_not (k := k) (by rw [HL.out]; exact hlt) pbyte ?_)
          rw [str_get s k hlt]; simpa using hok
        rw [hb, decide_eq_true_iff] at hok
        clear hb hstep hall
        go_wp2
        all_goals first
          | (go_ret; exact ⟨ret_bool hfin.out.symm, rfl⟩)
          | (exfalso; simp at *; omega)
    · have hfin : Hid (B = true) := by
        have := hall.out
        rw [List.take_of_length_le (by rw [HL.out]; omega)] at this
        exact hp.out.symm.trans this
      clear hall
      go_wp2
      go_ret
      exact ⟨ret_bool hfin.out.symm, rfl⟩
theorem cIsPort (s : ByteArray) (w : World) (hs : s.size ≤ maxLen) : Calls Try.prog 24 #[.string s] w (AskEnd (portB s.data.toList) w) := cIsPort' s w hs _ rfl
end Go.Proofs.Ytfmphhcdbocgnaa.Pipe
