/-
  The document's pipes: none at the beginning; what may be a port.
-/
import Derived.Test.YtfmphhcdbocgnaaRefWith
namespace Go.Proofs.Ytfmphhcdbocgnaa.Pipe
open Go.RowKit Base
def RNewEnd (own : Nat → Tag) (w : World) (e : Ending) (w' : World) : Prop :=
  ∃ g own', e = .returned (.pointer (some ⟨g, 0, none⟩)) ∧ RHolds own' w' g (.slice none 0 0) [] ∧ StepR own w own' w'
theorem rNew (own : Nat → Tag) (w : World) (hf : ∀ b, w.heap.size ≤ b → own b = .no) : Calls Try.prog 7 #[] w (RNewEnd own w) := by
  have HF := Lib.hid hf
  clear hf
  go_enter Try.func7, Try.ntmps7
  go_wp2
  go_ret
  refine ⟨_, fun b => if b = w.heap.size then .r .root else own b, rfl, ⟨(MapKept.heap_alloc w _).1, by simp, ⟨rfl, Or.inl ⟨rfl, rfl⟩⟩, (fun b hb => by cases hb), (fun i p hp => by simp at hp), fun b hb => ?_⟩, ?_⟩
  · simp at hb; rw [if_neg (by omega)]; exact HF.out b (by omega)
  · have hb := Below.alloc1 w (.cells #[.slice none 0 0] 47)
    exact ⟨hb.os, hb.tape, hb.output, hb.size, fun b h _ => hb.block b h, fun b h _ => by rw [if_neg (by omega)]⟩
theorem rIsPort (s : ByteArray) (w : World) (hs : s.size ≤ maxLen) : Calls Try.prog 29 #[.string s] w (AskEnd (portB s.data.toList) w) := by
  unfold maxLen at hs
  have hl := str_len s
  obtain ⟨B, hB⟩ : ∃ B, portB s.data.toList = B := ⟨_, rfl⟩
  rw [hB]
  have hp : Hid ((decide (1 ≤ s.size) && decide (s.size ≤ 32) && s.data.toList.all pbyte) = B) := by
    refine Eq.trans ?_ hB
    unfold portB; rw [hl]
  clear hB
  have HL := Lib.hid hl
  clear hl
  go_enter Try.func29, Try.ntmps29
  go_wp2
  go_loop [3] (fun i => ∃ k : Nat, k ≤ s.size ∧ i = .int .i64 k ∧ Hid ((s.data.toList.take k).all pbyte = true)) (fun i => s.size - (intOf i).toNat)
  case atStart => exact ⟨0, Nat.zero_le _, rfl, rfl⟩
  case round =>
    obtain ⟨k, hk, rfl, hall⟩ := hrel
    by_cases hlt : k < s.size
    · have hb := pbyte_iff s[k]
      have hstep : Hid ((s.data.toList.take (k + 1)).all pbyte = ((s.data.toList.take k).all pbyte && pbyte s[k])) := by
        have := all_take (l := s.data.toList) (k := k) (by rw [HL.out]; exact hlt) pbyte
        rw [str_get s k hlt] at this; exact this
      have hu : (s[k].toNat : Int) ≤ 255 := by have := s[k].toNat_lt; omega
      by_cases hok : pbyte s[k] = true
      · have hfin : Hid ((s.data.toList.take (k + 1)).all pbyte = true) := by rw [hstep.out, hall.out, hok]; rfl
        rw [hb, decide_eq_true_iff] at hok
        clear hb hstep hall
        go_wp2
        all_goals first
          | (go_round
             case rel => exact ⟨k + 1, by omega, by go_num, hfin⟩
             case measure => simp [intOf]; omega)
          | (exfalso; simp at *; omega)
      · have hfin : Hid (B = false) := by
          refine hp.out.symm.trans ?_
          rw [all_not (k := k) (by rw [HL.out]; exact hlt) pbyte (by rw [str_get s k hlt]; simpa using hok), Bool.and_false]
        rw [hb, decide_eq_true_iff] at hok
        clear hb hstep hall
        go_wp2
        all_goals first
          | (go_ret; exact ⟨ret_bool hfin.out.symm, rfl⟩)
          | (exfalso; simp at *; omega)
    · have hfin : Hid (s.data.toList.all pbyte = true) := by
        have := hall.out
        rwa [List.take_of_length_le (by rw [HL.out]; omega)] at this
      clear hall
      have hB2 := hp.out
      rw [hfin.out, Bool.and_true] at hB2
      by_cases h1 : 1 ≤ s.size
      · by_cases h2 : s.size ≤ 32
        · have e1 : (1 : Int) ≤ (s.size : Int) := by omega
          have e2 : (s.size : Int) ≤ 32 := by omega
          rw [decide_eq_true h1, decide_eq_true h2] at hB2
          obtain rfl : B = true := hB2.symm
          clear hB2
          go_wp2
          go_ret
          exact ⟨rfl, rfl⟩
        · have e1 : (1 : Int) ≤ (s.size : Int) := by omega
          have e2 : ¬ (s.size : Int) ≤ 32 := by omega
          rw [decide_eq_true h1, decide_eq_false h2] at hB2
          obtain rfl : B = false := hB2.symm
          clear hB2
          go_wp2
          go_ret
          exact ⟨rfl, rfl⟩
      · have e1 : ¬ (1 : Int) ≤ (s.size : Int) := by omega
        rw [decide_eq_false h1, Bool.false_and] at hB2
        obtain rfl : B = false := hB2.symm
        clear hB2
        go_wp2
        go_ret
        exact ⟨rfl, rfl⟩
end Go.Proofs.Ytfmphhcdbocgnaa.Pipe
