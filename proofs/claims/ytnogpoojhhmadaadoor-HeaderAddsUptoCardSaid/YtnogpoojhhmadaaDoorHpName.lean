/-
  HEADER, the program: names, small letters, blanks, texts.
-/
import Derived.Test.YtnogpoojhhmadaaDoorHdrLower

namespace Go.Proofs.YtnogpoojhhmadaaDoor.Header
open Go.RowKit Base
theorem pOfName (c : UInt8) (w : World) : Calls Tryd.prog 48 #[.int .u8 (c.toNat : Int)] w fun e w' => e = .returned (.bool (nameC c)) ∧ w = w' := by
  by_cases h1 : 33 ≤ c.toNat
  · have e1 : (33 : Int) ≤ (c.toNat : Int) := by omega
    by_cases h2 : c.toNat ≤ 126
    · have e2 : (c.toNat : Int) ≤ 126 := by omega
      by_cases h3 : c.toNat = 58
      · have e3 : ((c.toNat : Int) != 58) = false := by rw [h3]; rfl
        have HE : Hid (nameC c = false) := by show _ = _; simp [nameC, h3]
        clear h1 h2 h3
        go_enter Tryd.func48, Tryd.ntmps48
        go_wp2
        go_ret
        exact ⟨by rw [HE.out]; rfl, rfl⟩
      · have e3 : ((c.toNat : Int) != 58) = true := by rw [bne_iff_ne]; omega
        have HE : Hid (nameC c = true) := by show _ = _; simp [nameC, h1, h2, h3]
        clear h1 h2 h3
        go_enter Tryd.func48, Tryd.ntmps48
        go_wp2
        go_ret
        exact ⟨by rw [HE.out]; rfl, rfl⟩
    · have e2 : ¬ (c.toNat : Int) ≤ 126 := by omega
      have HE : Hid (nameC c = false) := by show _ = _; simp [nameC]; omega
      clear h1 h2
      go_enter Tryd.func48, Tryd.ntmps48
      go_wp2
      go_ret
      exact ⟨by rw [HE.out]; rfl, rfl⟩
  · have e1 : ¬ (33 : Int) ≤ (c.toNat : Int) := by omega
    have HE : Hid (nameC c = false) := by show _ = _; simp [nameC]; omega
    clear h1
    go_enter Tryd.func48, Tryd.ntmps48
    go_wp2
    go_ret
    exact ⟨by rw [HE.out]; rfl, rfl⟩
set_option maxHeartbeats 4000000 in
set_option maxRecDepth 100000 in
theorem pName (s : ByteArray) (w : World) (hs : s.size ≤ 9223372036854775807) : Calls Tryd.prog 33 #[.string s] w fun e w' => e = .returned (.bool (nameB s.data.toList)) ∧ w = w' := by
  go_enter Tryd.func33, Tryd.ntmps33
  go_wp2
  go_loop [6] (fun i => ∃ j : Nat, j ≤ s.size ∧ i = .int .i64 (j : Int) ∧ Hid (∀ c ∈ s.data.toList.take j, nameC c = true)) (fun i => s.size - (intOf i).toNat)
  case atStart => exact ⟨0, by omega, rfl, fun c hc => by simp at hc⟩
  case round =>
    obtain ⟨j, hj, rfl, HC⟩ := hrel
    by_cases hlt : j < s.size
    · have i0 : (0 : Int) ≤ (j : Int) := by omega
      have i1 : (j : Int) < (s.size : Int) := by omega
      have HP := Lib.hid (pOfName s[j] w)
      cases hc : nameC s[j]
      · have HN : Hid (nameB s.data.toList = false) := nameB_no hlt hc
        rw [hc] at HP
        clear hc HC
        go_wp2_with (first | (go_at_call 48; refine HP.out.mono ?_; rintro ee w' ⟨rfl, rfl⟩) | fail)
        go_ret
        exact ⟨by rw [HN.out]; rfl, rfl⟩
      · have HC2 : Hid (∀ c ∈ s.data.toList.take (j + 1), nameC c = true) := fun c hcc => by
          have hjl : j < s.data.toList.length := by rw [str_len]; exact hlt
          rw [List.take_succ_eq_append_getElem hjl] at hcc
          rcases List.mem_append.1 hcc with h | h
          · exact HC.out c h
          · rw [List.mem_singleton.1 h, str_getL s j hlt hjl]; exact hc
        rw [hc] at HP
        clear hc HC
        go_wp2_with (first | (go_at_call 48; refine HP.out.mono ?_; rintro ee w' ⟨rfl, rfl⟩) | fail)
        go_round
        case rel => exact ⟨j + 1, by omega, by go_num, HC2⟩
        case measure => simp [intOf]; omega
    · have i1 : ¬ (j : Int) < (s.size : Int) := by omega
      have HN : Hid (nameB s.data.toList = decide (0 < s.size)) := nameB_yes fun c hc => HC.out c (by rw [List.take_of_length_le (by rw [str_len]; omega)]; exact hc)
      clear HC
      by_cases hz : 0 < s.size
      · have e0 : s.toList ≠ [] := by
          rw [ByteArray.toList_eq]
          intro e
          have := str_len s
          rw [e] at this
          simp at this; omega
        have e1 : (s.toList == []) = false := by rw [beq_eq_false_iff_ne]; exact e0
        have HN2 : Hid (nameB s.data.toList = true) := by show _ = _; rw [HN.out]; simp [hz]
        clear HN
        go_wp2
        go_ret
        refine ⟨?_, rfl⟩
        rw [HN2.out]
        simp_all
      · obtain rfl : s = ⟨#[]⟩ := by apply ByteArray.ext; apply Array.eq_empty_of_size_eq_zero; show s.size = 0; omega
        go_wp2
        go_ret
        exact ⟨rfl, rfl⟩
theorem pLower (c : UInt8) (w : World) : Calls Tryd.prog 45 #[.int .u8 (c.toNat : Int)] w fun e w' => e = .returned (.int .u8 ((low1 c).toNat : Int)) ∧ w = w' := by
  by_cases h1 : 65 ≤ c.toNat
  · have e1 : (65 : Int) ≤ (c.toNat : Int) := by omega
    by_cases h2 : c.toNat ≤ 90
    · have e2 : (c.toNat : Int) ≤ 90 := by omega
      have HE : Hid (((low1 c).toNat : Int) = (c.toNat : Int) + 32) := low1_up h1 h2
      clear h1 h2
      go_enter Tryd.func45, Tryd.ntmps45
      go_wp2
      go_ret
      refine ⟨?_, rfl⟩
      rw [HE.out]
      rfl
    · have e2 : ¬ (c.toNat : Int) ≤ 90 := by omega
      have HE : Hid (low1 c = c) := by show _ = _; unfold low1; rw [if_neg (by omega)]
      clear h1 h2
      go_enter Tryd.func45, Tryd.ntmps45
      go_wp2
      go_ret
      exact ⟨by rw [HE.out]; rfl, rfl⟩
  · have e1 : ¬ (65 : Int) ≤ (c.toNat : Int) := by omega
    have HE : Hid (low1 c = c) := by show _ = _; unfold low1; rw [if_neg (by omega)]
    clear h1
    go_enter Tryd.func45, Tryd.ntmps45
    go_wp2
    go_ret
    exact ⟨by rw [HE.out]; rfl, rfl⟩
end Go.Proofs.YtnogpoojhhmadaaDoor.Header
