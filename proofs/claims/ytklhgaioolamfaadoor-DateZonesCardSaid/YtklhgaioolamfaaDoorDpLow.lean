/-
  DATE, the program: small letters, digits, an hour and a minute.
-/
import Derived.Test.YtklhgaioolamfaaDoorDatQ2
namespace Go.Proofs.YtklhgaioolamfaaDoor.Date
open Go.RowKit Base
set_option maxHeartbeats 4000000 in
set_option maxRecDepth 100000 in
theorem pLower (s : ByteArray) (w : World) (hs : s.size ≤ 9223372036854775807) : Calls Tryd.prog 54 #[.string s] w (LowEnd s w) := by
  obtain ⟨cap, hcap, hconv⟩ := ref_bytes w s
  have H0 := Lib.hid (BytesAt.new w s cap hcap)
  have HB0 : Hid (Below w.heap.size w (w.drew.alloc (.cells (bytesRow s cap) 5 ((bytesRow s cap).size, (bytesRow s cap).size + 1)))) := ((Below.refl _ _).drew).alloc (Nat.le_refl _) _
  obtain ⟨w0, hw0⟩ : ∃ w0, w0 = w.drew.alloc (.cells (bytesRow s cap) 5 ((bytesRow s cap).size, (bytesRow s cap).size + 1)) := ⟨_, rfl⟩
  rw [← hw0] at hconv H0 HB0
  clear hw0
  go_enter Tryd.func54, Tryd.ntmps54
  go_wp2
  go_loopw [4, 5, 10] (fun iv cv kv wr => ∃ k : Nat, k ≤ s.size ∧ kv = .int .i64 k ∧ Hid (BytesAt wr w.heap.size cap (lowK s.data.toList k)) ∧ Hid (Below w.heap.size w wr)) (fun _ _ kv _ => s.size - (intOf kv).toNat)
  case atStart => exact ⟨0, by omega, rfl, by rw [lowK_zero]; exact H0, HB0⟩
  case round =>
    obtain ⟨k, hk, rfl, HAT, HBW⟩ := hrel
    by_cases hlt : k < s.size
    · have hkl : k < s.data.toList.length := by rw [str_len]; exact hlt
      have i0 : (0 : Int) ≤ (k : Int) := by omega
      have i1 : (k : Int) < (s.size : Int) := by omega
      obtain ⟨c1, c2⟩ := HAT.out.cell (k := k) (by rw [lowK_len]; exact hkl)
      rw [lowK_at _ _ hkl] at c1
      have HS := Lib.hid (lowK_succ s.data.toList k hkl)
      have HM := Lib.hid (lowK_same s.data.toList k hkl)
      have hx := (s.data.toList.getD k 0).toNat_lt
      generalize s.data.toList.getD k 0 = x at c1 HS HM hx
      by_cases h1 : 65 ≤ x.toNat
      · have j1 : (65 : Int) ≤ (x.toNat : Int) := by omega
        by_cases h2 : x.toNat ≤ 90
        · have j2 : (x.toNat : Int) ≤ 90 := by omega
          have j3 : (x.toNat : Int) + 97 - 65 = (x.toNat : Int) + 32 := by omega
          have HN : Hid (BytesAt (wr.setCell ⟨w.heap.size, k, none⟩ (.int .u8 ((x.toNat : Int) + 32))) w.heap.size cap (lowK s.data.toList (k + 1))) := by
            have := HAT.out.set k (low1 x)
            rw [low1_up h1 h2] at this
            rw [HS.out]; exact this
          have HB2 : Hid (Below w.heap.size w (wr.setCell ⟨w.heap.size, k, none⟩ (.int .u8 ((x.toNat : Int) + 32)))) := HBW.out.setCell (Nat.le_refl _) _
          clear h1 h2
          go_wp2
          go_roundw
          case rel => exact ⟨k + 1, by omega, by go_num, HN, HB2⟩
          case measure => simp [intOf]; omega
        · have j2 : ¬ (x.toNat : Int) ≤ 90 := by omega
          have HN : Hid (BytesAt wr w.heap.size cap (lowK s.data.toList (k + 1))) := by
            show BytesAt _ _ _ _
            rw [HM.out (low1_no (fun h => h2 h.2))]; exact HAT.out
          clear h1 h2
          go_wp2
          go_roundw
          case rel => exact ⟨k + 1, by omega, by go_num, HN, HBW⟩
          case measure => simp [intOf]; omega
      · have j1 : ¬ (65 : Int) ≤ (x.toNat : Int) := by omega
        have HN : Hid (BytesAt wr w.heap.size cap (lowK s.data.toList (k + 1))) := by
          show BytesAt _ _ _ _
          rw [HM.out (low1_no (fun h => h1 h.1))]; exact HAT.out
        clear h1
        go_wp2
        go_roundw
        case rel => exact ⟨k + 1, by omega, by go_num, HN, HBW⟩
        case measure => simp [intOf]; omega
    · have i1 : ¬ (k : Int) < (s.size : Int) := by omega
      have hk2 : k = s.data.toList.length := by rw [str_len]; omega
      have hcv := conv_reads (HAT.out.reads (n := s.size) (by rw [lowK_len, str_len]))
      rw [hk2, lowK_all] at hcv
      clear hk2
      go_wp2
      go_ret
      exact ⟨rfl, HBW.out⟩
end Go.Proofs.YtklhgaioolamfaaDoor.Date
