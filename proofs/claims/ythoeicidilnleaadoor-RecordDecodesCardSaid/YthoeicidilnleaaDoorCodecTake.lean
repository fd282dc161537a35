/-
  CODEC: the two readers of digits up to an end byte (the program's and the document's answer): each answers 'takeFrom' of the bytes.
-/
import Derived.Test.YthoeicidilnleaaDoorProg
import Derived.Test.YthoeicidilnleaaDoorCodecMath
import Derived.WalkKit
import Derived.Lib.Hide
namespace Go.Proofs.YthoeicidilnleaaDoor.Codec
open Go.RowKit

set_option maxHeartbeats 400000 in
set_option maxRecDepth 100000 in
theorem ctake_any (b o cap : Nat) (l : List UInt8) (e d m : Int) (w : World) (hl : l.length ≤ 200000000000000) (he : 58 ≤ e ∧ e ≤ 255) (hd : 0 ≤ d ∧ d ≤ 16)
    (hc : ∀ i, i < l.length → w.cell? ⟨b, o + i, none⟩ = some (.int .u8 ((l.getD i 0).toNat : Int))) :
    Calls Tryd.prog 64 #[.slice (some ⟨b, o, none⟩) l.length cap, .int .u8 e, .int .i64 d, .int .i64 m] w (TakeEnd (takeFrom e d m l 0 0) w) := by
  go_enter Tryd.func64, Tryd.ntmps64
  go_wp2
  go_loop [11, 16] (fun n i => ∃ (k : Nat) (N : Int), k ≤ l.length ∧ i = .int .i64 k ∧ n = .int .i64 N ∧ 0 ≤ N ∧ N < 10 ^ k ∧ (k : Int) ≤ d ∧ takeFrom e d m l 0 0 = takeFrom e d m (l.drop k) k N) (fun _ i => l.length - (intOf i).toNat)
  case atStart => exact ⟨0, 0, by omega, rfl, rfl, by omega, by simp, by omega, rfl⟩
  case round =>
    obtain ⟨k, N, hk, rfl, rfl, hN0, hN1, hkd, hrun⟩ := hrel
    have HR := Lib.hid hrun
    clear hrun
    by_cases hlt : k < l.length
    · have hcell := hc k hlt
      obtain ⟨c, hc0, hc1, hce, r1, r2, r3, r4⟩ := take_round e d m l k N hlt
      rw [hce] at hcell
      have hNb := pow_le hN1 hkd hd.2
      clear hc hce
      by_cases hA : c = e ∧ 0 < k
      · obtain ⟨rfl, hk0⟩ := hA
        by_cases hB : m < N
        · have HF := Lib.hid (r1 rfl hk0 hB)
          clear r1 r2 r3 r4 hN1
          go_wp2
          go_ret3
          rw [HR.out, HF.out]
          exact ⟨rfl, rfl⟩
        · have HF := Lib.hid (r2 rfl hk0 hB)
          clear r1 r2 r3 r4 hN1
          go_wp2
          go_ret3
          rw [HR.out, HF.out]
          exact ⟨rfl, rfl⟩
      · by_cases hB : c < 48 ∨ 57 < c ∨ (k : Int) = d ∨ (k = 1 ∧ N = 0)
        · have HF := Lib.hid (r3 hA hB)
          clear r1 r2 r3 r4 hN1
          by_cases h1 : c < 48
          · clear hA hB
            go_wp2
            go_ret3
            rw [HR.out, HF.out]
            exact ⟨rfl, rfl⟩
          · by_cases h2 : 57 < c
            · by_cases h3 : c = e
              · subst h3
                have h5 : (k : Int) ≤ 0 := by omega
                clear hA hB
                go_wp2
                go_ret3
                rw [HR.out, HF.out]
                exact ⟨rfl, rfl⟩
              · have h4 : (c == e) = false := by simp [h3]
                clear hA hB
                go_wp2
                go_ret3
                rw [HR.out, HF.out]
                exact ⟨rfl, rfl⟩
            · by_cases h3 : (k : Int) = d
              · have h4 : ((k : Int) == d) = true := by simp [h3]
                clear hA hB h3
                go_wp2
                go_ret3
                rw [HR.out, HF.out]
                exact ⟨rfl, rfl⟩
              · have h4 : ((k : Int) == d) = false := by simp [h3]
                have h5 : (c == e) = false := by simp; omega
                have h6 : ((k : Int) == 1) = true := by simp; omega
                obtain rfl : N = 0 := by omega
                clear hA hB h3
                go_wp2
                go_ret3
                rw [HR.out, HF.out]
                exact ⟨rfl, rfl⟩
        · have HF := Lib.hid (r4 hA hB)
          clear r1 r2 r3 r4
          have hp := pow_step (c := c) hN0 hN1 (by omega) (by omega)
          have hq : 48 ≤ c := by omega
          have hq2 : c ≤ 57 := by omega
          have hq3 : (k : Int) + 1 ≤ d := by omega
          have h4 : ((k : Int) == d) = false := by simp; omega
          have HP := Lib.hid hp
          have HN := Lib.hid hN1
          by_cases h5 : (k : Int) = 1
          · have h6 : (N == 0) = false := by simp; omega
            have h7 : ((k : Int) == 1) = true := by simp; omega
            clear hp hN1 hB hA h5
            go_wp2
            go_round
            case rel => exact ⟨k + 1, _, by omega, by go_num, rfl, HP.out.1, HP.out.2, by omega, by rw [HR.out, HF.out]⟩
            case measure => simp [intOf]; omega
          · have h6 : ((k : Int) == 1) = false := by simp; omega
            clear hp hN1 hB hA h5
            go_wp2
            go_round
            case rel => exact ⟨k + 1, _, by omega, by go_num, rfl, HP.out.1, HP.out.2, by omega, by rw [HR.out, HF.out]⟩
            case measure => simp [intOf]; omega
    · have hfin : takeFrom e d m (l.drop k) k N = (0, 0, 20) := by rw [List.drop_eq_nil_of_le (by omega)]; rfl
      have HF := Lib.hid hfin
      clear hfin hc
      go_wp2
      go_ret3
      rw [HR.out, HF.out]
      exact ⟨rfl, rfl⟩

set_option maxHeartbeats 400000 in
set_option maxRecDepth 100000 in
theorem rtake_any (b o cap : Nat) (l : List UInt8) (e d m : Int) (w : World) (hl : l.length ≤ 200000000000000) (he : 58 ≤ e ∧ e ≤ 255) (hd : 2 ≤ d ∧ d ≤ 16)
    (hc : ∀ i, i < l.length → w.cell? ⟨b, o + i, none⟩ = some (.int .u8 ((l.getD i 0).toNat : Int))) :
    Calls Tryd.prog 63 #[.slice (some ⟨b, o, none⟩) l.length cap, .int .u8 e, .int .i64 d, .int .i64 m] w (TakeEnd (takeFrom e d m l 0 0) w) := by
  go_enter Tryd.func63, Tryd.ntmps63
  go_wp2
  go_loop [11, 12] (fun n i => ∃ (k : Nat) (N : Int), k ≤ l.length ∧ i = .int .i64 k ∧ n = .int .i64 N ∧ 0 ≤ N ∧ N < 10 ^ k ∧ (k : Int) ≤ d ∧ Hid (k = 1 → N = ((l.getD 0 0).toNat : Int) - 48) ∧ takeFrom e d m l 0 0 = takeFrom e d m (l.drop k) k N) (fun _ i => l.length - (intOf i).toNat)
  case atStart => exact ⟨0, 0, by omega, rfl, rfl, by omega, by simp, by omega, (fun h => by omega), rfl⟩
  case round =>
    obtain ⟨k, N, hk, rfl, rfl, hN0, hN1, hkd, hone, hrun⟩ := hrel
    have HR := Lib.hid hrun
    clear hrun
    by_cases hlt : k < l.length
    · have hcell := hc k hlt
      have hcell0 := hc 0 (by omega)
      obtain ⟨c, hc0, hc1, hce, r1, r2, r3, r4⟩ := take_round e d m l k N hlt
      obtain ⟨z, hze⟩ : ∃ z : Int, z = ((l.getD 0 0).toNat : Int) := ⟨_, rfl⟩
      rw [hce] at hcell
      rw [← hze] at hcell0 hone
      rw [Nat.add_zero] at hcell0
      have hz0 : k = 0 → z = c := by rintro rfl; rw [hze, ← hce]
      have HZ := Lib.hid hz0
      have HE := Lib.hid hze
      have hNb := pow_le hN1 hkd hd.2
      clear hc hce hze hz0
      by_cases hA : c = e ∧ 0 < k
      · obtain ⟨rfl, hk0⟩ := hA
        by_cases hB : m < N
        · have HF := Lib.hid (r1 rfl hk0 hB)
          clear r1 r2 r3 r4 hN1
          go_wp2
          go_ret3
          rw [HR.out, HF.out]
          exact ⟨rfl, rfl⟩
        · have HF := Lib.hid (r2 rfl hk0 hB)
          clear r1 r2 r3 r4 hN1
          go_wp2
          go_ret3
          rw [HR.out, HF.out]
          exact ⟨rfl, rfl⟩
      · by_cases hB : c < 48 ∨ 57 < c ∨ (k : Int) = d ∨ (k = 1 ∧ N = 0)
        · have HF := Lib.hid (r3 hA hB)
          clear r1 r2 r3 r4 hN1
          by_cases h1 : c < 48
          · clear hA hB
            go_wp2
            go_ret3
            rw [HR.out, HF.out]
            exact ⟨rfl, rfl⟩
          · by_cases h2 : 57 < c
            · by_cases h3 : c = e
              · subst h3
                have h5 : (k : Int) ≤ 0 := by omega
                clear hA hB
                go_wp2
                go_ret3
                rw [HR.out, HF.out]
                exact ⟨rfl, rfl⟩
              · have h4 : (c == e) = false := by simp [h3]
                clear hA hB
                go_wp2
                go_ret3
                rw [HR.out, HF.out]
                exact ⟨rfl, rfl⟩
            · have h5 : (c == e) = false := by simp; omega
              by_cases h3 : (k : Int) = d
              · have h4 : ((k : Int) == d) = true := by simp [h3]
                have h6 : ((k : Int) == 1) = false := by simp; omega
                clear hA hB h3
                go_wp2
                go_ret3
                rw [HR.out, HF.out]
                exact ⟨rfl, rfl⟩
              · have h4 : ((k : Int) == d) = false := by simp [h3]
                have h6 : ((k : Int) == 1) = true := by simp; omega
                have h7 : (z == 48) = true := by have := hone.out (by omega); simp; omega
                clear hA hB h3
                go_wp2
                go_ret3
                rw [HR.out, HF.out]
                exact ⟨rfl, rfl⟩
        · have HF := Lib.hid (r4 hA hB)
          clear r1 r2 r3 r4
          have hp := pow_step' (c := c) hN0 hN1 (by omega) (by omega)
          have hq : 48 ≤ c := by omega
          have hq2 : c ≤ 57 := by omega
          have hq3 : (k : Int) + 1 ≤ d := by omega
          have h4 : ((k : Int) == d) = false := by simp; omega
          have h5 : (c == e) = false := by simp; omega
          have HP := Lib.hid hp
          have HN := Lib.hid hN1
          have hon : Hid (k + 1 = 1 → 10 * N + c - 48 = z - 48) := by
            intro h
            obtain rfl : k = 0 := by omega
            have := HZ.out rfl
            simp at hN1
            omega
          by_cases h5 : (k : Int) = 1
          · have h6 : (z == 48) = false := by have := hone.out (by omega); simp; omega
            have h7 : ((k : Int) == 1) = true := by simp; omega
            clear hp hN1 hB hA h5
            go_wp2
            go_round
            case rel => exact ⟨k + 1, _, by omega, by go_num, rfl, HP.out.1, HP.out.2.1, by omega, by rw [← HE.out]; exact hon, by rw [HR.out, HF.out, HP.out.2.2]⟩
            case measure => simp [intOf]; omega
          · have h6 : ((k : Int) == 1) = false := by simp; omega
            clear hp hN1 hB hA h5
            go_wp2
            go_round
            case rel => exact ⟨k + 1, _, by omega, by go_num, rfl, HP.out.1, HP.out.2.1, by omega, by rw [← HE.out]; exact hon, by rw [HR.out, HF.out, HP.out.2.2]⟩
            case measure => simp [intOf]; omega
    · have hfin : takeFrom e d m (l.drop k) k N = (0, 0, 20) := by rw [List.drop_eq_nil_of_le (by omega)]; rfl
      have HF := Lib.hid hfin
      clear hfin hc
      go_wp2
      go_ret3
      rw [HR.out, HF.out]
      exact ⟨rfl, rfl⟩
end Go.Proofs.YthoeicidilnleaaDoor.Codec
