/-
  DATE, the program: numbers as text.
-/
import Derived.Test.YtklhgaioolamfaaDoorDpVars
import Derived.Test.YtklhgaioolamfaaDoorShelf
namespace Go.Proofs.YtklhgaioolamfaaDoor.Date
open Go.RowKit Base
theorem dec_one {n : Nat} (h : n < 10) : Lib.decDigits n = [UInt8.ofNat (48 + n)] := by
  rw [Lib.decDigits, dif_pos h]
theorem dec_more {n : Nat} (h : ¬ n < 10) : Lib.decDigits n = Lib.decDigits (n / 10) ++ [UInt8.ofNat (48 + n % 10)] := by
  rw [Lib.decDigits, dif_neg h]
theorem dec_two {n : Nat} (h : 10 ≤ n) (h2 : n < 100) : Lib.decDigits n = twoD n := by
  rw [dec_more (by omega), dec_one (show n / 10 < 10 by omega)]; rfl
theorem dec_dg {d : Nat} (h : d < 100) : Lib.decDigits d = dgD d := by
  unfold dgD
  split
  · rename_i h1
    rw [dec_one h1, Nat.mod_eq_of_lt h1]
  · exact dec_two (by omega) h
theorem dec_four {y : Nat} (h1 : 1000 ≤ y) (h2 : y ≤ 9999) : Lib.itoa (y : Int) = twoD (y / 100) ++ twoD (y % 100) := by
  unfold Lib.itoa
  rw [if_neg (by omega), Int.toNat_natCast, dec_more (by omega), dec_more (show ¬ y / 10 < 10 by omega), dec_two (show 10 ≤ y / 10 / 10 by omega) (by omega)]
  unfold twoD
  rw [show y / 10 / 10 = y / 100 by omega, show y / 10 % 10 = y % 100 / 10 by omega, show y % 10 = y % 100 % 10 by omega]
  simp
theorem pItoa (d : Nat) (w : World) (h : d < 100) : Calls Tryd.prog 23 #[.int .i64 (d : Int)] w fun e w' => e = .returned (S (dgD d)) ∧ w = w' := by
  rw [← dec_dg h]
  exact (Tryd.strconv_Itoa_small d h w).mono fun e w' x => ⟨x.1, x.2.symm⟩
theorem grow_bel (w : World) (k : Nat) (os : Array Obj) : Below w.heap.size w (Go.Sort.grow (w.drewN k) os) := by
  refine ⟨rfl, rfl, rfl, ?_, fun b hb => ?_⟩
  · show _ ≤ (w.heap ++ os).size
    simp
  · show (w.heap ++ os)[b]? = _
    exact Array.getElem?_append_left hb
theorem pItoaY (y : Nat) (w : World) (hv : Vars w) (h1 : 1000 ≤ y) (h2 : y ≤ 9999) : Calls Tryd.prog 23 #[.int .i64 (y : Int)] w fun e w' => e = .returned (S (twoD (y / 100) ++ twoD (y % 100))) ∧ Below w.heap.size w w' := by
  rw [← dec_four h1 h2]
  exact (Tryd.strconv_Itoa (y : Int) (by omega) (by omega) w hv.pow).mono fun e w' x => ⟨x.1, by obtain ⟨k, os, rfl⟩ := x.2; exact grow_bel w k os⟩
set_option maxHeartbeats 1600000 in
set_option maxRecDepth 100000 in
theorem pTwo (n : Nat) (w : World) (hn : n ≤ 99) : Calls Tryd.prog 24 #[.int .i64 (n : Int)] w fun e w' => e = .returned (S (twoD n)) ∧ w = w' := by
  have HI := Lib.hid (pItoa n w (by omega))
  by_cases h : n < 10
  · have i1 : (n : Int) < 10 := by omega
    have HZ : Hid ((.string ((⟨#[48]⟩ : ByteArray) ++ ⟨(dgD n).toArray⟩) : Value) = S (twoD n)) := by
      show _ = _
      have e : (⟨#[48]⟩ : ByteArray) ++ ⟨(dgD n).toArray⟩ = ⟨(twoD n).toArray⟩ := by
        apply ByteArray.ext
        rw [ByteArray.data_append]
        unfold dgD twoD
        rw [if_pos h, show n / 10 = 0 by omega]
        simp
      rw [e]
    have lz : (dgD n).length ≤ 2 := by unfold dgD; rw [if_pos h]; simp
    generalize dgD n = D at HI HZ lz
    generalize twoD n = T at HZ
    clear h
    go_enter Tryd.func24, Tryd.ntmps24
    go_wp2_with (first | (go_at_call 23; refine HI.out.mono ?_; rintro ee w1 ⟨rfl, rfl⟩; refine Hid.out ?_) | fail)
    refine Lib.hid ?_
    go_wp2
    go_ret
    rw [← HZ.out]
    exact ⟨rfl, rfl⟩
  · have i1 : ¬ (n : Int) < 10 := by omega
    have hz : dgD n = twoD n := by unfold dgD; rw [if_neg h]
    rw [hz] at HI
    generalize twoD n = T at HI
    clear h hz
    go_enter Tryd.func24, Tryd.ntmps24
    go_wp2_with (first | (go_at_call 23; refine HI.out.mono ?_; rintro ee w1 ⟨rfl, rfl⟩; refine Hid.out ?_) | fail)
    refine Lib.hid ?_
    go_wp2
    go_ret
    exact ⟨rfl, rfl⟩
end Go.Proofs.YtklhgaioolamfaaDoor.Date
