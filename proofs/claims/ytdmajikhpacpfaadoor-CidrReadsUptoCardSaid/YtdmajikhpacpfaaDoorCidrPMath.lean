/-
  CIDR: bits of an address with its first bits alone (no program).
-/
import Derived.Test.YtdmajikhpacpfaaDoorCidrPFirst
import Derived.Test.YtdmajikhpacpfaaDoorCidrG2
namespace Go.Proofs.YtdmajikhpacpfaaDoor.Cidr
open Go.RowKit Base
theorem cutA_lt (a : List UInt8) (n : Int) : ∀ (k i : Nat), i < k → i < a.length → (cutA a n k).getD i 0 = keepB (a.getD i 0) (n - 8 * (i : Int))
  | 0, _, h, _ => by omega
  | k + 1, i, h, hl => by
    rw [cutA, List.getD_eq_getElem?_getD]
    by_cases e : k = i
    · subst e
      rw [List.getElem?_set_self (by rw [cutA_len]; exact hl)]; rfl
    · rw [List.getElem?_set_ne e, ← List.getD_eq_getElem?_getD, cutA_lt a n k i (by omega) hl]
theorem firstA_len (a : List UInt8) (n : Int) : (firstA a n).length = a.length := cutA_len a n 16
theorem byte_bits (x y : UInt8) (h : ∀ j, j < 8 → x.toNat / 2 ^ (7 - j) % 2 = y.toNat / 2 ^ (7 - j) % 2) : x = y := by
  have e : ∀ z : Fin 256, z.val = z.val / 2 ^ 7 % 2 * 128 + z.val / 2 ^ 6 % 2 * 64 + z.val / 2 ^ 5 % 2 * 32 + z.val / 2 ^ 4 % 2 * 16 + z.val / 2 ^ 3 % 2 * 8 + z.val / 2 ^ 2 % 2 * 4 + z.val / 2 ^ 1 % 2 * 2 + z.val / 2 ^ 0 % 2 := by decide +kernel
  have hx := e ⟨x.toNat, x.toNat_lt⟩
  have hy := e ⟨y.toNat, y.toNat_lt⟩
  have h0 := h 0 (by omega); have h1 := h 1 (by omega); have h2 := h 2 (by omega); have h3 := h 3 (by omega)
  have h4 := h 4 (by omega); have h5 := h 5 (by omega); have h6 := h 6 (by omega); have h7 := h 7 (by omega)
  simp only at hx hy h0 h1 h2 h3 h4 h5 h6 h7
  apply UInt8.toNat_inj.1
  rw [hx, hy, h0, h1, h2, h3, h4, h5, h6, h7]
theorem keep_bit (x : UInt8) (l : Int) (j : Nat) (hj : j < 8) : (keepB x l).toNat / 2 ^ (7 - j) % 2 = if (j : Int) < l then x.toNat / 2 ^ (7 - j) % 2 else 0 := by
  unfold keepB
  split
  · rw [if_neg (by omega)]; simp
  · split
    · obtain ⟨k, rfl⟩ := Int.eq_ofNat_of_zero_le (show 0 ≤ l by omega)
      have e : ∀ (z : Fin 256) (k : Fin 8) (j : Fin 8), (z.val / 2 ^ (8 - k.val) * 2 ^ (8 - k.val) % 256) / 2 ^ (7 - j.val) % 2 = if j.val < k.val then z.val / 2 ^ (7 - j.val) % 2 else 0 := by decide +kernel
      have := e ⟨x.toNat, x.toNat_lt⟩ ⟨k, by omega⟩ ⟨j, hj⟩
      simp only at this
      rw [show (8 - (k : Int)).toNat = 8 - k by omega]
      rw [show (UInt8.ofNat (x.toNat / 2 ^ (8 - k) * 2 ^ (8 - k))).toNat = x.toNat / 2 ^ (8 - k) * 2 ^ (8 - k) % 256 by simp, this]
      by_cases h : j < k
      · rw [if_pos h, if_pos (by omega)]
      · rw [if_neg h, if_neg (by omega)]
    · rw [if_pos (by omega)]
theorem bit_first (a : List UInt8) (ha : a.length = 16) (n j : Nat) (hj : j < 128) : bitA (firstA a n) j = if j < n then bitA a j else 0 := by
  unfold bitA firstA
  rw [cutA_lt a n 16 (j / 8) (by omega) (by omega), keep_bit _ _ _ (by omega)]
  by_cases h : j < n
  · rw [if_pos h, if_pos (by omega)]
  · rw [if_neg h, if_neg (by omega)]
theorem addr_ext {a b : List UInt8} (ha : a.length = 16) (hb : b.length = 16) : a = b ↔ ∀ j, j < 128 → bitA a j = bitA b j := by
  constructor
  · rintro rfl _ _; rfl
  · intro h
    apply List.ext_getElem (by omega)
    intro i h1 h2
    have e : a.getD i 0 = b.getD i 0 := byte_bits _ _ fun j hj => by
      have := h (8 * i + j) (by omega)
      unfold bitA at this
      rwa [show (8 * i + j) / 8 = i by omega, show (8 * i + j) % 8 = j by omega] at this
    simpa [List.getD, List.getElem?_eq_getElem h1, List.getElem?_eq_getElem h2] using e
theorem zeroF_iff (a : List UInt8) : ∀ (n k : Nat), zeroF a n k = true ↔ ∀ j, k ≤ j → j < k + n → bitA a j = 0
  | 0, k => by simp [zeroF]; omega
  | n + 1, k => by
    rw [zeroF, Bool.and_eq_true, zeroF_iff a n (k + 1), beq_iff_eq]
    constructor
    · rintro ⟨h1, h2⟩ j hj hk
      by_cases e : j = k
      · rw [e]; exact h1
      · exact h2 j (by omega) (by omega)
    · intro h
      exact ⟨h k (by omega) (by omega), fun j hj hk => h j (by omega) (by omega)⟩
theorem zeroFrom_iff (a : List UInt8) (k : Nat) : zeroFrom a k = true ↔ ∀ j, k ≤ j → j < 128 → bitA a j = 0 := by
  unfold zeroFrom
  rw [zeroF_iff]
  constructor
  · intro h j h1 h2; exact h j h1 (by omega)
  · intro h j h1 h2; exact h j h1 (by omega)
theorem eqF_iff (a b : List UInt8) : ∀ (n k : Nat), eqF a b n k = true ↔ ∀ j, k ≤ j → j < k + n → bitA a j = bitA b j
  | 0, k => by simp [eqF]; omega
  | n + 1, k => by
    rw [eqF, Bool.and_eq_true, eqF_iff a b n (k + 1), beq_iff_eq]
    constructor
    · rintro ⟨h1, h2⟩ j hj hk
      by_cases e : j = k
      · rw [e]; exact h1
      · exact h2 j (by omega) (by omega)
    · intro h
      exact ⟨h k (by omega) (by omega), fun j hj hk => h j (by omega) (by omega)⟩
theorem eqFrom_iff (a b : List UInt8) (m : Nat) : eqFrom a b m 0 = true ↔ ∀ j, j < m → bitA a j = bitA b j := by
  unfold eqFrom
  rw [eqF_iff]
  constructor
  · intro h j h1; exact h j (by omega) (by omega)
  · intro h j _ h2; exact h j (by omega)
/-- An address is the one that its first bits alone make just if the others are 0. -/
theorem first_right (a : List UInt8) (ha : a.length = 16) (n : Nat) : decide (firstA a n = a) = zeroFrom a n := by
  rw [Bool.eq_iff_iff, decide_eq_true_iff, addr_ext (by rw [firstA_len, ha]) ha, zeroFrom_iff]
  constructor
  · intro h j h1 h2
    have := h j h2
    rw [bit_first a ha n j h2, if_neg (by omega)] at this
    exact this.symm
  · intro h j hj
    rw [bit_first a ha n j hj]
    split
    · rfl
    · exact (h j (by omega) hj).symm
theorem first_within (a b : List UInt8) (ha : a.length = 16) (hb : b.length = 16) (m : Nat) (hm : m ≤ 128) (hz : zeroFrom b m = true) : decide (firstA a m = b) = eqFrom a b m 0 := by
  rw [Bool.eq_iff_iff, decide_eq_true_iff, addr_ext (by rw [firstA_len, ha]) hb, eqFrom_iff]
  have hz2 := (zeroFrom_iff b m).1 hz
  constructor
  · intro h j hj
    have := h j (by omega)
    rwa [bit_first a ha m j (by omega), if_pos hj] at this
  · intro h j hj
    rw [bit_first a ha m j hj]
    split
    · exact h j (by assumption)
    · exact (hz2 j (by omega) hj).symm
end Go.Proofs.YtdmajikhpacpfaaDoor.Cidr
