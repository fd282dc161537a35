/-
  CODEC, THE PLAIN PART: what a reader of a number answers, as a function of the bytes. No program is imported.
-/
import Derived.WalkKit
namespace Go.Proofs.YthoeicidilnleaaDoor.Codec
open Go.RowKit

def takeFrom (e d m : Int) : List UInt8 → Nat → Int → Int × Int × Int
  | [], _, _ => (0, 0, 20)
  | c :: r, i, n =>
    if (c.toNat : Int) = e ∧ 0 < i then (if m < n then (0, 0, 22) else (n, (i : Int) + 1, 0))
    else if (c.toNat : Int) < 48 ∨ 57 < (c.toNat : Int) ∨ (i : Int) = d ∨ (i = 1 ∧ n = 0) then (0, 0, 21)
    else takeFrom e d m r (i + 1) (10 * n + ((c.toNat : Int) - 48))
def TakeEnd (r : Int × Int × Int) (w : World) (e : Ending) (w' : World) : Prop := e = .returned (.tuple #[.int .i64 r.1, .int .i64 r.2.1, .int .i64 r.2.2]) ∧ w = w'

/-- One round: the byte that stands there, and what the specification makes of it. -/
theorem take_round (e d m : Int) (l : List UInt8) (k : Nat) (N : Int) (hk : k < l.length) :
    ∃ c : Int, 0 ≤ c ∧ c ≤ 255 ∧ ((l.getD k 0).toNat : Int) = c ∧
      (c = e → 0 < k → m < N → takeFrom e d m (l.drop k) k N = (0, 0, 22)) ∧
      (c = e → 0 < k → ¬ m < N → takeFrom e d m (l.drop k) k N = (N, (k : Int) + 1, 0)) ∧
      (¬ (c = e ∧ 0 < k) → (c < 48 ∨ 57 < c ∨ (k : Int) = d ∨ (k = 1 ∧ N = 0)) → takeFrom e d m (l.drop k) k N = (0, 0, 21)) ∧
      (¬ (c = e ∧ 0 < k) → ¬ (c < 48 ∨ 57 < c ∨ (k : Int) = d ∨ (k = 1 ∧ N = 0)) → takeFrom e d m (l.drop k) k N = takeFrom e d m (l.drop (k + 1)) (k + 1) (10 * N + (c - 48))) := by
  have hx : l.getD k 0 = l[k] := by simp [List.getD, List.getElem?_eq_getElem hk]
  have hb := l[k].toNat_lt
  refine ⟨(l[k].toNat : Int), by omega, by omega, by rw [hx], ?_, ?_, ?_, ?_⟩
  · intro h1 h2 h3; rw [List.drop_eq_getElem_cons hk, takeFrom, if_pos ⟨h1, h2⟩, if_pos h3]
  · intro h1 h2 h3; rw [List.drop_eq_getElem_cons hk, takeFrom, if_pos ⟨h1, h2⟩, if_neg h3]
  · intro h1 h2; rw [List.drop_eq_getElem_cons hk, takeFrom, if_neg h1, if_pos h2]
  · intro h1 h2; rw [List.drop_eq_getElem_cons hk, takeFrom, if_neg h1, if_neg h2]

theorem pow_step {k : Nat} {N c : Int} (h0 : 0 ≤ N) (h : N < 10 ^ k) (c0 : 48 ≤ c) (c1 : c ≤ 57) : 0 ≤ 10 * N + (c - 48) ∧ 10 * N + (c - 48) < 10 ^ (k + 1) := by
  rw [Int.pow_succ]; omega
theorem pow_step' {k : Nat} {N c : Int} (h0 : 0 ≤ N) (h : N < 10 ^ k) (c0 : 48 ≤ c) (c1 : c ≤ 57) : 0 ≤ 10 * N + c - 48 ∧ 10 * N + c - 48 < 10 ^ (k + 1) ∧ 10 * N + (c - 48) = 10 * N + c - 48 := by
  rw [Int.pow_succ]; omega
theorem pow_le {k : Nat} {N d : Int} (h : N < 10 ^ k) (hk : (k : Int) ≤ d) (hd : d ≤ 16) : N < 10000000000000000 := by
  have h2 : (10 : Nat) ^ k ≤ 10 ^ 16 := Nat.pow_le_pow_right (by omega) (by omega)
  have e : ((10 ^ k : Nat) : Int) = (10 : Int) ^ k := by simp
  have e2 : (10 : Nat) ^ 16 = 10000000000000000 := by decide
  omega
end Go.Proofs.YthoeicidilnleaaDoor.Codec
