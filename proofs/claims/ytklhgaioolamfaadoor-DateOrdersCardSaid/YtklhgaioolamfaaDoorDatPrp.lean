/-
  DATE, what Parse tells, plainly.
-/
import Derived.Test.YtklhgaioolamfaaDoorDatAhd
import Derived.Deep.CutBlock
import Derived.Deep.DeepCutAuto
namespace Go.Proofs.YtklhgaioolamfaaDoor.Date
open Go.RowKit Base
def outV : Option Int → Value
  | none => .tuple #[.int .i64 0, .int .i64 130]
  | some t => .tuple #[.int .i64 t, .int .i64 0]
def ParseEnd (l : List UInt8) (w : World) (e : Ending) (w' : World) : Prop := e = .returned (outV (parseD l)) ∧ Below w.heap.size w w'
/-- What a name of a day is. -/
theorem placeF_le (names s : List UInt8) : ∀ (f i : Nat), -1 ≤ placeF names s f i ∧ placeF names s f i < (i + f : Int)
  | 0, i => ⟨Int.le_refl _, by show (-1 : Int) < _; omega⟩
  | f + 1, i => by
    rw [placeF]
    split
    · omega
    · have := placeF_le names s f (i + 1)
      omega
theorem place_le (names s : List UInt8) (K : Nat) (h : names.length = 3 * K) (hK : 1 ≤ K) : -1 ≤ placeD names s ∧ placeD names s < (K : Int) := by
  unfold placeD
  split
  · omega
  · have := placeF_le names s (names.length / 3) 0
    omega
abbrev dayS : ByteArray := ⟨#[83, 117, 110, 77, 111, 110, 84, 117, 101, 87, 101, 100, 84, 104, 117, 70, 114, 105, 83, 97, 116]⟩
abbrev monS : ByteArray := ⟨#[74, 97, 110, 70, 101, 98, 77, 97, 114, 65, 112, 114, 77, 97, 121, 74, 117, 110, 74, 117, 108, 65, 117, 103, 83, 101, 112, 79, 99, 116, 78, 111, 118, 68, 101, 99]⟩
theorem rDay3 (s : ByteArray) (w : World) : Calls Tryd.prog 28 #[.string dayS, .string s] w fun e w' => e = .returned (.int .i64 (placeD dayB s.data.toList)) ∧ Below w.heap.size w w' := rPlace dayS s 7 w rfl (by decide)
theorem rMon3 (s : ByteArray) (w : World) : Calls Tryd.prog 28 #[.string monS, .string s] w fun e w' => e = .returned (.int .i64 (placeD monB s.data.toList)) ∧ Below w.heap.size w w' := rPlace monS s 12 w rfl (by decide)
theorem nameD_cons (x : List UInt8) (r : List (List UInt8)) : nameD (x :: r) = if x.length = 4 ∧ (x.getD 3 0).toNat = 44 then (if placeD dayB (x.take 3) < 0 then none else some (placeD dayB (x.take 3), r)) else some (-1, x :: r) := rfl
theorem numD_le (l : List UInt8) (a b : Nat) (hb : b ≤ 2) : numD l a b ≤ 99 := by
  unfold numD
  split
  · omega
  · have h := numG_le l 0
    rcases (by omega : l.length = 0 ∨ l.length = 1 ∨ l.length = 2) with e | e | e <;> rw [e] at h <;> simp at h <;> omega
theorem numD_le4 (l : List UInt8) : numD l 4 4 ≤ 9999 := by
  unfold numD
  split
  · omega
  · have h := numG_le l 0
    rw [show l.length = 4 by omega] at h
    simp at h; omega
theorem clock_le (l : List UInt8) : -1 ≤ clockD l ∧ clockD l ≤ 86399 := by
  unfold clockD
  split
  · unfold timeOf
    split
    · omega
    · omega
  · omega
theorem zone_le (l : List UInt8) : -86340 ≤ (zoneD l).1 ∧ (zoneD l).1 ≤ 86340 := by
  unfold zoneD
  split
  · simp
  · split
    · simp
    · unfold zoneOf
      split
      · simp
      · split
        · dsimp only; omega
        · dsimp only; omega
theorem tick_no {nm d m y t : Int} {z : Int × Bool} (x : d < 1 ∨ m < 1 ∨ y < 0 ∨ t < 0 ∨ z.2 = false) : tickD nm d m y t z = none := if_pos x
theorem tick_at (nm : Int) (d k y : Nat) (t z : Int) (hd : 1 ≤ d) (ht : 0 ≤ t) : tickD nm d ((k : Int) + 1) y t (z, true) = if (md y (k + 1) : Int) < d then none
    else if 0 ≤ nm ∧ Int.tmod (Int.tmod (aheadZ y (k + 1) d + 4) 7 + 7) 7 ≠ nm then none
    else if 86400 * aheadZ y (k + 1) d + t - z < 0 ∨ 253402300799 < 86400 * aheadZ y (k + 1) d + t - z then none
    else some (86400 * aheadZ y (k + 1) d + t - z) := by
  unfold tickD
  rw [if_neg (by rintro (h | h | h | h | h) <;> first | omega | cases h)]
  rw [show ((k : Int) + 1).toNat = k + 1 by omega, Int.toNat_natCast, Int.toNat_natCast]
theorem ahead_le (y m d : Nat) (hy : y ≤ 9999) (hm : m ≤ 12) (hd : d ≤ 99) : -800000 ≤ aheadZ y m d ∧ aheadZ y m d ≤ 5000000 := by
  have h1 := befM_le y (m - 1)
  have h2 := befY_le (y - 1970)
  have h3 := revF_le y (1970 - y)
  unfold aheadZ
  omega
/-- Does a name of a day stand first? -/
def namedB : List (List UInt8) → Bool
  | [] => false
  | x :: _ => decide (x.length = 4 ∧ (x.getD 3 0).toNat = 44)
theorem named_no {ws : List (List UInt8)} (h : namedB ws = false) : nameD ws = some (-1, ws) := by
  cases ws with
  | nil => rfl
  | cons x t => rw [nameD_cons, if_neg (of_decide_eq_false h)]
theorem named_yes {ws : List (List UInt8)} (h : namedB ws = true) : ∃ x t, ws = x :: t ∧ x.length = 4 ∧ nameD (x :: t) = if placeD dayB (x.take 3) < 0 then none else some (placeD dayB (x.take 3), t) := by
  cases ws with
  | nil => cases h
  | cons x t =>
    have h2 : x.length = 4 ∧ (x.getD 3 0).toNat = 44 := of_decide_eq_true h
    exact ⟨x, t, rfl, h2.1, by rw [nameD_cons, if_pos h2]⟩
theorem five_no (nm : Int) {r : List (List UInt8)} (h : r.length ≠ 5) : fiveD nm r = none := by
  match r, h with
  | [], _ => rfl
  | [_], _ => rfl
  | [_, _], _ => rfl
  | [_, _, _], _ => rfl
  | [_, _, _, _], _ => rfl
  | [_, _, _, _, _], h => exact absurd rfl h
  | _ :: _ :: _ :: _ :: _ :: _ :: _, _ => rfl
theorem five_form {r : List (List UInt8)} (h : r.length = 5) : ∃ a b c d e, r = [a, b, c, d, e] := by
  match r, h with
  | [a, b, c, d, e], _ => exact ⟨a, b, c, d, e, rfl⟩
theorem cell_lt {w : World} {b i : Nat} {v : Value} (h : w.cell? ⟨b, i, none⟩ = some v) : b < w.heap.size := by
  rcases Nat.lt_or_ge b w.heap.size with h' | h'
  · exact h'
  · rw [World.cell?, Array.getElem?_eq_none h'] at h; simp at h
end Go.Proofs.YtklhgaioolamfaaDoor.Date
