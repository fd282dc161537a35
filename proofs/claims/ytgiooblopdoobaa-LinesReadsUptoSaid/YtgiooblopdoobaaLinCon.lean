/-
  LINES, the given answers: may bytes be a content?
-/
import Derived.Test.YtgiooblopdoobaaLinDot
namespace Go.Proofs.Ytgiooblopdoobaa.Lines
open Go.RowKit Base
def sayOf (bare long : Bool) : Nat := if bare then 121 else if long then 120 else 0
/-- Behind a byte (or none): so many bytes of the line, found bare, found long. -/
def scanG : Option UInt8 → Nat → Bool → Bool → List UInt8 → Nat
  | _, _, bare, long, [] => sayOf bare long
  | p, n, bare, long, c :: r =>
    if c.toNat = 0 then 122
    else if c.toNat = 13 then scanG (some c) (n + 1) (bare || decide (r.head? ≠ some 10)) long r
    else if c.toNat = 10 then scanG (some c) 0 (bare || decide (p ≠ some 13)) (long || decide (999 < n)) r
    else scanG (some c) (n + 1) bare long r
def codeOf (l : List UInt8) : Nat := scanG none 0 (decide (0 < l.length) && decide (l.getLast? ≠ some 10)) false l
def prevOf (l : List UInt8) (k : Nat) : Option UInt8 := if k = 0 then none else some (l.getD (k - 1) 0)
theorem prevOf_succ (l : List UInt8) (k : Nat) : prevOf l (k + 1) = some (l.getD k 0) := by simp [prevOf]
theorem drop_consB {l : List UInt8} {k : Nat} (h : k < l.length) : l.drop k = l.getD k 0 :: l.drop (k + 1) := by
  rw [List.drop_eq_getElem_cons h]
  simp [List.getD, List.getElem?_eq_getElem h]
theorem head_drop {l : List UInt8} {k : Nat} (h : k < l.length) : (l.drop k).head? = some (l.getD k 0) := by
  rw [drop_consB h]; rfl
theorem head_end {l : List UInt8} {k : Nat} (h : l.length ≤ k) : (l.drop k).head? = none := by
  rw [List.drop_eq_nil_of_le h]; rfl
theorem byte_eq {c : UInt8} {n : Nat} (hn : n < 256) : (some c = some (UInt8.ofNat n)) ↔ c.toNat = n := by
  constructor
  · intro h
    have := Option.some.inj h
    rw [this]; simp; omega
  · intro h
    congr 1
    apply UInt8.toNat_inj.1
    simp; omega
theorem last_getD {l : List UInt8} (h : 0 < l.length) : l.getLast? = some (l.getD (l.length - 1) 0) := by
  rw [List.getLast?_eq_getElem?, List.getD, List.getElem?_eq_getElem (show l.length - 1 < l.length by omega)]; rfl
end Go.Proofs.Ytgiooblopdoobaa.Lines
