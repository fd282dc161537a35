/-
  LINES, the given answers: Next: plain.
-/
import Derived.Test.YtgiooblopdoobaaLinFeed
namespace Go.Proofs.Ytgiooblopdoobaa.Lines
open Go.RowKit Base
/-- Where the first line ends (or all bytes). -/
def endOf : List UInt8 → Nat
  | [] => 0
  | c :: r => if c.toNat = 10 then 0 else endOf r + 1
theorem endOf_le : ∀ l : List UInt8, endOf l ≤ l.length
  | [] => Nat.le_refl _
  | c :: r => by have := endOf_le r; rw [endOf, List.length_cons]; split <;> omega
theorem endOf_ne : ∀ (l : List UInt8) (i : Nat), i < endOf l → (l.getD i 0).toNat ≠ 10
  | [], i, h => by simp [endOf] at h
  | c :: r, i, h => by
    rw [endOf] at h
    split at h
    · omega
    · cases i with
      | zero => simpa using ‹¬ c.toNat = 10›
      | succ i => have := endOf_ne r i (by omega); simpa using this
theorem endOf_at : ∀ l : List UInt8, endOf l < l.length → (l.getD (endOf l) 0).toNat = 10
  | [], h => by simp at h
  | c :: r, h => by
    rw [endOf] at h ⊢
    split at h
    · rw [if_pos ‹_›]; simpa using ‹c.toNat = 10›
    · rw [if_neg ‹_›]
      have := endOf_at r (by rw [List.length_cons] at h; omega)
      simpa using this
/-- Without the byte 13 at its end, if it has one. -/
def bareOf (x : List UInt8) : List UInt8 × Bool := if 0 < x.length ∧ (x.getD (x.length - 1) 0).toNat = 13 then (x.take (x.length - 1), true) else (x, false)
/-- What is told of a line, and its code. -/
def tellOf (most : Nat) (y : List UInt8) (ends : Bool) : List UInt8 × Nat :=
  if most < y.length then (y.take most, 120) else if hasB 0 y = true then (y, 122) else if ends = false ∨ hasB 13 y = true then (y, 121) else (y, 0)
def lineTold (most : Nat) (x : List UInt8) : List UInt8 × Nat := tellOf most (bareOf x).1 (bareOf x).2
theorem reads_cut {w : World} {b o n c : Nat} {l : List UInt8} (h : Reads w (.slice (some ⟨b, o, none⟩) n c) l) (k : Nat) (hk : k ≤ l.length) : Reads w (.slice (some ⟨b, o, none⟩) k c) (l.take k) := by
  rcases h with ⟨rfl, a, c', e, _⟩ | ⟨b', o', c', e, h1, h2⟩
  · refine Or.inl ⟨by simp, some ⟨b, o, none⟩, c, ?_, fun h => by cases h⟩
    simp at hk; rw [hk]
  · cases e
    have hl : (l.take k).length = k := by simp; omega
    refine Or.inr ⟨b, o, c, by rw [hl], by omega, fun i hi => ?_⟩
    rw [hl] at hi
    rw [h2 i (by omega)]
    congr 3
    simp [List.getD, List.getElem?_take_of_lt hi]
def NextEnd (g : Nat) (v : Value) (most : Nat) (l : List UInt8) (w : World) (e : Ending) (w' : World) : Prop :=
  if endOf l < l.length then
    ∃ u v', e = .returned (.tuple #[u, .int .i64 ((lineTold most (l.take (endOf l))).2 : Int), .bool true]) ∧ Reads w' u (lineTold most (l.take (endOf l))).1 ∧ (∀ b, u.ownBlock = some b → w.heap.size ≤ b ∧ v'.ownBlock ≠ some b)
      ∧ KeepR g v w w' ∧ RdAt w' g v' most (l.drop (endOf l + 1)) ∧ SameOrNew v v' w.heap.size
  else e = .returned (.tuple #[.slice none 0 0, .int .i64 0, .bool false]) ∧ w = w'
end Go.Proofs.Ytgiooblopdoobaa.Lines
