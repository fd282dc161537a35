/-
  LINES, LinesPieces: two readers side by side.
-/
import Derived.Test.YtgiooblopdoobaaLpBackW
namespace Go.Proofs.Ytgiooblopdoobaa.Lines
open Go.RowKit Base
structure TwoAt (w W : World) (g : Nat) (vr : Value) (g2 : Nat) (vs : Value) (most sr ss : Nat) (lr ls : List UInt8) : Prop where
  r : PdAt W g vr most sr lr
  s : PdAt W g2 vs most ss ls
  below : Below w.heap.size w W
  g0 : w.heap.size ≤ g
  g20 : w.heap.size ≤ g2
  v0 : NewV w.heap.size vr
  v20 : NewV w.heap.size vs
  ne : g ≠ g2
  rs : vr.ownBlock ≠ some g2
  sr : vs.ownBlock ≠ some g
  vv : ∀ b, vr.ownBlock = some b → vs.ownBlock ≠ some b
theorem PdAt.keptR {A B : World} {g g2 most s : Nat} {v v2 : Value} {l : List UInt8} (h : PdAt A g v most s l) (hk : KeepR g2 v2 A B) (h1 : g ≠ g2) (h2 : v2.ownBlock ≠ some g) (h3 : v.ownBlock ≠ some g2) (h4 : ∀ b, v.ownBlock = some b → v2.ownBlock ≠ some b) : PdAt B g v most s l :=
  h.on hk.size (hk.block g (heap_lt h.1) h1 h2) fun b hb => hk.block b (h.2.1.ge b hb).2 (fun e => h3 (by rw [hb, e])) (h4 b hb)
section
variable {w W W' : World} {g g2 most sr ss : Nat} {vr vs : Value} {lr ls : List UInt8}
theorem TwoAt.stepR (h : TwoAt w W g vr g2 vs most sr ss lr ls) {vr' : Value} {sr' : Nat} {lr' : List UInt8} (hk : KeepR g vr W W') (hp : PdAt W' g vr' most sr' lr') (hs : SameOrNew vr vr' W.heap.size) : TwoAt w W' g vr' g2 vs most sr' ss lr' ls :=
  ⟨hp, h.s.keptR hk h.ne.symm h.rs h.sr (fun b hb e => h.vv b e hb), h.below.trans (hk.below h.g0 h.v0 h.below.size), h.g0, h.g20, h.v0.next hs h.below.size, h.v20, h.ne, fun e => by
    rcases hs with x | x
    · exact h.rs (by rw [← x]; exact e)
    · have := x g2 e; have := heap_lt h.s.1; omega, h.sr, fun b hb e => by
    rcases hs with x | x
    · exact h.vv b (by rw [← x]; exact hb) e
    · have := x b hb; have := (h.s.2.1.ge b e).2; omega⟩
theorem TwoAt.stepS (h : TwoAt w W g vr g2 vs most sr ss lr ls) {vs' : Value} {ss' : Nat} {ls' : List UInt8} (hk : KeepR g2 vs W W') (hp : PdAt W' g2 vs' most ss' ls') (hs : SameOrNew vs vs' W.heap.size) : TwoAt w W' g vr g2 vs' most sr ss' lr ls' :=
  ⟨h.r.keptR hk h.ne h.sr h.rs h.vv, hp, h.below.trans (hk.below h.g20 h.v20 h.below.size), h.g0, h.g20, h.v0, h.v20.next hs h.below.size, h.ne, h.rs, fun e => by
    rcases hs with x | x
    · exact h.sr (by rw [← x]; exact e)
    · have := x g e; have := heap_lt h.r.1; omega, fun b hb e => by
    rcases hs with x | x
    · exact h.vv b hb (by rw [← x]; exact e)
    · have := x b e; have := (h.r.2.1.ge b hb).2; omega⟩
end
theorem pNextF {g : Nat} {v : Value} {most s : Nat} {l : List UInt8} {w : World} (h : PdAt w g v most s l) (hl : l.length ≤ 200000000000000) (hs : s ≤ endOf l) (h1 : endOf l < l.length) :
    Calls Try.prog 12 #[.pointer (some ⟨g, 0, none⟩)] w fun e w' => ∃ u v', e = .returned (.tuple #[u, .int .i64 ((lineTold most (l.take (endOf l))).2 : Int), .bool true]) ∧ Owns w' w.heap.size u (lineTold most (l.take (endOf l))).1 ∧ KeepR g v w w' ∧ PdAt w' g v' most 0 (l.drop (endOf l + 1)) ∧ SameOrNew v v' w.heap.size := by
  refine (pNext g v most s l w hl h hs).mono fun e w' h => ?_
  unfold PNextEnd at h
  rw [if_pos h1] at h
  obtain ⟨u, v', a1, a2, a3, a4, a5⟩ := h
  exact ⟨u, v', a1, a2, a3, a4, Or.inl a5⟩
theorem pNextM {g : Nat} {v : Value} {most s : Nat} {l : List UInt8} {w : World} (h : PdAt w g v most s l) (hl : l.length ≤ 200000000000000) (hs : s ≤ endOf l) (h1 : ¬ endOf l < l.length) :
    Calls Try.prog 12 #[.pointer (some ⟨g, 0, none⟩)] w fun e w' => e = .returned (.tuple #[.slice none 0 0, .int .i64 0, .bool false]) ∧ KeepR g v w w' ∧ PdAt w' g v most l.length l := by
  refine (pNext g v most s l w hl h hs).mono fun e w' h => ?_
  unfold PNextEnd at h
  rw [if_neg h1] at h
  exact h
theorem endOf_pre : ∀ (a b : List UInt8), endOf a < a.length → endOf (a ++ b) = endOf a
  | [], b, h => by simp at h
  | c :: a, b, h => by
    rw [List.cons_append, endOf, endOf]
    rw [endOf, List.length_cons] at h
    split
    · rfl
    · rw [if_neg ‹_›] at h
      rw [endOf_pre a b (by omega)]
theorem endOf_no : ∀ (a b : List UInt8), ¬ endOf a < a.length → a.length ≤ endOf (a ++ b)
  | [], b, _ => by simp
  | c :: a, b, h => by
    rw [List.cons_append, endOf]
    rw [endOf, List.length_cons] at h
    split
    · rename_i hc; rw [if_pos hc] at h; omega
    · rename_i hc
      rw [if_neg hc] at h
      have := endOf_no a b (by omega)
      rw [List.length_cons]; omega
/-- A piece of bytes that came in, as the program cuts it. -/
theorem reads_piece {w : World} {A : Option Addr} {n q a c : Nat} {l : List UInt8} (h : Reads w (.slice A n q) l) (ha : a ≤ c) (hc : c ≤ n) : Reads w (.slice (if q = a then A else Option.map (fun x => x.add a) A) (c - a) (q - a)) ((l.drop a).take (c - a)) := by
  obtain ⟨hn, _⟩ := reads_len h
  subst hn
  exact reads_cutA (h.tail (by omega)) (c - a) (by rw [List.length_drop]; omega)
theorem reads_rest {w : World} {A : Option Addr} {n q a : Nat} {l : List UInt8} (h : Reads w (.slice A n q) l) (ha : a ≤ n) : Reads w (.slice (if q = a then A else Option.map (fun x => x.add a) A) (n - a) (q - a)) (l.drop a) := by
  obtain ⟨hn, _⟩ := reads_len h
  subst hn
  exact h.tail (by omega)
end Go.Proofs.Ytgiooblopdoobaa.Lines
