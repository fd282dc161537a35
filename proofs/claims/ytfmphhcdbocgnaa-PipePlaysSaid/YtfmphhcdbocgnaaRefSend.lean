/-
  The document's Send and Take.
-/
import Derived.Test.YtfmphhcdbocgnaaRefOpen
import Derived.Deep.RegionLaw
import Derived.Outline
namespace Go.Proofs.Ytfmphhcdbocgnaa.Pipe
open Go.RowKit Base
section
variable {own : Nat → Tag} {w : World} {g : Nat} {rv : Value} {Rs : List (PA × RG)} {f t : ByteArray}
theorem flat_set (Rs : List (PA × RG)) (i : Nat) (p : PA × RG) (hp : Rs[i]? = some p) (q : List (List UInt8)) (lv : Value) (vs : List Value) :
    (Rs.set i ({ p.1 with q := q }, ⟨lv, vs⟩)).flatMap cells4 = (Rs.flatMap cells4).set (i * 4 + 3) lv := by
  induction Rs generalizing i with
  | nil => simp at hp
  | cons x r ih =>
    cases i with
    | zero =>
      simp at hp; subst hp
      simp [cells4]
    | succ k =>
      have := ih k (by simpa using hp)
      rw [List.set_cons_succ, List.flatMap_cons, List.flatMap_cons, this, List.set_append_right _ _ (by simp [cells4]; omega)]
      rw [show (k + 1) * 4 + 3 - (cells4 x).length = k * 4 + 3 by simp [cells4]; omega]
/-- One of them has turned: its list's value is another one. -/
theorem RHolds.turned {rb c : Nat} (h : RHolds own w g (.slice (some ⟨rb, 0, none⟩) Rs.length c) Rs) {i : Nat} {p : PA × RG} (hp : Rs[i]? = some p) {own' : Nat → Tag} {w1 : World} {q : List (List UInt8)} {lv : Value} {vs : List Value}
    (hk : ∀ b t, own b = .r t → t ≠ .lrow i → own' b = .r t ∧ w1.heap[b]? = w.heap[b]?) (hf : ∀ b, w1.heap.size ≤ b → own' b = .no)
    (hrow : w1.ownsRow 0 29 1 lv q.length vs) (hrowO : ∀ b, lv.ownBlock = some b → own' b = .r (.lrow i)) (hlen : vs.length = q.length)
    (hmsgs : ∀ (j : Nat) (v : Value) (l : List UInt8), vs[j]? = some v → q[j]? = some l → Owns w1 0 v l ∧ ∀ b, v.ownBlock = some b → own' b = .r .msg) :
    RHolds own' (w1.setCell ⟨rb, i * 4 + 3, none⟩ lv) g (.slice (some ⟨rb, 0, none⟩) (Rs.set i ({ p.1 with q := q }, ⟨lv, vs⟩)).length c) (Rs.set i ({ p.1 with q := q }, ⟨lv, vs⟩)) := by
  have hil := (List.getElem?_eq_some_iff.1 hp).1
  have hrb : own rb = .r .row := h.rowOwn rb rfl
  have hgrb : g ≠ rb := fun e => by have := h.rootOwn; rw [e, hrb] at this; cases this
  have hbk : ∀ b, b ≠ rb → (w1.setCell ⟨rb, i * 4 + 3, none⟩ lv).heap[b]? = w1.heap[b]? := fun b hb => Below.heap_setCell _ _ _ _ hb
  have hsz : (w1.setCell ⟨rb, i * 4 + 3, none⟩ lv).heap.size = w1.heap.size := by simp [World.setCell]
  refine ⟨?_, (hk _ _ h.rootOwn (by simp)).1, ?_, fun b hb => by cases hb; exact (hk _ _ hrb (by simp)).1, fun j x hx => ?_, fun b hb => hf b (by rw [← hsz]; exact hb)⟩
  · rw [hbk g hgrb, (hk _ _ h.rootOwn (by simp)).2, List.length_set]; exact h.root
  · have h1 : w1.ownsRow 0 62 4 (.slice (some ⟨rb, 0, none⟩) Rs.length c) Rs.length (Rs.flatMap cells4) := row_kept h.row fun b hb => by cases hb; exact (hk _ _ hrb (by simp)).2
    have h2 := (World.ownsRow.stored h1 (i * 4 + 3) lv).1
    rw [← flat_set Rs i p hp q lv vs] at h2
    rw [List.length_set]
    exact h2
  · rw [List.getElem?_set] at hx
    by_cases hij : i = j
    · subst hij
      rw [if_pos rfl, if_pos hil] at hx
      cases hx
      refine ⟨row_kept hrow fun b hb => hbk b (fun e => ?_), hrowO, hlen, fun j v l h1 h2 => ?_⟩
      · have h1 := hrowO b hb; have h2 := (hk _ _ hrb (by simp)).1; rw [e, h2] at h1; cases h1
      · obtain ⟨m1, m2⟩ := hmsgs j v l h1 h2
        refine ⟨Owns.keptO m1 fun b hb => hbk b (fun e => ?_), m2⟩
        have h1 := m2 b hb; have h2 := (hk _ _ hrb (by simp)).1; rw [e, h2] at h1; cases h1
    · rw [if_neg hij] at hx
      refine (h.pipes j x hx).kept fun b t ht hc => ?_
      have hne : t ≠ .lrow i := fun e => by rcases hc with hc | hc <;> rw [hc] at e <;> cases e; exact hij rfl
      obtain ⟨k1, k2⟩ := hk b t ht hne
      refine ⟨k1, (hbk b (fun e => ?_)).trans k2⟩
      rw [e, hrb] at ht; cases ht; rcases hc with hc | hc <;> cases hc
end
end Go.Proofs.Ytfmphhcdbocgnaa.Pipe
