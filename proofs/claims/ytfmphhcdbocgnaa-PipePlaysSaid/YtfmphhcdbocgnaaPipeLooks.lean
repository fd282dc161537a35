/-
  Both sides show the same.
-/
import Derived.Test.YtfmphhcdbocgnaaPipeDoes2
import Derived.Deep.RegionHeld3
namespace Go.Proofs.Ytfmphhcdbocgnaa.Pipe
open Go.RowKit Base
open Go.Proofs (encStr)
attribute [local go_sem ↓] Go.wp_at_zero Go.wp_at_succ
section
variable {w0 w w' : World} {own own' : Nat → Tag} {g mb gr : Nat} {L : List PA} {Ps : List (PA × PG)} {rv : Value} {Rs : List (PA × RG)} {f t : ByteArray}
/-- The row's cells from k on are as they were. -/
structure Half (b n : Nat) (xs : List Value) (k : Nat) (w wr : World) : Prop where
  sp : Spoilt b n 9 w wr
  rest : ∀ j, k ≤ j → j < n → wr.cell? ⟨b, j, none⟩ = xs[j]?
theorem Half.set {b n k : Nat} {xs : List Value} {w wr : World} (h : Half b n xs k w wr) (u : Value) : Half b n xs (k + 1) w (wr.setCell ⟨b, k, none⟩ u) := by
  refine ⟨h.sp.set u, fun j hj hjn => ?_⟩
  obtain ⟨cur, h1, h2⟩ := h.sp.cells
  have h3 := heap_setCell_any wr b k cur 9 _ u h1
  rw [cell_of_row _ b j _ _ _ h3, ← h.rest j (by omega) hjn, cell_of_row _ b j _ _ _ h1, Array.getElem?_setIfInBounds]
  rw [if_neg (by omega)]
/-- What the loop of 'looks' keeps: the first row is spoilt up to k, the second stands; both are nobody's. -/
def LookR (n : Nat) (xs : List Value) (B : Nat) (A1 A2 : Option Addr) (w3 : World) (k : Nat) (wr : World) : Prop :=
  (n = 0 ∧ wr = w3) ∨ ∃ b b2, A1 = some ⟨b, 0, none⟩ ∧ A2 = some ⟨b2, 0, none⟩ ∧ b ≠ b2 ∧ B ≤ b ∧ Half b n xs k w3 wr ∧ ∀ j, j < n → w3.cell? ⟨b2, j, none⟩ = xs[j]?
theorem look_start {w1 w2 w3 : World} {n : Nat} {xs : List Value} {A1 A2 : Option Addr} {c1 c2 : Nat} {B : Nat} (hB : B ≤ w1.heap.size) (h1 : w2.ownsRow w1.heap.size 9 1 (.slice A1 n c1) n xs) (hb : Below w2.heap.size w2 w3) (h2 : w3.ownsRow w2.heap.size 9 1 (.slice A2 n c2) n xs) : LookR n xs B A1 A2 w3 0 w3 := by
  rcases h1.2 with ⟨_, hn⟩ | ⟨b, cap, cur, he, hb1, hh, hc, _, hs, ht⟩
  · exact Or.inl ⟨hn, rfl⟩
  · cases he
    have hlt : b < w2.heap.size := heap_lt hh
    rw [Nat.mul_one] at hs ht
    rcases h2.2 with ⟨_, hn⟩ | ⟨b2, cap2, cur2, he2, hb2, hh2, hc2, _, hs2, ht2⟩
    · exact Or.inl ⟨hn, rfl⟩
    · cases he2
      rw [Nat.mul_one] at hs2 ht2
      have hh3 := (hb.block b hlt).trans hh
      refine Or.inr ⟨b, b2, rfl, rfl, by omega, by omega, ⟨⟨KeepX.refl _ _, rfl, cur, hh3, by omega⟩, fun j _ hj => ?_⟩, fun j hj => ?_⟩
      · rw [cell_of_row _ b j _ _ _ hh3, ← Array.getElem?_toList, ← ht, List.getElem?_take_of_lt hj]
      · rw [cell_of_row _ b2 j _ _ _ hh2, ← Array.getElem?_toList, ← ht2, List.getElem?_take_of_lt hj]
theorem LookR.cells {n k : Nat} {xs : List Value} {B : Nat} {A1 A2 : Option Addr} {w3 wr : World} (h : LookR n xs B A1 A2 w3 k wr) (hk : k < n) : ∃ b b2, A1 = some ⟨b, 0, none⟩ ∧ A2 = some ⟨b2, 0, none⟩ ∧
    wr.cell? ⟨b, k, none⟩ = xs[k]? ∧ wr.cell? ⟨b2, k, none⟩ = xs[k]? ∧ wr.frozen? ⟨b, k, none⟩ = false ∧ LookR n xs B A1 A2 w3 (k + 1) (wr.setCell ⟨b, k, none⟩ (.string ⟨#[55, 55]⟩)) := by
  rcases h with ⟨h0, _⟩ | ⟨b, b2, e1, e2, hne, hB, hh, h2⟩
  · omega
  · obtain ⟨v, hv, hz⟩ := hh.sp.cell hk
    refine ⟨b, b2, e1, e2, hh.rest k (Nat.le_refl _) hk, ?_, hz, Or.inr ⟨b, b2, e1, e2, hne, hB, hh.set _, h2⟩⟩
    rw [← h2 k hk]
    have h3 := h2 k hk
    obtain ⟨u, hu⟩ : ∃ u, xs[k]? = some u := by
      rw [← hh.rest k (Nat.le_refl _) hk]; exact ⟨v, hv⟩
    rw [hu] at h3
    have hlt : b2 < w3.heap.size := World.block_lt_of_cell? w3 ⟨b2, k, none⟩ h3
    unfold World.cell?
    simp only
    rw [hh.sp.keep.block b2 hlt (fun e => hne e.symm)]
theorem LookR.duo {LP LR : List PA} {n k : Nat} {xs : List Value} {B : Nat} {A1 A2 : Option Addr} {w3 wr : World} (h : LookR n xs B A1 A2 w3 k wr) (hd : Duo w0 w3 own g mb gr LP LR Ps rv Rs) (hno : ∀ b, A1 = some ⟨b, 0, none⟩ → own b = .no) (hB : w0.heap.size ≤ B) : Duo w0 wr own g mb gr LP LR Ps rv Rs := by
  rcases h with ⟨_, rfl⟩ | ⟨b, b2, e1, _, _, hb, hh, _⟩
  · exact hd
  · exact hd.spoil hh.sp.keep hh.sp.size (hno b e1) (by omega)
theorem LookR.box {n k : Nat} {xs : List Value} {B : Nat} {A1 A2 : Option Addr} {w3 wr : World} (h : LookR n xs B A1 A2 w3 k wr) {x : Nat} (hx : x < B) (hlt : x < w3.heap.size) : wr.heap[x]? = w3.heap[x]? := by
  rcases h with ⟨_, rfl⟩ | ⟨b, b2, _, _, _, hb, hh, _⟩
  · rfl
  · exact hh.sp.keep.block x hlt (by omega)
end
end Go.Proofs.Ytfmphhcdbocgnaa.Pipe
