/-
  How many are in a pipe, and how many more fit.
-/
import Derived.Test.YtfmphhcdbocgnaaPipeSt
namespace Go.Proofs.Ytfmphhcdbocgnaa.Pipe
open Go.RowKit Base
section
variable {own : Nat → Tag} {w : World} {g mb : Nat} {Ps : List (PA × PG)}
theorem below_drewN (B : Nat) (w : World) (n : Nat) : Below B w (w.drewN n) := ⟨rfl, rfl, rfl, Nat.le_refl _, fun _ _ => rfl⟩
theorem ret_int {k : IntKind} {a b : Int} (h : a = b) : Ending.returned (.int k a) = .returned (.int k b) := by rw [h]
theorem cLen (h : Holds own w g mb Ps) {i : Nat} {p : PA × PG} (hp : Ps[i]? = some p) :
    Calls Try.prog 13 #[.pointer (some ⟨g, 0, none⟩), .string p.1.f, .string p.1.t] w (fun e w' => e = .returned (.int .i64 (p.1.q.length : Int)) ∧ w = w') := by
  have hc := h.cell
  have hl := h.find hp
  have hP := h.pipes i p hp
  obtain ⟨a, c, hsv, _⟩ := row_form hP.row
  obtain ⟨c0, c1, _⟩ := hP.cells
  rw [hsv] at c1
  clear hsv
  go_enter Try.func13, Try.ntmps13
  go_wp2
  go_ret
  exact ⟨rfl, rfl⟩
theorem cLenNo (h : Holds own w g mb Ps) {f t : ByteArray} (hf : f.size ≤ maxLen) (ht : t.size ≤ maxLen) (hn : ∀ p ∈ Ps, ¬ (p.1.f = f ∧ p.1.t = t)) :
    Calls Try.prog 13 #[.pointer (some ⟨g, 0, none⟩), .string f, .string t] w (fun e w' => e = .returned (.int .i64 0) ∧ w = w') := by
  have hc := h.cell
  have hl := h.none hf ht hn
  clear hn
  go_enter Try.func13, Try.ntmps13
  go_wp2
  go_ret
  exact ⟨rfl, rfl⟩
theorem cRoom (h : Holds own w g mb Ps) {i : Nat} {p : PA × PG} (hp : Ps[i]? = some p) :
    Calls Try.prog 14 #[.pointer (some ⟨g, 0, none⟩), .string p.1.f, .string p.1.t] w (fun e w' => e = .returned (.int .i64 ((p.1.most : Int) - (p.1.q.length : Int))) ∧ Below w.heap.size w w') := by
  have hc := h.cell
  have hl := h.find hp
  have hP := h.pipes i p hp
  obtain ⟨a, c, hsv, _⟩ := row_form hP.row
  obtain ⟨c0, c1, _⟩ := hP.cells
  rw [hsv] at c1
  clear hsv
  have b1 := hP.most2
  have b2 := hP.fits
  go_enter Try.func14, Try.ntmps14
  go_wp2
  go_quiet (fail)
  go_wp2
  go_ret
  exact ⟨ret_int (by first | rfl | (simp; done)), below_drewN _ _ _⟩
theorem cRoomNo (h : Holds own w g mb Ps) {f t : ByteArray} (hf : f.size ≤ maxLen) (ht : t.size ≤ maxLen) (hn : ∀ p ∈ Ps, ¬ (p.1.f = f ∧ p.1.t = t)) :
    Calls Try.prog 14 #[.pointer (some ⟨g, 0, none⟩), .string f, .string t] w (fun e w' => e = .returned (.int .i64 0) ∧ w = w') := by
  have hc := h.cell
  have hl := h.none hf ht hn
  clear hn
  go_enter Try.func14, Try.ntmps14
  go_wp2
  go_ret
  exact ⟨rfl, rfl⟩
end
end Go.Proofs.Ytfmphhcdbocgnaa.Pipe
