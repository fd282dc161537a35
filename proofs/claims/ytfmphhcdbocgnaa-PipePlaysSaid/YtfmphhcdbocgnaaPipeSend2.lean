/-
  What is sent and refused; New.
-/
import Derived.Test.YtfmphhcdbocgnaaPipeSend
namespace Go.Proofs.Ytfmphhcdbocgnaa.Pipe
open Go.RowKit Base
section
variable {own : Nat → Tag} {w : World} {g mb : Nat} {Ps : List (PA × PG)}
def AnsEnd (n : Int) (w : World) (e : Ending) (w' : World) : Prop := e = .returned (.int .i64 n) ∧ Below w.heap.size w w'
theorem cSendNo (h : Holds own w g mb Ps) {f t : ByteArray} (hf : f.size ≤ maxLen) (ht : t.size ≤ maxLen) (hn : ∀ p ∈ Ps, ¬ (p.1.f = f ∧ p.1.t = t)) (v : Value) :
    Calls Try.prog 11 #[.pointer (some ⟨g, 0, none⟩), .string f, .string t, v] w (AnsEnd 52 w) := by
  have hc := h.cell
  have hl := h.none hf ht hn
  clear hn
  go_enter Try.func11, Try.ntmps11
  go_wp2
  go_ret
  exact ⟨rfl, Below.refl _ _⟩
theorem cSendLong (h : Holds own w g mb Ps) {i : Nat} {p : PA × PG} (hp : Ps[i]? = some p) {v : Value} {l : List UInt8} (hr : Reads w v l) (hl : 65536 < l.length) :
    Calls Try.prog 11 #[.pointer (some ⟨g, 0, none⟩), .string p.1.f, .string p.1.t, v] w (AnsEnd 53 w) := by
  have hc := h.cell
  have hfind := h.find hp
  obtain ⟨va, vc, hv⟩ := hr.form
  subst hv
  have hl' : (65536 : Int) < (l.length : Int) := by omega
  go_enter Try.func11, Try.ntmps11
  go_wp2
  go_ret
  exact ⟨rfl, Below.refl _ _⟩
theorem cSendFull (h : Holds own w g mb Ps) {i : Nat} {p : PA × PG} (hp : Ps[i]? = some p) {v : Value} {l : List UInt8} (hr : Reads w v l) (hl : l.length ≤ 65536) (hroom : p.1.q.length = p.1.most) :
    Calls Try.prog 11 #[.pointer (some ⟨g, 0, none⟩), .string p.1.f, .string p.1.t, v] w (AnsEnd 51 w) := by
  have hc := h.cell
  have hfind := h.find hp
  have hP := h.pipes i p hp
  obtain ⟨va, vc, hv⟩ := hr.form
  subst hv
  obtain ⟨a, c, hsv, _⟩ := row_form hP.row
  obtain ⟨c0, c1, c2⟩ := hP.cells
  rw [hsv] at c1
  have hl' : (l.length : Int) ≤ 65536 := by omega
  have d1 : (((p.1.q.length : Nat) : Int) == (p.1.most : Int)) = true := by rw [beq_iff_eq]; omega
  clear hsv hroom
  go_enter Try.func11, Try.ntmps11
  go_wp2_with fail
  go_quiet (fail)
  go_wp2
  go_ret
  exact ⟨rfl, below_drewN _ _ _⟩
end
def NewEnd (own : Nat → Tag) (w : World) (e : Ending) (w' : World) : Prop :=
  ∃ g mb own', e = .returned (.pointer (some ⟨g, 0, none⟩)) ∧ Holds own' w' g mb [] ∧ Step own w own' w'
theorem cNew (own : Nat → Tag) (w : World) : Calls Try.prog 6 #[] w (NewEnd own w) := by
  have hmm := @run_makeMap Try.prog
  go_enter Try.func6, Try.ntmps6
  go_wp2
  go_ret
  refine ⟨_, w.heap.size, fun b => if b < w.heap.size then own b else if b = w.heap.size then .p .map else if b = w.heap.size + 1 then .p .root else .no, rfl, ⟨?_, ?_, ?_, ?_, fun i p hp => ?_, fun b hb => ?_⟩, ?_⟩
  · have := (MapKept.heap_alloc (w.alloc (.map #[] 0)) (.cells #[.map (some w.heap.size)] 44)).1
    simpa using this
  · rw [if_neg (by simp), if_neg (by simp), if_pos (by simp)]
  · exact (MapIs.made w Try.prog 52).kept ((MapKept.heap_alloc _ _).2 _ (by simp))
  · simp
  · simp at hp
  · simp at hb; rw [if_neg (by omega), if_neg (by omega), if_neg (by omega)]
  · have hb : Below w.heap.size w ((w.alloc (.map #[] 0)).alloc (.cells #[.map (some w.heap.size)] 44)) := (Below.alloc1 _ _).trans ((Below.alloc1 _ _).mono (by simp))
    exact ⟨hb.os, hb.tape, hb.output, hb.size, fun b h _ => hb.block b h, fun b h _ => by rw [if_pos h]⟩
end Go.Proofs.Ytfmphhcdbocgnaa.Pipe
