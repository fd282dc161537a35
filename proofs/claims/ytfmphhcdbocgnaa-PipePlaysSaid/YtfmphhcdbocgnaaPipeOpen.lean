/-
  A pipe is refused.
-/
import Derived.Test.YtfmphhcdbocgnaaPipePorts
import Derived.Test.YtfmphhcdbocgnaaPipeSend2
namespace Go.Proofs.Ytfmphhcdbocgnaa.Pipe
open Go.RowKit Base
section
variable {own : Nat → Tag} {w : World} {g mb : Nat} {Ps : List (PA × PG)}
theorem str_ne_b {f t : ByteArray} (h : ¬ f = t) : (f.toList == t.toList) = false := by
  rw [beq_eq_false_iff_ne, ByteArray.toList_eq, ByteArray.toList_eq]
  exact fun e => h (Go.WideShapes.bytes_inj e)
theorem below_box (w : World) (o : Obj) (n : Nat) : Below w.heap.size w ((w.alloc o).drewN n) := (Below.alloc1 w o).trans (below_drewN _ _ _)
set_option maxRecDepth 100000 in
theorem cOpenBad1 (g : Nat) (f t : ByteArray) (most : Int) (hf : f.size ≤ maxLen) (hb : portB f.data.toList = false) :
    Calls Try.prog 10 #[.pointer (some ⟨g, 0, none⟩), .string f, .string t, .int .i64 most] w (AnsEnd 50 w) := by
  go_enter Try.func10, Try.ntmps10
  go_wp2_with fail
  go_quiet ((go_at_call 24; exact Calls.quiet_of_same ((cIsPort _ _ (by assumption)).mono fun _ _ h => ⟨h.1, h.2.symm⟩)))
  go_wp2
  go_ret
  exact ⟨rfl, below_box _ _ _⟩
set_option maxRecDepth 100000 in
theorem cOpenBad2 (g : Nat) (f t : ByteArray) (most : Int) (hf : f.size ≤ maxLen) (ht : t.size ≤ maxLen) (hb : portB f.data.toList = true) (hb2 : portB t.data.toList = false) :
    Calls Try.prog 10 #[.pointer (some ⟨g, 0, none⟩), .string f, .string t, .int .i64 most] w (AnsEnd 50 w) := by
  go_enter Try.func10, Try.ntmps10
  go_wp2_with fail
  go_quiet ((go_at_call 24; exact Calls.quiet_of_same ((cIsPort _ _ (by assumption)).mono fun _ _ h => ⟨h.1, h.2.symm⟩)))
  go_wp2
  go_ret
  exact ⟨rfl, below_box _ _ _⟩
set_option maxRecDepth 100000 in
theorem cOpenBad3 (g : Nat) (f : ByteArray) (most : Int) (hf : f.size ≤ maxLen) (hb : portB f.data.toList = true) :
    Calls Try.prog 10 #[.pointer (some ⟨g, 0, none⟩), .string f, .string f, .int .i64 most] w (AnsEnd 50 w) := by
  go_enter Try.func10, Try.ntmps10
  go_wp2_with fail
  go_quiet ((go_at_call 24; exact Calls.quiet_of_same ((cIsPort _ _ (by assumption)).mono fun _ _ h => ⟨h.1, h.2.symm⟩)))
  go_wp2
  go_ret
  exact ⟨rfl, below_box _ _ _⟩
set_option maxRecDepth 100000 in
theorem cOpenBad4 (h : Holds own w g mb Ps) {i : Nat} {p : PA × PG} (hp : Ps[i]? = some p) (most : Int) (hf : p.1.f.size ≤ maxLen) (ht : p.1.t.size ≤ maxLen) (hb : portB p.1.f.data.toList = true) (hb2 : portB p.1.t.data.toList = true) (hne : ¬ p.1.f = p.1.t) :
    Calls Try.prog 10 #[.pointer (some ⟨g, 0, none⟩), .string p.1.f, .string p.1.t, .int .i64 most] w (AnsEnd 50 w) := by
  have hc := h.cell
  have hne2 := str_ne_b hne
  have hglt := own_lt h.fresh h.rootOwn
  have h2 := fun n => (h.on (below_box w (.cells #[.string p.1.f, .string p.1.t] 52) n)).find hp
  have hc2 := fun n => (h.on (below_box w (.cells #[.string p.1.f, .string p.1.t] 52) n)).cell
  go_enter Try.func10, Try.ntmps10
  go_wp2_with fail
  go_quiet ((go_at_call 24; exact Calls.quiet_of_same ((cIsPort _ _ (by assumption)).mono fun _ _ h => ⟨h.1, h.2.symm⟩)))
  go_wp2
  go_ret
  exact ⟨rfl, below_box _ _ _⟩
end
end Go.Proofs.Ytfmphhcdbocgnaa.Pipe
