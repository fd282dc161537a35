/-
  LINES, the given answers: a content, as it is sent: of any slice. A reader's own block.
-/
import Derived.Test.YtgiooblopdoobaaLinStuff
namespace Go.Proofs.Ytgiooblopdoobaa.Lines
open Go.RowKit Base
set_option maxHeartbeats 1600000 in
set_option maxRecDepth 100000 in
theorem rStuff {v : Value} {l : List UInt8} {w : World} (hr : Reads w v l) (hl : l.length ≤ 140737488351232) : Calls Try.prog 17 #[v] w (StuffEnd l w) := by
  have HZ : ∀ (a : Option Addr) (c : Nat) (_ : Reads w (.slice a 0 c) []), Calls Try.prog 17 #[.slice a 0 c] w (StuffEnd [] w) := by
    intro a c hrd
    have HCZ : Hid (Calls Try.prog 21 #[.slice a 0 c] w fun e w' => e = .returned (.int .i64 0) ∧ w = w') := rContent hrd (by simp)
    have HN1 : Hid (Owns w w.heap.size (.slice none 0 0) []) := owns_nil _ _
    unfold StuffEnd
    rw [show codeOf [] = 0 from rfl, show stuffOf [] = [] ++ [46, 13, 10] from rfl]
    clear hrd
    go_enter Try.func17, Try.ntmps17
    go_wp2_with (first | (go_at_call 21; refine HCZ.out.mono ?_; rintro ee w1 ⟨rfl, rfl⟩; refine Hid.out ?_) | fail)
    refine Lib.hid ?_
    clear HCZ
    go_wp2
    go_loopw [5, 6] (fun ov iv wr => iv = .int .i64 0 ∧ ov = .slice none 0 0 ∧ wr = w) (fun _ _ _ => 0)
    case atStart => exact ⟨rfl, rfl, rfl⟩
    case round =>
      obtain ⟨rfl, rfl, rfl⟩ := hrel
      go_wp2_with (at_builtin; go_must (refine wp_append_reads _ rfl _ _ rfl wr.heap.size (.slice none 0 0) _ [] [46, 13, 10] rfl rfl (HN1.out.on (Below.alloc1 wr _)) (reads_lit wr 5 _ [46, 13, 10] 3 rfl rfl (0, 0)) (by simp) (Below.alloc1 wr _).size ?_); intro v3 w3 own3 b3; refine Hid.out ?_)
      refine Lib.hid ?_
      have HO3 := Lib.hid own3
      have HB3 : Hid (Below wr.heap.size wr w3) := (Below.alloc1 wr _).trans b3
      clear own3 b3
      go_wp2
      go_ret2
      exact ⟨HB3.out, Or.inr ⟨trivial, v3, rfl, HO3.out⟩⟩
  have HRR := hr
  rcases hr with ⟨rfl, a, c, rfl, _⟩ | ⟨b, o, c, rfl, hlc, hcell⟩
  · exact HZ a c HRR
  · cases l with
    | nil => exact HZ _ c HRR
    | cons x r => exact rStuffA b o c (x :: r) w hl hlc (by simp) hcell
end Go.Proofs.Ytgiooblopdoobaa.Lines
