/-
  LINES, the given answers: may bytes be a content? Of any slice.
-/
import Derived.Test.YtgiooblopdoobaaLinConW
namespace Go.Proofs.Ytgiooblopdoobaa.Lines
open Go.RowKit Base
set_option maxHeartbeats 1600000 in
set_option maxRecDepth 100000 in
theorem rContent {v : Value} {l : List UInt8} {w : World} (hr : Reads w v l) (hl : l.length ≤ 200000000000000) : Calls Try.prog 21 #[v] w (CodeEnd (codeOf l) w) := by
  have HZ : ∀ (a : Option Addr) (c : Nat), Calls Try.prog 21 #[.slice a 0 c] w (CodeEnd 0 w) := by
    intro a c
    go_enter Try.func21, Try.ntmps21
    go_wp2
    go_loop [3, 4, 5, 6] (fun nv lv bv iv => nv = .int .i64 0 ∧ lv = .bool false ∧ bv = .bool false ∧ iv = .int .i64 0) (fun _ _ _ _ => 0)
    case atStart => exact ⟨rfl, rfl, rfl, rfl⟩
    case round =>
      obtain ⟨rfl, rfl, rfl, rfl⟩ := hrel
      go_wp2
      go_ret
      exact ⟨rfl, rfl⟩
  rcases hr with ⟨rfl, a, c, rfl, _⟩ | ⟨b, o, c, rfl, _, hcell⟩
  · exact HZ a c
  · cases l with
    | nil => exact HZ _ c
    | cons x r => exact rContentA b o c (x :: r) w hl (by simp) hcell
end Go.Proofs.Ytgiooblopdoobaa.Lines
