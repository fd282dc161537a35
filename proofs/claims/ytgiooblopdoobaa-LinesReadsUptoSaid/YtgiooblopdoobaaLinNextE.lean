/-
  LINES, the given answers: Next: of any reader.
-/
import Derived.Test.YtgiooblopdoobaaLinNext
namespace Go.Proofs.Ytgiooblopdoobaa.Lines
open Go.RowKit Base
set_option maxHeartbeats 1600000 in
set_option maxRecDepth 100000 in
theorem rNextZ (g : Nat) (a : Option Addr) (c most : Nat) (w : World) (h : RdAt w g (.slice a 0 c) most []) :
    Calls Try.prog 13 #[.pointer (some ⟨g, 0, none⟩)] w (NextEnd g (.slice a 0 c) most [] w) := by
  obtain ⟨c0, c1, _, _⟩ := two_cells h.1
  clear h
  go_enter Try.func13, Try.ntmps13
  go_wp2
  go_loop [5] (fun iv => iv = .int .i64 0) (fun _ => 0)
  case atStart => rfl
  case round =>
    obtain rfl := hrel
    go_wp2
    go_ret3
    unfold NextEnd
    rw [if_neg (by simp)]
    exact ⟨rfl, rfl⟩
theorem rNext (g : Nat) (v : Value) (most : Nat) (l : List UInt8) (w : World) (hl : l.length ≤ 100000000000000) (h : RdAt w g v most l) :
    Calls Try.prog 13 #[.pointer (some ⟨g, 0, none⟩)] w (NextEnd g v most l w) := by
  rcases h.2.1.reads with ⟨rfl, a, c, rfl, _⟩ | ⟨b, o, c, rfl, hlc, hcell⟩
  · exact rNextZ g a c most w h
  · cases l with
    | nil => exact rNextZ g _ c most w h
    | cons x r => exact rNextA g b o c most (x :: r) w hl h hlc hcell
end Go.Proofs.Ytgiooblopdoobaa.Lines
