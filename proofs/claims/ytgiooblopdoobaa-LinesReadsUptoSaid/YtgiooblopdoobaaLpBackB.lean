/-
  LINES, LinesBack: the walk.
-/
import Derived.Test.YtgiooblopdoobaaLpBackP
import Derived.Test.YtgiooblopdoobaaLpStfW
namespace Go.Proofs.Ytgiooblopdoobaa.Lines
open Go.RowKit Base
set_option maxHeartbeats 16000000 in
set_option maxRecDepth 100000 in
theorem backBad (v : Value) (l : List UInt8) (w : World) (hr : Reads w v l) (hl : l.length ≤ 140737488351232) (hc : codeOf l ≠ 0) :
    Calls Try.prog 6 #[v] w fun e w' => e = .returned (.bool true) ∧ Below w.heap.size w w' := by
  have HSH := Lib.hid (pShown w)
  have HR := Lib.hid hr
  obtain ⟨code, hcode⟩ : ∃ code, code = codeOf l := ⟨_, rfl⟩
  have HPS : Hid (∀ w1, Below w.heap.size w w1 → Calls Try.prog 16 #[v] w1 (fun e w' => e = .returned (.tuple #[.slice none 0 0, .int .i64 (code : Int)]) ∧ Below w1.heap.size w1 w')) := fun w1 hb => by
    refine (pStuff (hr.on hb) hl).mono fun e w' h => ?_
    obtain ⟨h1, ⟨_, h2⟩ | ⟨h2, _⟩⟩ := h
    · rw [hcode]; exact ⟨h2, h1⟩
    · exact absurd h2 hc
  have HNW : Hid (∀ w1, Calls Try.prog 8 #[.int .i64 999] w1 fun e w' => ∃ g, e = .returned (.tuple #[.pointer (some ⟨g, 0, none⟩), .int .i64 0]) ∧ Below w1.heap.size w1 w') := fun w1 => by
    refine (pNewYes 999 w1 (by omega) (by omega)).mono fun e w' h => ?_
    obtain ⟨g, h1, h2, _⟩ := h
    exact ⟨g, h1, h2⟩
  rw [← hcode] at hc
  have k0 : ¬ (code : Int) = 0 := by omega
  obtain ⟨A1, q1, rfl⟩ := hr.form
  clear hr hcode hc hl
  go_enter Try.func6, Try.ntmps6
  go_wp2_with (first | (go_at_call 7; refine HSH.out.mono ?_; rintro e w1 ⟨rfl, hb1⟩; refine Hid.out ?_) | fail)
  refine Lib.hid ?_
  have HB1 := Lib.hid hb1
  clear hb1 HSH
  go_wp2_with (first | (go_at_call 16; refine (HPS.out _ HB1.out).mono ?_; rintro e w2 ⟨rfl, hb2⟩; refine Hid.out ?_) | fail)
  refine Lib.hid ?_
  have HB2 : Hid (Below w.heap.size w w2) := HB1.out.trans (hb2.mono HB1.out.size)
  clear hb2 HB1
  go_wp2_with (first | (go_at_call 8; refine (HNW.out _).mono ?_; rintro e w3 ⟨g, rfl, hb3⟩; refine Hid.out ?_) | fail)
  refine Lib.hid ?_
  have HB3 : Hid (Below w.heap.size w w3) := HB2.out.trans (hb3.mono HB2.out.size)
  clear hb3 HB2
  go_wp2
  go_ret
  exact ⟨rfl, HB3.out⟩
end Go.Proofs.Ytgiooblopdoobaa.Lines
