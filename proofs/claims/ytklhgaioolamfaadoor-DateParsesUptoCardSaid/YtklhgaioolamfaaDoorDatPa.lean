/-
  DATE, the laws: any text is read as the document says.
-/
import Derived.Test.YtklhgaioolamfaaDoorDatShn
namespace Go.Proofs.YtklhgaioolamfaaDoor.Date
open Go.RowKit Base
theorem out_two (o : Option Int) : ∃ a b, outV o = .tuple #[.int .i64 a, .int .i64 b] := by
  cases o with
  | none => exact ⟨_, _, rfl⟩
  | some t => exact ⟨_, _, rfl⟩
set_option maxHeartbeats 4000000 in
set_option maxRecDepth 100000 in
theorem wDateParses (s : ByteArray) (w : World) (hv : Vars w) (hs : s.size ≤ 1000000000) : Calls Tryd.prog 4 #[.string s] w fun e w' => e = .returned (.bool true) ∧ Below w.heap.size w w' := by
  have HH := Lib.hid (wShown w hv)
  have HV := Lib.hid hv
  obtain ⟨a, b, hab⟩ := out_two (parseD s.data.toList)
  have HR : Hid (∀ w1, Calls Tryd.prog 15 #[.string s] w1 fun e w' => e = .returned (.tuple #[.int .i64 a, .int .i64 b]) ∧ Below w1.heap.size w1 w') := fun w1 => (rParse s w1 (by omega)).mono (fun e w' h2 => by unfold ParseEnd at h2; rwa [hab] at h2)
  have HP : Hid (∀ w1, Vars w1 → Calls Tryd.prog 16 #[.string s] w1 fun e w' => e = .returned (.tuple #[.int .i64 a, .int .i64 b]) ∧ Below w1.heap.size w1 w') := fun w1 hvx => (pParse s w1 hvx hs).mono (fun e w' h2 => by unfold ParseEnd at h2; rwa [hab] at h2)
  clear hab
  go_enter Tryd.func4, Tryd.ntmps4
  go_wp2_with (first | (go_at_call 8; refine HH.out.mono ?_; rintro ee w1 ⟨rfl, hb⟩; refine Hid.out ?_) | fail)
  refine Lib.hid ?_
  have HB1 : Hid (Below w.heap.size w w1) := hb
  clear hb
  go_wp2_with (first | (go_at_call 15; refine (HR.out _).mono ?_; rintro ee w2 ⟨rfl, hb⟩; refine Hid.out ?_) | fail)
  refine Lib.hid ?_
  have HB2 : Hid (Below w.heap.size w w2) := HB1.out.trans (hb.mono HB1.out.size)
  clear hb
  go_wp2_with (first | (go_at_call 16; refine (HP.out _ (by first | exact HV.out | exact HV.out.on HB1.out | exact HV.out.on HB2.out | exact HV.out.on HB3.out | exact HV.out.on HB4.out | exact HV.out.on HB5.out | exact HV.out.on HB6.out | exact HV.out.on HB7.out | exact HV.out.on HA2.out | exact HV.out.on HA3.out | exact HV.out.on (HB2.out.trans ((HBZ.out _).mono HB2.out.size)))).mono ?_; rintro ee w3 ⟨rfl, hb⟩; refine Hid.out ?_) | fail)
  refine Lib.hid ?_
  have HB3 : Hid (Below w.heap.size w w3) := HB2.out.trans (hb.mono HB2.out.size)
  clear hb
  go_wp2
  go_ret
  exact ⟨rfl, HB3.out⟩
end Go.Proofs.YtklhgaioolamfaaDoor.Date
