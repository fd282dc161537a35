/-
  DATE, the laws: the document's examples.
-/
import Derived.Test.YtklhgaioolamfaaDoorDatApi
namespace Go.Proofs.YtklhgaioolamfaaDoor.Date
open Go.RowKit Base
theorem ex0 : textOf 0 = [84, 104, 117, 44, 32, 49, 32, 74, 97, 110, 32, 49, 57, 55, 48, 32, 48, 48, 58, 48, 48, 58, 48, 48, 32, 43, 48, 48, 48, 48] := by decide +kernel
theorem ex1 : textOf 951782400 = [84, 117, 101, 44, 32, 50, 57, 32, 70, 101, 98, 32, 50, 48, 48, 48, 32, 48, 48, 58, 48, 48, 58, 48, 48, 32, 43, 48, 48, 48, 48] := by decide +kernel
abbrev exP0 : ByteArray := ⟨#[49, 32, 74, 97, 110, 32, 49, 57, 55, 48, 32, 48, 49, 58, 48, 48, 32, 43, 48, 49, 48, 48]⟩
theorem ex2 : parseD exP0.data.toList = some 0 := by decide +kernel
abbrev exP1 : ByteArray := ⟨#[116, 104, 117, 44, 32, 48, 49, 32, 106, 97, 110, 32, 49, 57, 55, 48, 32, 48, 48, 58, 48, 48, 58, 48, 53, 32, 103, 109, 116]⟩
theorem ex3 : parseD exP1.data.toList = some 5 := by decide +kernel
abbrev exP2 : ByteArray := ⟨#[70, 114, 105, 44, 32, 49, 32, 74, 97, 110, 32, 49, 57, 55, 48, 32, 48, 48, 58, 48, 48, 58, 48, 48, 32, 43, 48, 48, 48, 48]⟩
theorem ex4 : parseD exP2.data.toList = none := by decide +kernel
abbrev exP3 : ByteArray := ⟨#[50, 57, 32, 70, 101, 98, 32, 50, 48, 48, 49, 32, 48, 48, 58, 48, 48, 32, 85, 84]⟩
theorem ex5 : parseD exP3.data.toList = none := by decide +kernel
set_option maxHeartbeats 4000000 in
set_option maxRecDepth 100000 in
theorem wShown (w : World) (hv : Vars w) : Calls Tryd.prog 8 #[] w fun e w' => e = .returned (.bool true) ∧ Below w.heap.size w w' := by
  have HV := Lib.hid hv
  clear hv
  obtain ⟨A, hA⟩ : ∃ A, A = textOf 0 := ⟨_, rfl⟩
  obtain ⟨B, hB⟩ : ∃ B, B = textOf 951782400 := ⟨_, rfl⟩
  have q1 : (A == [84, 104, 117, 44, 32, 49, 32, 74, 97, 110, 32, 49, 57, 55, 48, 32, 48, 48, 58, 48, 48, 58, 48, 48, 32, 43, 48, 48, 48, 48]) = true := by rw [hA, ex0]; decide
  have q2 : (B == [84, 117, 101, 44, 32, 50, 57, 32, 70, 101, 98, 32, 50, 48, 48, 48, 32, 48, 48, 58, 48, 48, 58, 48, 48, 32, 43, 48, 48, 48, 48]) = true := by rw [hB, ex1]; decide
  have HS0 : Hid (∀ w1, Vars w1 → Calls Tryd.prog 13 #[.int .i64 0] w1 fun e w' => e = .returned (.tuple #[S A, .int .i64 0]) ∧ Below w1.heap.size w1 w') := fun w1 hvx => by rw [hA]; exact pShowOk 0 w1 hvx (by decide)
  have HS1 : Hid (∀ w1, Vars w1 → Calls Tryd.prog 13 #[.int .i64 951782400] w1 fun e w' => e = .returned (.tuple #[S B, .int .i64 0]) ∧ Below w1.heap.size w1 w') := fun w1 hvx => by rw [hB]; exact pShowOk 951782400 w1 hvx (by decide)
  have HS2 : Hid (∀ w1, Vars w1 → Calls Tryd.prog 13 #[.int .i64 (-1)] w1 fun e w' => e = .returned (.tuple #[S [], .int .i64 130]) ∧ Below w1.heap.size w1 w') := fun w1 hvx => pShowNo (-1) w1 hvx (Or.inl (by decide))
  have HP0 : Hid (∀ w1, Vars w1 → Calls Tryd.prog 16 #[.string exP0] w1 fun e w' => e = .returned (.tuple #[.int .i64 0, .int .i64 0]) ∧ Below w1.heap.size w1 w') := fun w1 hvx => pParseY exP0 w1 hvx (by decide) ex2
  have HP1 : Hid (∀ w1, Vars w1 → Calls Tryd.prog 16 #[.string exP1] w1 fun e w' => e = .returned (.tuple #[.int .i64 5, .int .i64 0]) ∧ Below w1.heap.size w1 w') := fun w1 hvx => pParseY exP1 w1 hvx (by decide) ex3
  have HP2 : Hid (∀ w1, Vars w1 → Calls Tryd.prog 16 #[.string exP2] w1 fun e w' => e = .returned (.tuple #[.int .i64 0, .int .i64 130]) ∧ Below w1.heap.size w1 w') := fun w1 hvx => pParseN exP2 w1 hvx (by decide) ex4
  have HP3 : Hid (∀ w1, Vars w1 → Calls Tryd.prog 16 #[.string exP3] w1 fun e w' => e = .returned (.tuple #[.int .i64 0, .int .i64 130]) ∧ Below w1.heap.size w1 w') := fun w1 hvx => pParseN exP3 w1 hvx (by decide) ex5
  clear hA hB
  go_enter Tryd.func8, Tryd.ntmps8
  go_wp2_with (first | (go_at_call 13; refine (HS0.out _ (by first | exact HV.out | exact HV.out.on HB1.out | exact HV.out.on HB2.out | exact HV.out.on HB3.out | exact HV.out.on HB4.out | exact HV.out.on HB5.out | exact HV.out.on HB6.out | exact HV.out.on HB7.out | exact HV.out.on HA2.out | exact HV.out.on HA3.out | exact HV.out.on (HB2.out.trans ((HBZ.out _).mono HB2.out.size)))).mono ?_; rintro ee w1 ⟨rfl, hb⟩; refine Hid.out ?_) | fail)
  refine Lib.hid ?_
  have HB1 : Hid (Below w.heap.size w w1) := hb
  clear hb
  go_wp2_with (first | (go_at_call 13; refine (HS1.out _ (by first | exact HV.out | exact HV.out.on HB1.out | exact HV.out.on HB2.out | exact HV.out.on HB3.out | exact HV.out.on HB4.out | exact HV.out.on HB5.out | exact HV.out.on HB6.out | exact HV.out.on HB7.out | exact HV.out.on HA2.out | exact HV.out.on HA3.out | exact HV.out.on (HB2.out.trans ((HBZ.out _).mono HB2.out.size)))).mono ?_; rintro ee w2 ⟨rfl, hb⟩; refine Hid.out ?_) | fail)
  refine Lib.hid ?_
  have HB2 : Hid (Below w.heap.size w w2) := HB1.out.trans (hb.mono HB1.out.size)
  clear hb
  go_wp2_with (first | (go_at_call 13; refine (HS2.out _ (by first | exact HV.out | exact HV.out.on HB1.out | exact HV.out.on HB2.out | exact HV.out.on HB3.out | exact HV.out.on HB4.out | exact HV.out.on HB5.out | exact HV.out.on HB6.out | exact HV.out.on HB7.out | exact HV.out.on HA2.out | exact HV.out.on HA3.out | exact HV.out.on (HB2.out.trans ((HBZ.out _).mono HB2.out.size)))).mono ?_; rintro ee w3 ⟨rfl, hb⟩; refine Hid.out ?_) | fail)
  refine Lib.hid ?_
  have HB3 : Hid (Below w.heap.size w w3) := HB2.out.trans (hb.mono HB2.out.size)
  clear hb
  go_wp2_with (first | (go_at_call 16; refine (HP0.out _ (by first | exact HV.out | exact HV.out.on HB1.out | exact HV.out.on HB2.out | exact HV.out.on HB3.out | exact HV.out.on HB4.out | exact HV.out.on HB5.out | exact HV.out.on HB6.out | exact HV.out.on HB7.out | exact HV.out.on HA2.out | exact HV.out.on HA3.out | exact HV.out.on (HB2.out.trans ((HBZ.out _).mono HB2.out.size)))).mono ?_; rintro ee w4 ⟨rfl, hb⟩; refine Hid.out ?_) | fail)
  refine Lib.hid ?_
  have HB4 : Hid (Below w.heap.size w w4) := HB3.out.trans (hb.mono HB3.out.size)
  clear hb
  go_wp2_with (first | (go_at_call 16; refine (HP1.out _ (by first | exact HV.out | exact HV.out.on HB1.out | exact HV.out.on HB2.out | exact HV.out.on HB3.out | exact HV.out.on HB4.out | exact HV.out.on HB5.out | exact HV.out.on HB6.out | exact HV.out.on HB7.out | exact HV.out.on HA2.out | exact HV.out.on HA3.out | exact HV.out.on (HB2.out.trans ((HBZ.out _).mono HB2.out.size)))).mono ?_; rintro ee w5 ⟨rfl, hb⟩; refine Hid.out ?_) | fail)
  refine Lib.hid ?_
  have HB5 : Hid (Below w.heap.size w w5) := HB4.out.trans (hb.mono HB4.out.size)
  clear hb
  go_wp2_with (first | (go_at_call 16; refine (HP2.out _ (by first | exact HV.out | exact HV.out.on HB1.out | exact HV.out.on HB2.out | exact HV.out.on HB3.out | exact HV.out.on HB4.out | exact HV.out.on HB5.out | exact HV.out.on HB6.out | exact HV.out.on HB7.out | exact HV.out.on HA2.out | exact HV.out.on HA3.out | exact HV.out.on (HB2.out.trans ((HBZ.out _).mono HB2.out.size)))).mono ?_; rintro ee w6 ⟨rfl, hb⟩; refine Hid.out ?_) | fail)
  refine Lib.hid ?_
  have HB6 : Hid (Below w.heap.size w w6) := HB5.out.trans (hb.mono HB5.out.size)
  clear hb
  go_wp2_with (first | (go_at_call 16; refine (HP3.out _ (by first | exact HV.out | exact HV.out.on HB1.out | exact HV.out.on HB2.out | exact HV.out.on HB3.out | exact HV.out.on HB4.out | exact HV.out.on HB5.out | exact HV.out.on HB6.out | exact HV.out.on HB7.out | exact HV.out.on HA2.out | exact HV.out.on HA3.out | exact HV.out.on (HB2.out.trans ((HBZ.out _).mono HB2.out.size)))).mono ?_; rintro ee w7 ⟨rfl, hb⟩; refine Hid.out ?_) | fail)
  refine Lib.hid ?_
  have HB7 : Hid (Below w.heap.size w w7) := HB6.out.trans (hb.mono HB6.out.size)
  clear hb
  go_wp2
  go_ret
  exact ⟨rfl, HB7.out⟩
end Go.Proofs.YtklhgaioolamfaaDoor.Date
