/-
  DATE, the laws: what is written of a moment is read as it.
-/
import Derived.Test.YtklhgaioolamfaaDoorDatShn
namespace Go.Proofs.YtklhgaioolamfaaDoor.Date
open Go.RowKit Base
theorem text_len (n : Nat) : (textOf n).length ≤ 64 := by
  have h1 : (nmAt dayB (dayOf n)).length ≤ 3 := List.length_take_le _ _
  have h2 : (nmAt monB ((civOf n).m - 1)).length ≤ 3 := List.length_take_le _ _
  have h3 : (dgD (civOf n).d).length ≤ 2 := by unfold dgD; split <;> simp [twoD]
  unfold textOf frontOf clkD
  simp only [List.length_append, List.length_cons, List.length_nil, twoD]
  omega
set_option maxHeartbeats 4000000 in
set_option maxRecDepth 100000 in
theorem wDateBack (t : Int) (w : World) (hv : Vars w) : Calls Tryd.prog 5 #[.int .i64 t] w fun e w' => e = .returned (.bool true) ∧ Below w.heap.size w w' := by
  have HH := Lib.hid (wShown w hv)
  have HV := Lib.hid hv
  by_cases h : t < 0 ∨ 253402300799 < t
  · have HS : Hid (∀ w1, Vars w1 → Calls Tryd.prog 13 #[.int .i64 t] w1 fun e w' => e = .returned (.tuple #[S [], .int .i64 130]) ∧ Below w1.heap.size w1 w') := fun w1 hvx => pShowNo t w1 hvx h
    clear h
    go_enter Tryd.func5, Tryd.ntmps5
    go_wp2_with (first | (go_at_call 8; refine HH.out.mono ?_; rintro ee w1 ⟨rfl, hb⟩; refine Hid.out ?_) | fail)
    refine Lib.hid ?_
    have HB1 : Hid (Below w.heap.size w w1) := hb
    clear hb
    go_wp2_with (first | (go_at_call 13; refine (HS.out _ (by first | exact HV.out | exact HV.out.on HB1.out | exact HV.out.on HB2.out | exact HV.out.on HB3.out | exact HV.out.on HB4.out | exact HV.out.on HB5.out | exact HV.out.on HB6.out | exact HV.out.on HB7.out | exact HV.out.on HA2.out | exact HV.out.on HA3.out | exact HV.out.on (HB2.out.trans ((HBZ.out _).mono HB2.out.size)))).mono ?_; rintro ee w2 ⟨rfl, hb⟩; refine Hid.out ?_) | fail)
    refine Lib.hid ?_
    have HB2 : Hid (Below w.heap.size w w2) := HB1.out.trans (hb.mono HB1.out.size)
    clear hb
    go_wp2
    go_ret
    exact ⟨rfl, HB2.out⟩
  · obtain ⟨n, rfl⟩ := Int.eq_ofNat_of_zero_le (show 0 ≤ t by omega)
    have hn : n ≤ 253402300799 := by omega
    obtain ⟨P, hP⟩ : ∃ P : ByteArray, P = ⟨(textOf n).toArray⟩ := ⟨_, rfl⟩
    have HS : Hid (∀ w1, Vars w1 → Calls Tryd.prog 13 #[.int .i64 (n : Int)] w1 fun e w' => e = .returned (.tuple #[.string P, .int .i64 0]) ∧ Below w1.heap.size w1 w') := fun w1 hvx => by rw [hP]; exact pShowOk n w1 hvx hn
    have hd : P.data.toList = textOf n := by rw [hP]
    have HP : Hid (∀ w1, Vars w1 → Calls Tryd.prog 16 #[.string P] w1 fun e w' => e = .returned (.tuple #[.int .i64 (n : Int), .int .i64 0]) ∧ Below w1.heap.size w1 w') := fun w1 hvx => pParseY P w1 hvx (by rw [← str_len, hd]; have := text_len n; omega) (by rw [hd]; exact parse_back hn)
    clear h hn hP hd
    go_enter Tryd.func5, Tryd.ntmps5
    go_wp2_with (first | (go_at_call 8; refine HH.out.mono ?_; rintro ee w1 ⟨rfl, hb⟩; refine Hid.out ?_) | fail)
    refine Lib.hid ?_
    have HB1 : Hid (Below w.heap.size w w1) := hb
    clear hb
    go_wp2_with (first | (go_at_call 13; refine (HS.out _ (by first | exact HV.out | exact HV.out.on HB1.out | exact HV.out.on HB2.out | exact HV.out.on HB3.out | exact HV.out.on HB4.out | exact HV.out.on HB5.out | exact HV.out.on HB6.out | exact HV.out.on HB7.out | exact HV.out.on HA2.out | exact HV.out.on HA3.out | exact HV.out.on (HB2.out.trans ((HBZ.out _).mono HB2.out.size)))).mono ?_; rintro ee w2 ⟨rfl, hb⟩; refine Hid.out ?_) | fail)
    refine Lib.hid ?_
    have HB2 : Hid (Below w.heap.size w w2) := HB1.out.trans (hb.mono HB1.out.size)
    clear hb
    go_wp2_with (first | (go_at_call 16; refine (HP.out _ (by first | exact HV.out | exact HV.out.on HB1.out | exact HV.out.on HB2.out | exact HV.out.on HB3.out | exact HV.out.on HB4.out | exact HV.out.on HB5.out | exact HV.out.on HB6.out | exact HV.out.on HB7.out | exact HV.out.on HA2.out | exact HV.out.on HA3.out | exact HV.out.on (HB2.out.trans ((HBZ.out _).mono HB2.out.size)))).mono ?_; rintro ee w3 ⟨rfl, hb⟩; refine Hid.out ?_) | fail)
    refine Lib.hid ?_
    have HB3 : Hid (Below w.heap.size w w3) := HB2.out.trans (hb.mono HB2.out.size)
    clear hb
    go_wp2
    go_ret
    exact ⟨rfl, HB3.out⟩
end Go.Proofs.YtklhgaioolamfaaDoor.Date
