/-
  HEADER, the program: how many hops a header tells.
-/
import Derived.Test.YtnogpoojhhmadaaDoorHpSame
import Derived.Test.YtnogpoojhhmadaaDoorHdrRow
import Derived.Test.YtnogpoojhhmadaaDoorHdrFind
namespace Go.Proofs.YtnogpoojhhmadaaDoor.Header
open Go.RowKit Base
theorem same_low (x a b : List UInt8) (h : lower a = lower b) : sameB x a = sameB x b := by unfold sameB; rw [h]
abbrev recS : ByteArray := ⟨#[82, 101, 99, 101, 105, 118, 101, 100]⟩
theorem same_rec (x : List UInt8) : sameB x recS.data.toList = sameB x [114, 101, 99, 101, 105, 118, 101, 100] := same_low _ _ _ (by decide)
set_option maxHeartbeats 4000000 in
set_option maxRecDepth 100000 in
theorem pHops (v : Value) (T : List Fld) (w : World) (h : FReads w v T) (hn : T.length ≤ 140737488355328) (hs : ∀ f ∈ T, f.nm.length ≤ 140737488355328) :
    Calls Tryd.prog 13 #[v] w fun e w' => e = .returned (.int .i64 (hopsF T : Int)) ∧ Below w.heap.size w w' := by
  obtain ⟨a1, c1, rfl⟩ := h.form
  have HA := Lib.hid h
  have HS := Lib.hid hs
  clear h hs
  go_enter Tryd.func13, Tryd.ntmps13
  go_wp2
  go_loopw [3, 5, 8] (fun m _ i wr => ∃ k : Nat, k ≤ T.length ∧ i = .int .i64 (k : Int) ∧ m = .int .i64 (hopsF (T.take k) : Int) ∧ Hid (Below w.heap.size w wr)) (fun _ _ i _ => T.length - (intOf i).toNat)
  case atStart => exact ⟨0, by omega, rfl, rfl, Below.refl _ _⟩
  case round =>
    obtain ⟨k, hk, rfl, rfl, HW⟩ := hrel
    have hle := hops_le (T.take k)
    rw [List.length_take] at hle
    by_cases hlt : k < T.length
    · obtain ⟨f, hf⟩ : ∃ f, T[k]? = some f := ⟨_, List.getElem?_eq_getElem hlt⟩
      obtain ⟨b1, o1, e1, p0, p1, p2, p3⟩ := (HA.out.on HW.out).cell hf
      subst e1
      have i0 : (0 : Int) ≤ (k : Int) := by omega
      have i1 : (k : Int) < (T.length : Int) := by omega
      have HC : Hid (∀ w1, Calls Tryd.prog 28 #[S f.nm, .string recS] w1 fun e w' => e = .returned (.bool (sameB f.nm [114, 101, 99, 101, 105, 118, 101, 100])) ∧ Below w1.heap.size w1 w') := fun w1 => by
        have := pSame ⟨f.nm.toArray⟩ recS w1 (by show f.nm.toArray.size ≤ _; simp; have := HS.out f (List.mem_of_getElem? hf); omega) (by decide)
        rw [same_rec] at this
        exact this
      have HH := Lib.hid (hops_take hf)
      clear hf
      cases hb : sameB f.nm [114, 101, 99, 101, 105, 118, 101, 100]
      · have HC2 : Hid (∀ w1, Calls Tryd.prog 28 #[S f.nm, .string recS] w1 fun e w' => e = .returned (.bool false) ∧ Below w1.heap.size w1 w') := by rw [hb] at HC; exact HC
        have HH2 : Hid (hopsF (T.take (k + 1)) = hopsF (T.take k)) := by show _ = _; rw [HH.out, hb]; rfl
        clear HC HH hb
        go_wp2_with (first | (go_at_call 28; refine (HC2.out _).mono ?_; rintro e w2 ⟨rfl, hb2⟩; refine Hid.out ?_) | fail)
        refine Lib.hid ?_
        have HW2 := Lib.hid (HW.out.trans (((Below.alloc1 wr _).trans (hb2.mono (Below.alloc1 wr _).size)).mono HW.out.size))
        clear hb2
        go_wp2
        go_roundw
        case rel => exact ⟨k + 1, by omega, by go_num, by rw [HH2.out], HW2⟩
        case measure => simp [intOf]; omega
      · have HC2 : Hid (∀ w1, Calls Tryd.prog 28 #[S f.nm, .string recS] w1 fun e w' => e = .returned (.bool true) ∧ Below w1.heap.size w1 w') := by rw [hb] at HC; exact HC
        have HH2 : Hid (hopsF (T.take (k + 1)) = hopsF (T.take k) + 1) := by show _ = _; rw [HH.out, hb]; rfl
        clear HC HH hb
        go_wp2_with (first | (go_at_call 28; refine (HC2.out _).mono ?_; rintro e w2 ⟨rfl, hb2⟩; refine Hid.out ?_) | fail)
        refine Lib.hid ?_
        have HW2 := Lib.hid (HW.out.trans (((Below.alloc1 wr _).trans (hb2.mono (Below.alloc1 wr _).size)).mono HW.out.size))
        clear hb2
        go_wp2
        go_roundw
        case rel => exact ⟨k + 1, by omega, by go_num, by rw [HH2.out]; go_num, HW2⟩
        case measure => simp [intOf]; omega
    · have i1 : ¬ (k : Int) < (T.length : Int) := by omega
      have HE : Hid (hopsF (T.take k) = hopsF T) := by show _ = _; rw [List.take_of_length_le (by omega)]
      go_wp2
      go_ret
      exact ⟨by rw [← HE.out]; rfl, HW.out⟩
end Go.Proofs.YtnogpoojhhmadaaDoor.Header
