/-
  CODEC: CodecSums returns true at every argument and leaves what was there.
-/
import Derived.Test.YthmacfeahnbgbaaDoorCodecFrame
namespace Go.Proofs.YthmacfeahnbgbaaDoor.Codec
open Go.ChangeShapes
open Go.RowKit

theorem hexVal_char : ∀ d, d < 16 → hexVal (hexChar d).toNat = some d := by decide +kernel
theorem takeHex_hexOf (n : Nat) (h : n ≤ 4294967295) (r : List UInt8) : takeHex (hexOf n ++ r) = (n, 0) := by
  unfold takeHex
  rw [if_neg (by simp [hexOf])]
  have e : (hexOf n ++ r).take 8 = hexOf n := List.take_left' (by simp [hexOf])
  rw [e]
  have m : ∀ x : Nat, x % 16 < 16 := fun x => Nat.mod_lt _ (by omega)
  simp only [hexOf, hexFrom, hexVal_char _ (m _)]
  simp only [Prod.mk.injEq, and_true]
  omega

set_option maxHeartbeats 400000 in
theorem sums_law (v : Value) (l : List UInt8) (q : Int) (W : World) (hr : Reads W v l) (hl : l.length ≤ 140737488351232) (wq : (Lit.int .u32 q).wf = true) (htab : Tab W.heap.size W) :
    Calls Tryd.prog 6 #[v, .int .u32 q] W fun e w' => e = .returned (.bool true) ∧ Below W.heap.size W w' := by
  have bq := bounds_u32 wq
  obtain ⟨q, rfl⟩ := Int.eq_ofNat_of_zero_le bq.1
  have hs := Lib.hid (shown_any W htab)
  obtain ⟨c, hc⟩ : ∃ c, c = crc l := ⟨_, rfl⟩
  have S1 : Hid (∀ w, Reads w v l → Calls Tryd.prog 20 #[v] w fun e w' => e = .returned (.int .u32 c) ∧ w = w') := fun w h => by rw [hc]; exact rSum v l w h (by omega)
  have S2 : Hid (∀ w, Reads w v l → Calls Tryd.prog 21 #[v] w fun e w' => e = .returned (.int .u32 c) ∧ w = w') := fun w h => by rw [hc]; exact cSum v l w h (by omega)
  obtain ⟨X, hX⟩ : ∃ X : ByteArray, X = ⟨(hexOf q).toArray⟩ := ⟨_, rfl⟩
  have hXs : X.size ≤ 8 := by rw [hX]; exact Nat.le_of_eq rfl
  have S3 : Hid (∀ w, Calls Tryd.prog 22 #[.int .u32 q] w fun e w' => e = .returned (.string X) ∧ Below w.heap.size w w') := fun w => by rw [hX]; exact cHex_any q (by omega) w
  have S4 : Hid (∀ w, Calls Tryd.prog 23 #[.int .u32 q] w fun e w' => e = .returned (.string X) ∧ Below w.heap.size w w') := fun w => by rw [hX]; exact rHex_any q (by omega) w
  have S5 : Hid (∀ v w, Reads w v (X ++ ⟨#[120]⟩).data.toList → Calls Tryd.prog 16 #[v] w fun e w' => e = .returned (.tuple #[.int .u32 q, .int .i64 0]) ∧ w = w') := fun v w h => by
    rw [Joins.data_append, hX] at h
    refine (cTakeHex v _ w h (by simp [hexOf])).mono fun e w' h => ?_
    rw [takeHex_hexOf q (by omega)] at h
    exact h
  have HR := Lib.hid hr
  clear hr hX hc htab wq
  go_enter Tryd.func6, Tryd.ntmps6
  go_wp2_with (go_at_call 9; refine hs.out.mono ?_; rintro e w1 ⟨rfl, b1⟩; refine Hid.out ?_)
  refine Lib.hid ?_
  go_wp2_with (go_at_call 20; refine (S1.out _ (HR.out.on b1)).mono ?_; rintro e w ⟨rfl, rfl⟩; refine Hid.out ?_)
  refine Lib.hid ?_
  go_wp2_with (go_at_call 21; refine (S2.out _ (HR.out.on b1)).mono ?_; rintro e w ⟨rfl, rfl⟩; refine Hid.out ?_)
  refine Lib.hid ?_
  go_wp2_with (go_at_call 22; refine (S3.out _).mono ?_; rintro e w2 ⟨rfl, b2⟩; refine Hid.out ?_)
  refine Lib.hid ?_
  obtain ⟨cap, hcap, hcv⟩ := ref_bytes w2 (X ++ ⟨#[120]⟩)
  have R5 := Lib.hid (reads_bytes w2 _ cap hcap 5 ((bytesRow (X ++ ⟨#[120]⟩) cap).size, (bytesRow (X ++ ⟨#[120]⟩) cap).size + 1))
  go_wp2_with (go_at_call 16; refine (S5.out _ _ (by have := R5.out; rw [ByteArray.size_append] at this; exact this)).mono ?_; rintro e w ⟨rfl, rfl⟩; refine Hid.out ?_)
  refine Lib.hid ?_
  go_wp2_with (go_at_call 23; refine (S4.out _).mono ?_; rintro e w3 ⟨rfl, b3⟩)
  go_ret
  exact ⟨rfl, (((b1.trans (b2.mono b1.size)).alloc (Nat.le_trans b1.size b2.size) _).drew).trans (b3.mono (by have := b1.size; have := b2.size; simp; omega))⟩
end Go.Proofs.YthmacfeahnbgbaaDoor.Codec
