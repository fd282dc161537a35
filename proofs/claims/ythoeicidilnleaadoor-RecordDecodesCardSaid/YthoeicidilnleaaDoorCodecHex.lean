/-
  CODEC: a sum's eight digits.
-/
import Derived.Test.YthoeicidilnleaaDoorCodecSum
import Derived.WalkSpells
namespace Go.Proofs.YthoeicidilnleaaDoor.Codec
open Go.RowKit

/-- The sixteen digits. -/
def hexChars : ByteArray := ⟨#[48, 49, 50, 51, 52, 53, 54, 55, 56, 57, 97, 98, 99, 100, 101, 102]⟩
def hexChar (d : Nat) : UInt8 := hexChars.data.getD d 0
def hexOf (n : Nat) : List UInt8 := [hexChar (n / 16 / 16 / 16 / 16 / 16 / 16 / 16 % 16), hexChar (n / 16 / 16 / 16 / 16 / 16 / 16 % 16), hexChar (n / 16 / 16 / 16 / 16 / 16 % 16), hexChar (n / 16 / 16 / 16 / 16 % 16), hexChar (n / 16 / 16 / 16 % 16), hexChar (n / 16 / 16 % 16), hexChar (n / 16 % 16), hexChar (n % 16)]
theorem hex_get (d : Nat) (h : d < hexChars.size) : hexChars[d] = hexChar d := by
  have h2 : d < hexChars.data.size := h
  show hexChars.data[d] = hexChars.data.getD d 0
  rw [Array.getD, dif_pos h2]; rfl
theorem ret_str {a b : ByteArray} (h : a = b) : Ending.returned (.string a) = .returned (.string b) := by rw [h]
theorem and15 {R : Nat} (hR : R ≤ 4294967295) : bits .and .u32 (R : Int) 15 = ((R % 16 : Nat) : Int) := by
  have := u32_and_nat R 15 (by omega) (by omega)
  simpa [Nat.and_two_pow_sub_one_eq_mod R 4] using this

theorem conv_eight (t : TypeId) (w : World) (a b c d e f g h : UInt8) :
    (convert 23 9 (.slice (some ⟨w.heap.size, 0, none⟩) 8 8)).run Tryd.prog (w.alloc (.cells #[.int .u8 (a.toNat : Int), .int .u8 (b.toNat : Int), .int .u8 (c.toNat : Int), .int .u8 (d.toNat : Int), .int .u8 (e.toNat : Int), .int .u8 (f.toNat : Int), .int .u8 (g.toNat : Int), .int .u8 (h.toNat : Int)] t))
      = .ok (.string ⟨#[a, b, c, d, e, f, g, h]⟩) (w.alloc (.cells #[.int .u8 (a.toNat : Int), .int .u8 (b.toNat : Int), .int .u8 (c.toNat : Int), .int .u8 (d.toNat : Int), .int .u8 (e.toNat : Int), .int .u8 (f.toNat : Int), .int .u8 (g.toNat : Int), .int .u8 (h.toNat : Int)] t)) := by
  refine run_convert_bytes_back (P := Tryd.prog) _ 23 9 5 ⟨w.heap.size, 0, none⟩ 8 [a, b, c, d, e, f, g, h] Tryd.underlying23 Tryd.underlying5 Tryd.underlying9 (fun j hj => ?_)
  rw [Addr.add_lit]
  match j, hj with
  | 0, _ | 1, _ | 2, _ | 3, _ | 4, _ | 5, _ | 6, _ | 7, _ => go_simp

set_option maxHeartbeats 1000000 in
set_option maxRecDepth 100000 in
theorem cHex_any (R : Nat) (hR : R ≤ 4294967295) (w : World) :
    Calls Tryd.prog 27 #[.int .u32 R] w fun e w' => e = .returned (.string ⟨(hexOf R).toArray⟩) ∧ Below w.heap.size w w' := by
  obtain ⟨out, hout⟩ : ∃ out, out = (hexOf R).toArray := ⟨_, rfl⟩
  rw [← hout]
  obtain ⟨R1, h1⟩ : ∃ x, x = R / 16 := ⟨_, rfl⟩
  obtain ⟨R2, h2⟩ : ∃ x, x = R1 / 16 := ⟨_, rfl⟩
  obtain ⟨R3, h3⟩ : ∃ x, x = R2 / 16 := ⟨_, rfl⟩
  obtain ⟨R4, h4⟩ : ∃ x, x = R3 / 16 := ⟨_, rfl⟩
  obtain ⟨R5, h5⟩ : ∃ x, x = R4 / 16 := ⟨_, rfl⟩
  obtain ⟨R6, h6⟩ : ∃ x, x = R5 / 16 := ⟨_, rfl⟩
  obtain ⟨R7, h7⟩ : ∃ x, x = R6 / 16 := ⟨_, rfl⟩
  have q0 : (R : Int) / 16 = (R1 : Int) := by omega
  have q1 : (R1 : Int) / 16 = (R2 : Int) := by omega
  have q2 : (R2 : Int) / 16 = (R3 : Int) := by omega
  have q3 : (R3 : Int) / 16 = (R4 : Int) := by omega
  have q4 : (R4 : Int) / 16 = (R5 : Int) := by omega
  have q5 : (R5 : Int) / 16 = (R6 : Int) := by omega
  have q6 : (R6 : Int) / 16 = (R7 : Int) := by omega
  obtain ⟨D0, d0⟩ : ∃ x, x = R % 16 := ⟨_, rfl⟩
  obtain ⟨D1, d1⟩ : ∃ x, x = R1 % 16 := ⟨_, rfl⟩
  obtain ⟨D2, d2⟩ : ∃ x, x = R2 % 16 := ⟨_, rfl⟩
  obtain ⟨D3, d3⟩ : ∃ x, x = R3 % 16 := ⟨_, rfl⟩
  obtain ⟨D4, d4⟩ : ∃ x, x = R4 % 16 := ⟨_, rfl⟩
  obtain ⟨D5, d5⟩ : ∃ x, x = R5 % 16 := ⟨_, rfl⟩
  obtain ⟨D6, d6⟩ : ∃ x, x = R6 % 16 := ⟨_, rfl⟩
  obtain ⟨D7, d7⟩ : ∃ x, x = R7 % 16 := ⟨_, rfl⟩
  have a0 : bits .and .u32 (R : Int) 15 = (D0 : Int) := by rw [and15 (by omega), d0]
  have a1 : bits .and .u32 (R1 : Int) 15 = (D1 : Int) := by rw [and15 (by omega), d1]
  have a2 : bits .and .u32 (R2 : Int) 15 = (D2 : Int) := by rw [and15 (by omega), d2]
  have a3 : bits .and .u32 (R3 : Int) 15 = (D3 : Int) := by rw [and15 (by omega), d3]
  have a4 : bits .and .u32 (R4 : Int) 15 = (D4 : Int) := by rw [and15 (by omega), d4]
  have a5 : bits .and .u32 (R5 : Int) 15 = (D5 : Int) := by rw [and15 (by omega), d5]
  have a6 : bits .and .u32 (R6 : Int) 15 = (D6 : Int) := by rw [and15 (by omega), d6]
  have a7 : bits .and .u32 (R7 : Int) 15 = (D7 : Int) := by rw [and15 (by omega), d7]
  have b0 : D0 < 16 := by omega
  have b1 : D1 < 16 := by omega
  have b2 : D2 < 16 := by omega
  have b3 : D3 < 16 := by omega
  have b4 : D4 < 16 := by omega
  have b5 : D5 < 16 := by omega
  have b6 : D6 < 16 := by omega
  have b7 : D7 < 16 := by omega
  have r1 : R1 ≤ 4294967295 := by omega
  have r2 : R2 ≤ 4294967295 := by omega
  have r3 : R3 ≤ 4294967295 := by omega
  have r4 : R4 ≤ 4294967295 := by omega
  have r5 : R5 ≤ 4294967295 := by omega
  have r6 : R6 ≤ 4294967295 := by omega
  have r7 : R7 ≤ 4294967295 := by omega
  have hfin : out = #[hexChar D7, hexChar D6, hexChar D5, hexChar D4, hexChar D3, hexChar D2, hexChar D1, hexChar D0] := by
    rw [hout, d0, d1, d2, d3, d4, d5, d6, d7, h7, h6, h5, h4, h3, h2, h1]; rfl
  have HF := Lib.hid hfin
  clear hfin hout d0 d1 d2 d3 d4 d5 d6 d7 h1 h2 h3 h4 h5 h6 h7
  have hconv := conv_eight 80 w
  go_enter Tryd.func27, Tryd.ntmps27
  go_wp2
  refine wp_loop_rounds 9 ?_
  rw [rounds_succ]
  go_wp2
  rw [rounds_succ]
  go_wp2
  rw [rounds_succ]
  go_wp2
  rw [rounds_succ]
  go_wp2
  rw [rounds_succ]
  go_wp2
  rw [rounds_succ]
  go_wp2
  rw [rounds_succ]
  go_wp2
  rw [rounds_succ]
  go_wp2
  rw [rounds_succ]
  go_wp2
  go_ret
  rw [HF.out, ← hex_get D7 b7, ← hex_get D6 b6, ← hex_get D5 b5, ← hex_get D4 b4, ← hex_get D3 b3, ← hex_get D2 b2, ← hex_get D1 b1, ← hex_get D0 b0]
  exact ⟨rfl, (Below.refl _ _).alloc (Nat.le_refl _) _⟩

set_option maxHeartbeats 1000000 in
set_option maxRecDepth 100000 in
theorem rHex_any (R : Nat) (hR : R ≤ 4294967295) (w : World) :
    Calls Tryd.prog 22 #[.int .u32 R] w fun e w' => e = .returned (.string ⟨(hexOf R).toArray⟩) ∧ Below w.heap.size w w' := by
  obtain ⟨out, hout⟩ : ∃ out, out = (hexOf R).toArray := ⟨_, rfl⟩
  rw [← hout]
  obtain ⟨R1, h1⟩ : ∃ x, x = R / 16 := ⟨_, rfl⟩
  obtain ⟨R2, h2⟩ : ∃ x, x = R1 / 16 := ⟨_, rfl⟩
  obtain ⟨R3, h3⟩ : ∃ x, x = R2 / 16 := ⟨_, rfl⟩
  obtain ⟨R4, h4⟩ : ∃ x, x = R3 / 16 := ⟨_, rfl⟩
  obtain ⟨R5, h5⟩ : ∃ x, x = R4 / 16 := ⟨_, rfl⟩
  obtain ⟨R6, h6⟩ : ∃ x, x = R5 / 16 := ⟨_, rfl⟩
  obtain ⟨R7, h7⟩ : ∃ x, x = R6 / 16 := ⟨_, rfl⟩
  have q0 : (R : Int) / 16 = (R1 : Int) := by omega
  have q1 : (R1 : Int) / 16 = (R2 : Int) := by omega
  have q2 : (R2 : Int) / 16 = (R3 : Int) := by omega
  have q3 : (R3 : Int) / 16 = (R4 : Int) := by omega
  have q4 : (R4 : Int) / 16 = (R5 : Int) := by omega
  have q5 : (R5 : Int) / 16 = (R6 : Int) := by omega
  have q6 : (R6 : Int) / 16 = (R7 : Int) := by omega
  obtain ⟨D0, d0⟩ : ∃ x, x = R % 16 := ⟨_, rfl⟩
  obtain ⟨D1, d1⟩ : ∃ x, x = R1 % 16 := ⟨_, rfl⟩
  obtain ⟨D2, d2⟩ : ∃ x, x = R2 % 16 := ⟨_, rfl⟩
  obtain ⟨D3, d3⟩ : ∃ x, x = R3 % 16 := ⟨_, rfl⟩
  obtain ⟨D4, d4⟩ : ∃ x, x = R4 % 16 := ⟨_, rfl⟩
  obtain ⟨D5, d5⟩ : ∃ x, x = R5 % 16 := ⟨_, rfl⟩
  obtain ⟨D6, d6⟩ : ∃ x, x = R6 % 16 := ⟨_, rfl⟩
  obtain ⟨D7, d7⟩ : ∃ x, x = R7 % 16 := ⟨_, rfl⟩
  have a0 : (R : Int) % 16 = (D0 : Int) := by omega
  have a1 : (R1 : Int) % 16 = (D1 : Int) := by omega
  have a2 : (R2 : Int) % 16 = (D2 : Int) := by omega
  have a3 : (R3 : Int) % 16 = (D3 : Int) := by omega
  have a4 : (R4 : Int) % 16 = (D4 : Int) := by omega
  have a5 : (R5 : Int) % 16 = (D5 : Int) := by omega
  have a6 : (R6 : Int) % 16 = (D6 : Int) := by omega
  have a7 : (R7 : Int) % 16 = (D7 : Int) := by omega
  have b0 : D0 < 16 := by omega
  have b1 : D1 < 16 := by omega
  have b2 : D2 < 16 := by omega
  have b3 : D3 < 16 := by omega
  have b4 : D4 < 16 := by omega
  have b5 : D5 < 16 := by omega
  have b6 : D6 < 16 := by omega
  have b7 : D7 < 16 := by omega
  have r1 : R1 ≤ 4294967295 := by omega
  have r2 : R2 ≤ 4294967295 := by omega
  have r3 : R3 ≤ 4294967295 := by omega
  have r4 : R4 ≤ 4294967295 := by omega
  have r5 : R5 ≤ 4294967295 := by omega
  have r6 : R6 ≤ 4294967295 := by omega
  have r7 : R7 ≤ 4294967295 := by omega
  have hfin : out = #[hexChar D7, hexChar D6, hexChar D5, hexChar D4, hexChar D3, hexChar D2, hexChar D1, hexChar D0] := by
    rw [hout, d0, d1, d2, d3, d4, d5, d6, d7, h7, h6, h5, h4, h3, h2, h1]; rfl
  have HF := Lib.hid hfin
  clear hfin hout d0 d1 d2 d3 d4 d5 d6 d7 h1 h2 h3 h4 h5 h6 h7
  have hconv := conv_eight 5 w
  have hmk : ∀ w, (Instr.makeSlice 23 (.int .i64 8) (.int .i64 8)).run Tryd.prog w = .ok (.slice (some ⟨w.heap.size, 0, none⟩) 8 8) (w.alloc (.cells #[.int .u8 0, .int .u8 0, .int .u8 0, .int .u8 0, .int .u8 0, .int .u8 0, .int .u8 0, .int .u8 0] 5)) := fun _ => by kernel_rfl
  go_enter Tryd.func22, Tryd.ntmps22
  go_wp2
  refine wp_loop_rounds 9 ?_
  rw [rounds_succ]
  go_wp2
  rw [rounds_succ]
  go_wp2
  rw [rounds_succ]
  go_wp2
  rw [rounds_succ]
  go_wp2
  rw [rounds_succ]
  go_wp2
  rw [rounds_succ]
  go_wp2
  rw [rounds_succ]
  go_wp2
  rw [rounds_succ]
  go_wp2
  rw [rounds_succ]
  go_wp2
  go_ret
  rw [HF.out, ← hex_get D7 b7, ← hex_get D6 b6, ← hex_get D5 b5, ← hex_get D4 b4, ← hex_get D3 b3, ← hex_get D2 b2, ← hex_get D1 b1, ← hex_get D0 b0]
  exact ⟨rfl, (Below.refl _ _).alloc (Nat.le_refl _) _⟩
end Go.Proofs.YthoeicidilnleaaDoor.Codec
