/-
  CODEC: the sum of bytes: the program's and the document's answer are the same plain function of the bytes; bytes with one of them turned have another sum.
-/
import Derived.Test.YthoeicidilnleaaDoorCodecRead
import Derived.Laws.BitsAllLaws
namespace Go.Proofs.YthoeicidilnleaaDoor.Codec
open Go.RowKit

/-- One of the eight steps of the sum. -/
def crcStep (r : Nat) : Nat := if r % 2 = 1 then r / 2 ^^^ 3988292384 else r / 2
def crcSteps : Nat → Nat → Nat
  | 0, r => r
  | k + 1, r => crcStep (crcSteps k r)
def crcByte (r : Nat) (c : UInt8) : Nat := crcSteps 8 (r ^^^ c.toNat)
def crcFrom (r : Nat) (l : List UInt8) : Nat := l.foldl crcByte r
def crc (l : List UInt8) : Nat := crcFrom 4294967295 l ^^^ 4294967295
theorem xor_le {a b : Nat} (ha : a ≤ 4294967295) (hb : b ≤ 4294967295) : a ^^^ b ≤ 4294967295 := by
  have := Nat.xor_lt_two_pow (n := 32) (x := a) (y := b) (by omega) (by omega)
  omega
theorem crcStep_le {r : Nat} (h : r ≤ 4294967295) : crcStep r ≤ 4294967295 := by
  unfold crcStep; split
  · exact xor_le (by omega) (by omega)
  · omega
theorem crcSteps_le (k : Nat) {r : Nat} (h : r ≤ 4294967295) : crcSteps k r ≤ 4294967295 := by
  induction k with
  | zero => exact h
  | succ k ih => exact crcStep_le ih
theorem crcByte_le {r : Nat} (c : UInt8) (h : r ≤ 4294967295) : crcByte r c ≤ 4294967295 := crcSteps_le 8 (xor_le h (by have := c.toNat_lt; omega))
theorem crcFrom_le (l : List UInt8) : ∀ {r : Nat}, r ≤ 4294967295 → crcFrom r l ≤ 4294967295 := by
  induction l with
  | nil => intro r h; exact h
  | cons c t ih => intro r h; exact ih (crcByte_le c h)
theorem crc_le (l : List UInt8) : crc l ≤ 4294967295 := xor_le (crcFrom_le l (by omega)) (by omega)
theorem crcFrom_take {l : List UInt8} {k : Nat} (h : k < l.length) (r : Nat) : crcFrom r (l.take (k + 1)) = crcByte (crcFrom r (l.take k)) (l.getD k 0) := by
  rw [List.take_succ_eq_append_getElem h, crcFrom, List.foldl_append]
  simp [crcFrom, List.getD, List.getElem?_eq_getElem h]

theorem ret_int {k : IntKind} {a b : Int} (h : a = b) : Ending.returned (.int k a) = .returned (.int k b) := by rw [h]

set_option maxHeartbeats 400000 in
set_option maxRecDepth 100000 in
theorem cSum_any (b o cap : Nat) (l : List UInt8) (w : World) (hl : l.length ≤ 200000000000000)
    (hc : ∀ i, i < l.length → w.cell? ⟨b, o + i, none⟩ = some (.int .u8 ((l.getD i 0).toNat : Int))) :
    Calls Tryd.prog 26 #[.slice (some ⟨b, o, none⟩) l.length cap] w fun e w' => e = .returned (.int .u32 (crc l)) ∧ w = w' := by
  obtain ⟨out, hout⟩ : ∃ out, out = crc l := ⟨_, rfl⟩
  have HO := Lib.hid hout
  rw [← hout]
  clear hout
  go_enter Tryd.func26, Tryd.ntmps26
  go_wp2
  go_loop [3, 9] (fun r i => ∃ (k R : Nat), k ≤ l.length ∧ i = .int .i64 k ∧ r = .int .u32 R ∧ R ≤ 4294967295 ∧ Hid (R = crcFrom 4294967295 (l.take k))) (fun _ i => l.length - (intOf i).toNat)
  case atStart => exact ⟨0, 4294967295, by omega, rfl, rfl, by omega, rfl⟩
  case round =>
    obtain ⟨k, R, hk, rfl, rfl, hR, hRe⟩ := hrel
    by_cases hlt : k < l.length
    · have hcell := hc k hlt
      obtain ⟨c, hce⟩ : ∃ c : Nat, c = (l.getD k 0).toNat := ⟨_, rfl⟩
      rw [← hce] at hcell
      have hcb : c ≤ 255 := by rw [hce]; have := (l.getD k 0).toNat_lt; omega
      obtain ⟨X, hX⟩ : ∃ X : Nat, X = R ^^^ c := ⟨_, rfl⟩
      have hXb : X ≤ 4294967295 := by rw [hX]; exact xor_le hR (by omega)
      have hx : bits .xor .u32 (R : Int) (c : Int) = (X : Int) := by rw [u32_xor_nat R c (by omega) (by omega), hX]
      have HX : Hid (crcSteps 8 X = crcFrom 4294967295 (l.take (k + 1))) := by
        rw [crcFrom_take hlt, ← hRe.out, crcByte, ← hce, ← hX]; rfl
      clear hc hce hX hRe
      go_wp2
      go_loop [3, 17] (fun r i => ∃ (j Y : Nat), j ≤ 8 ∧ i = .int .i64 j ∧ r = .int .u32 Y ∧ Y ≤ 4294967295 ∧ Hid (Y = crcSteps j X)) (fun _ i => 8 - (intOf i).toNat)
      case atStart => exact ⟨0, X, by omega, rfl, rfl, hXb, rfl⟩
      case round =>
        obtain ⟨j, Y, hj, rfl, rfl, hY, hYe⟩ := hrel
        by_cases hj8 : j < 8
        · obtain ⟨Z, hZ⟩ : ∃ Z, Z = crcStep Y := ⟨_, rfl⟩
          have hZb : Z ≤ 4294967295 := by rw [hZ]; exact crcStep_le hY
          have HZ : Hid (Z = crcSteps (j + 1) X) := by rw [hZ, hYe.out]; rfl
          by_cases h1 : Y % 2 = 1
          · have ha : bits .and .u32 (Y : Int) 1 = 1 := by
              have := u32_and_nat Y 1 (by omega) (by omega)
              rw [Nat.and_one_is_mod, h1] at this
              exact this
            have hxx : bits .xor .u32 ((Y : Int) / 2) 3988292384 = (Z : Int) := by
              have := u32_xor_nat (Y / 2) 3988292384 (by omega) (by omega)
              rw [hZ, crcStep, if_pos h1]
              exact this
            clear h1 hZ hYe
            go_wp2
            go_round
            case rel => exact ⟨j + 1, Z, by omega, by go_num, rfl, hZb, HZ⟩
            case measure => simp [intOf]; omega
          · have ha : bits .and .u32 (Y : Int) 1 = 0 := by
              have := u32_and_nat Y 1 (by omega) (by omega)
              rw [Nat.and_one_is_mod, show Y % 2 = 0 by omega] at this
              exact this
            have hxx : Hid ((Y : Int) / 2 = (Z : Int)) := by
              rw [hZ, crcStep, if_neg h1]; exact (Int.natCast_ediv Y 2).symm
            clear h1 hZ hYe
            go_wp2
            go_round
            case rel => exact ⟨j + 1, Z, by omega, by go_num, by rw [hxx.out], hZb, HZ⟩
            case measure => simp [intOf]; omega
        · obtain rfl : j = 8 := by omega
          go_wp2
          go_round
          case rel => exact ⟨k + 1, Y, by omega, by go_num, rfl, hY, by have := hYe.out; have h2 := HX.out; unfold Hid; omega⟩
          case measure => simp [intOf]; omega
    · obtain rfl : k = l.length := by omega
      have hfin : R ^^^ 4294967295 = out := by
        have := hRe.out; rw [List.take_length] at this; rw [HO.out, crc, ← this]
      have HF := Lib.hid hfin
      clear hfin hRe hc
      go_wp2
      go_ret
      refine ⟨ret_int ?_, rfl⟩
      rw [show IntKind.u32.max = ((4294967295 : Nat) : Int) from by decide, u32_xor_nat 4294967295 R (by omega) (by omega), Nat.xor_comm, HF.out]

set_option maxHeartbeats 400000 in
set_option maxRecDepth 100000 in
theorem rSum_any (b o cap : Nat) (l : List UInt8) (w : World) (hl : l.length ≤ 200000000000000)
    (hc : ∀ i, i < l.length → w.cell? ⟨b, o + i, none⟩ = some (.int .u8 ((l.getD i 0).toNat : Int))) :
    Calls Tryd.prog 23 #[.slice (some ⟨b, o, none⟩) l.length cap] w fun e w' => e = .returned (.int .u32 (crc l)) ∧ w = w' := by
  obtain ⟨out, hout⟩ : ∃ out, out = crc l := ⟨_, rfl⟩
  have HO := Lib.hid hout
  rw [← hout]
  clear hout
  go_enter Tryd.func23, Tryd.ntmps23
  go_wp2
  go_loop [3, 4] (fun r i => ∃ (k R : Nat), k ≤ l.length ∧ i = .int .i64 k ∧ r = .int .u32 R ∧ R ≤ 4294967295 ∧ Hid (R = crcFrom 4294967295 (l.take k))) (fun _ i => l.length - (intOf i).toNat)
  case atStart => exact ⟨0, 4294967295, by omega, rfl, rfl, by omega, rfl⟩
  case round =>
    obtain ⟨k, R, hk, rfl, rfl, hR, hRe⟩ := hrel
    by_cases hlt : k < l.length
    · have hcell := hc k hlt
      obtain ⟨c, hce⟩ : ∃ c : Nat, c = (l.getD k 0).toNat := ⟨_, rfl⟩
      rw [← hce] at hcell
      have hcb : c ≤ 255 := by rw [hce]; have := (l.getD k 0).toNat_lt; omega
      obtain ⟨X, hX⟩ : ∃ X : Nat, X = R ^^^ c := ⟨_, rfl⟩
      have hXb : X ≤ 4294967295 := by rw [hX]; exact xor_le hR (by omega)
      have hx : bits .xor .u32 (R : Int) (c : Int) = (X : Int) := by rw [u32_xor_nat R c (by omega) (by omega), hX]
      have HX : Hid (crcSteps 8 X = crcFrom 4294967295 (l.take (k + 1))) := by
        rw [crcFrom_take hlt, ← hRe.out, crcByte, ← hce, ← hX]; rfl
      clear hc hce hX hRe
      go_wp2
      go_loop [3, 5] (fun r i => ∃ (j Y : Nat), j ≤ 8 ∧ i = .int .i64 j ∧ r = .int .u32 Y ∧ Y ≤ 4294967295 ∧ Hid (Y = crcSteps j X)) (fun _ i => 8 - (intOf i).toNat)
      case atStart => exact ⟨0, X, by omega, rfl, rfl, hXb, rfl⟩
      case round =>
        obtain ⟨j, Y, hj, rfl, rfl, hY, hYe⟩ := hrel
        by_cases hj8 : j < 8
        · obtain ⟨Z, hZ⟩ : ∃ Z, Z = crcStep Y := ⟨_, rfl⟩
          have hZb : Z ≤ 4294967295 := by rw [hZ]; exact crcStep_le hY
          have HZ : Hid (Z = crcSteps (j + 1) X) := by rw [hZ, hYe.out]; rfl
          by_cases h1 : Y % 2 = 1
          · have ha : ((Y : Int) % 2 == 1) = true := by simp; omega
            have hxx : bits .xor .u32 ((Y : Int) / 2) 3988292384 = (Z : Int) := by
              have := u32_xor_nat (Y / 2) 3988292384 (by omega) (by omega)
              rw [hZ, crcStep, if_pos h1]
              exact this
            clear h1 hZ hYe
            go_wp2
            go_round
            case rel => exact ⟨j + 1, Z, by omega, by go_num, rfl, hZb, HZ⟩
            case measure => simp [intOf]; omega
          · have ha : ((Y : Int) % 2 == 1) = false := by simp; omega
            have hxx : Hid ((Y : Int) / 2 = (Z : Int)) := by
              rw [hZ, crcStep, if_neg h1]; exact (Int.natCast_ediv Y 2).symm
            clear h1 hZ hYe
            go_wp2
            go_round
            case rel => exact ⟨j + 1, Z, by omega, by go_num, by rw [hxx.out], hZb, HZ⟩
            case measure => simp [intOf]; omega
        · obtain rfl : j = 8 := by omega
          go_wp2
          go_round
          case rel => exact ⟨k + 1, Y, by omega, by go_num, rfl, hY, by have := hYe.out; have h2 := HX.out; unfold Hid; omega⟩
          case measure => simp [intOf]; omega
    · obtain rfl : k = l.length := by omega
      have hfin : R ^^^ 4294967295 = out := by
        have := hRe.out; rw [List.take_length] at this; rw [HO.out, crc, ← this]
      have HF := Lib.hid hfin
      clear hfin hRe hc
      go_wp2
      go_ret
      refine ⟨ret_int ?_, rfl⟩
      rw [show (4294967295 : Int) = ((4294967295 : Nat) : Int) from rfl, u32_xor_nat R 4294967295 (by omega) (by omega), HF.out]

theorem cSum_none (a : Option Addr) (cap : Nat) (w : World) :
    Calls Tryd.prog 26 #[.slice a 0 cap] w fun e w' => e = .returned (.int .u32 (crc [])) ∧ w = w' := by
  have hcrc : ((crc [] : Nat) : Int) = 0 := by decide
  have HC := Lib.hid hcrc
  clear hcrc
  go_enter Tryd.func26, Tryd.ntmps26
  go_wp2
  go_loop [3, 9] (fun r i => i = .int .i64 0 ∧ r = .int .u32 4294967295) (fun _ _ => 0)
  case atStart => exact ⟨rfl, rfl⟩
  case round =>
    obtain ⟨rfl, rfl⟩ := hrel
    go_wp2
    go_ret
    exact ⟨ret_int (by rw [HC.out]; decide), rfl⟩
theorem rSum_none (a : Option Addr) (cap : Nat) (w : World) :
    Calls Tryd.prog 23 #[.slice a 0 cap] w fun e w' => e = .returned (.int .u32 (crc [])) ∧ w = w' := by
  have hcrc : ((crc [] : Nat) : Int) = 0 := by decide
  have HC := Lib.hid hcrc
  clear hcrc
  go_enter Tryd.func23, Tryd.ntmps23
  go_wp2
  go_loop [3, 4] (fun r i => i = .int .i64 0 ∧ r = .int .u32 4294967295) (fun _ _ => 0)
  case atStart => exact ⟨rfl, rfl⟩
  case round =>
    obtain ⟨rfl, rfl⟩ := hrel
    go_wp2
    go_ret
    exact ⟨ret_int (by rw [HC.out]; decide), rfl⟩
theorem cSum (v : Value) (l : List UInt8) (w : World) (h : Reads w v l) (hl : l.length ≤ 200000000000000) :
    Calls Tryd.prog 26 #[v] w fun e w' => e = .returned (.int .u32 (crc l)) ∧ w = w' := by
  rcases h with ⟨rfl, a, c, rfl, _⟩ | ⟨b, o, c, rfl, _, hc⟩
  · exact cSum_none a c w
  · exact cSum_any b o c l w hl hc
theorem rSum (v : Value) (l : List UInt8) (w : World) (h : Reads w v l) (hl : l.length ≤ 200000000000000) :
    Calls Tryd.prog 23 #[v] w fun e w' => e = .returned (.int .u32 (crc l)) ∧ w = w' := by
  rcases h with ⟨rfl, a, c, rfl, _⟩ | ⟨b, o, c, rfl, _, hc⟩
  · exact rSum_none a c w
  · exact rSum_any b o c l w hl hc

/-! ### Bytes with one of them turned have another sum -/
theorem xorR {a b c : Nat} (h : a ^^^ c = b ^^^ c) : a = b := by
  have := congrArg (· ^^^ c) h
  simpa [Nat.xor_assoc] using this
theorem xorL {a b c : Nat} (h : c ^^^ a = c ^^^ b) : a = b := by
  rw [Nat.xor_comm c a, Nat.xor_comm c b] at h; exact xorR h
theorem crcStep_inj {a b : Nat} (ha : a ≤ 4294967295) (hb : b ≤ 4294967295) (h : crcStep a = crcStep b) : a = b := by
  unfold crcStep at h
  have hx : ∀ x y : Nat, x ≤ 2147483647 → y ≤ 2147483647 → x ^^^ 3988292384 ≠ y := by
    intro x y hx hy e
    have t := congrArg (fun n => n.testBit 31) e
    simp only [Nat.testBit_xor] at t
    rw [Nat.testBit_lt_two_pow (show x < 2 ^ 31 by omega), Nat.testBit_lt_two_pow (show y < 2 ^ 31 by omega)] at t
    revert t; decide
  by_cases h1 : a % 2 = 1 <;> by_cases h2 : b % 2 = 1
  · rw [if_pos h1, if_pos h2] at h
    have : a / 2 = b / 2 := xorR h
    omega
  · rw [if_pos h1, if_neg h2] at h
    exact absurd h (hx _ _ (by omega) (by omega))
  · rw [if_neg h1, if_pos h2] at h
    exact absurd h.symm (hx _ _ (by omega) (by omega))
  · rw [if_neg h1, if_neg h2] at h
    omega
theorem crcSteps_inj (k : Nat) {a b : Nat} (ha : a ≤ 4294967295) (hb : b ≤ 4294967295) (h : crcSteps k a = crcSteps k b) : a = b := by
  induction k with
  | zero => exact h
  | succ k ih => exact ih (crcStep_inj (crcSteps_le k ha) (crcSteps_le k hb) h)
theorem crcByte_inj {a b : Nat} (c : UInt8) (ha : a ≤ 4294967295) (hb : b ≤ 4294967295) (h : crcByte a c = crcByte b c) : a = b := by
  have hc := c.toNat_lt
  exact xorR (crcSteps_inj 8 (xor_le ha (by omega)) (xor_le hb (by omega)) h)
theorem crcByte_turned {a : Nat} {c d : UInt8} (ha : a ≤ 4294967295) (h : crcByte a c = crcByte a d) : c = d := by
  have hc := c.toNat_lt
  have hd := d.toNat_lt
  exact UInt8.toNat_inj.1 (xorL (crcSteps_inj 8 (xor_le ha (by omega)) (xor_le ha (by omega)) h))
theorem crcFrom_inj (l : List UInt8) : ∀ {a b : Nat}, a ≤ 4294967295 → b ≤ 4294967295 → crcFrom a l = crcFrom b l → a = b := by
  induction l with
  | nil => intro a b _ _ h; exact h
  | cons c t ih => intro a b ha hb h; exact crcByte_inj c ha hb (ih (crcByte_le c ha) (crcByte_le c hb) h)
/-- THE SUM OF BYTES WITH ONE OF THEM TURNED IS ANOTHER. -/
theorem crc_turned (l : List UInt8) (k : Nat) (hk : k < l.length) (x : UInt8) (hx : x ≠ l.getD k 0) : crc (l.set k x) ≠ crc l := by
  intro h
  have h := xorR h
  have e1 : l.set k x = l.take k ++ x :: l.drop (k + 1) := List.set_eq_take_append_cons_drop ▸ by rw [if_pos hk]
  have e2 : l = l.take k ++ l.getD k 0 :: l.drop (k + 1) := by
    have : l.getD k 0 = l[k] := by simp [List.getD, List.getElem?_eq_getElem hk]
    rw [this, ← List.drop_eq_getElem_cons hk, List.take_append_drop]
  rw [e1] at h
  conv at h => rhs; rw [e2]
  simp only [crcFrom, List.foldl_append, List.foldl_cons] at h
  have hb := crcFrom_le (l.take k) (r := 4294967295) (by omega)
  exact hx (crcByte_turned hb (crcFrom_inj (l.drop (k + 1)) (crcByte_le _ hb) (crcByte_le _ hb) h))
end Go.Proofs.YthoeicidilnleaaDoor.Codec
