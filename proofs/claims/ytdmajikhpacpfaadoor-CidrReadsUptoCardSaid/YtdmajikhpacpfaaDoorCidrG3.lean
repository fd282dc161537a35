/-
  MERGED by mergetpl.py: CidrDigits, CidrHex.
-/
import Derived.Test.YtdmajikhpacpfaaDoorStrBase
import Derived.Lib.SmallJoins
import Derived.Lib.ItoaNum
/-
  CIDR: a number's digits, as the document's answer has them.
-/
namespace Go.Proofs.YtdmajikhpacpfaaDoor.Cidr
open Go.RowKit Base

theorem conv_one (w : World) (t : TypeId) (z : Int) (h0 : 0 ≤ z) (h1 : z < 256) :
    (convert 67 9 (.slice (some ⟨w.heap.size, 0, none⟩) 1 1)).run Tryd.prog (w.alloc (.cells #[.int .u8 z] t)) = .ok (.string ⟨#[UInt8.ofNat z.toNat]⟩) (w.alloc (.cells #[.int .u8 z] t)) := by
  refine run_convert_bytes_back (P := Tryd.prog) _ 67 9 5 ⟨w.heap.size, 0, none⟩ 1 [UInt8.ofNat z.toNat] Tryd.underlying67 Tryd.underlying5 Tryd.underlying9 (fun j hj => ?_)
  rw [Addr.add_lit]
  match j, hj with
  | 0, _ =>
    go_simp
    omega

set_option maxHeartbeats 400000 in
set_option maxRecDepth 100000 in
theorem rDigits_any (n : Nat) (hn : n ≤ 9007199254740992) (w : World) :
    Calls Tryd.prog 38 #[.int .i64 n] w fun e w' => e = .returned (.string ⟨(Lib.decDigits n).toArray⟩) ∧ Below w.heap.size w w' := by
  obtain ⟨out, hout⟩ : ∃ out, out = Lib.decDigits n := ⟨_, rfl⟩
  have HO := Lib.hid hout
  rw [← hout]
  clear hout
  go_enter Tryd.func38, Tryd.ntmps38
  go_wp2
  go_loopw [0, 3] (fun m s wr => ∃ (N : Nat) (S : ByteArray), m = .int .i64 N ∧ s = .string S ∧ N ≤ 9007199254740992 ∧ N + S.size ≤ 9007199254740992 ∧ Below w.heap.size w wr ∧ Hid (out = Lib.decDigits N ++ S.data.toList)) (fun m _ _ => (intOf m).toNat)
  case atStart => exact ⟨n, ⟨#[]⟩, rfl, rfl, hn, (by show n + 0 ≤ _; omega), Below.refl _ _, by unfold Hid; simp [HO.out]⟩
  case round =>
    obtain ⟨N, S, rfl, rfl, hN, hS, hb, hrun⟩ := hrel
    by_cases h10 : 10 ≤ N
    · have hcv := conv_one wr 5 (48 + (N : Int) % 10) (by omega) (by omega)
      obtain ⟨D, hD⟩ : ∃ D : ByteArray, D = ⟨#[UInt8.ofNat (48 + (N : Int) % 10).toNat]⟩ := ⟨_, rfl⟩
      have hDs : D.size ≤ 1 := by rw [hD]; exact Nat.le_refl 1
      have HF : Hid (out = Lib.decDigits (N / 10) ++ (D ++ S).data.toList ∧ (D ++ S).size = S.size + 1) := by
        refine ⟨?_, ?_⟩
        · rw [hrun.out, Lib.decDigits, dif_neg (by omega), Joins.data_append, hD, show (48 + (N : Int) % 10).toNat = 48 + N % 10 by omega]; simp
        · rw [ByteArray.size_append, hD]; show 1 + S.size = _; omega
      rw [← hD] at hcv
      clear hD hrun
      go_wp2
      go_roundw
      case rel => exact ⟨N / 10, D ++ S, by go_num, rfl, by omega, by rw [HF.out.2]; omega, (hb.alloc hb.size _), HF.out.1⟩
      case measure => simp [intOf]; omega
    · have hcv := conv_one wr 5 (48 + (N : Int)) (by omega) (by omega)
      obtain ⟨D, hD⟩ : ∃ D : ByteArray, D = ⟨#[UInt8.ofNat (48 + (N : Int)).toNat]⟩ := ⟨_, rfl⟩
      have hDs : D.size ≤ 1 := by rw [hD]; exact Nat.le_refl 1
      have HF : Hid (⟨out.toArray⟩ = D ++ S) := by
        unfold Hid
        rw [hrun.out, Lib.decDigits, dif_pos (by omega), show 48 + N = (48 + (N : Int)).toNat by omega]
        apply ByteArray.ext
        apply Array.toList_inj.1
        rw [Joins.data_append, hD]
      rw [← hD] at hcv
      clear hD hrun
      go_wp2
      go_ret
      exact ⟨ret_str HF.out.symm, hb.alloc hb.size _⟩
end Go.Proofs.YtdmajikhpacpfaaDoor.Cidr
/-
  CIDR, the given answers: a group's form.
-/
namespace Go.Proofs.YtdmajikhpacpfaaDoor.Cidr
open Go.RowKit Base
def hexDig (n : Nat) : UInt8 := if n < 10 then UInt8.ofNat (48 + n) else UInt8.ofNat (87 + n)
def hexD (u : Nat) : List UInt8 := if _ : u < 16 then [hexDig u] else hexD (u / 16) ++ [hexDig (u % 16)]
termination_by u
decreasing_by omega
theorem hex_at (k : Nat) (h : k < 16) : (⟨#[48, 49, 50, 51, 52, 53, 54, 55, 56, 57, 97, 98, 99, 100, 101, 102]⟩ : ByteArray)[k]'h = hexDig k := by
  have e : ∀ i : Fin 16, (⟨#[48, 49, 50, 51, 52, 53, 54, 55, 56, 57, 97, 98, 99, 100, 101, 102]⟩ : ByteArray)[i.val]'i.isLt = hexDig i.val := by decide +kernel
  exact e ⟨k, h⟩
set_option maxHeartbeats 400000 in
set_option maxRecDepth 100000 in
theorem rHex (n : Nat) (hn : n ≤ 9007199254740992) (w : World) :
    Calls Tryd.prog 55 #[.int .i64 n] w fun e w' => e = .returned (.string ⟨(hexD n).toArray⟩) ∧ Below w.heap.size w w' := by
  obtain ⟨out, hout⟩ : ∃ out, out = hexD n := ⟨_, rfl⟩
  have HO := Lib.hid hout
  rw [← hout]
  clear hout
  go_enter Tryd.func55, Tryd.ntmps55
  go_wp2
  go_loopw [0, 3] (fun m s wr => ∃ (N : Nat) (S : ByteArray), m = .int .i64 N ∧ s = .string S ∧ N ≤ 9007199254740992 ∧ N + S.size ≤ 9007199254740992 ∧ Below w.heap.size w wr ∧ Hid (out = hexD N ++ S.data.toList)) (fun m _ _ => (intOf m).toNat)
  case atStart => exact ⟨n, ⟨#[]⟩, rfl, rfl, hn, (by show n + 0 ≤ _; omega), Below.refl _ _, by unfold Hid; simp [HO.out]⟩
  case round =>
    obtain ⟨N, S, rfl, rfl, hN, hS, hb, hrun⟩ := hrel
    by_cases h10 : 16 ≤ N
    · have i1 : (16 : Int) ≤ (N : Int) := by omega
      have hb0 := ((⟨#[48, 49, 50, 51, 52, 53, 54, 55, 56, 57, 97, 98, 99, 100, 101, 102]⟩ : ByteArray)[N % 16]'(Nat.mod_lt _ (by decide))).toNat_lt
      have hcv := conv_one wr 5 (((⟨#[48, 49, 50, 51, 52, 53, 54, 55, 56, 57, 97, 98, 99, 100, 101, 102]⟩ : ByteArray)[N % 16]'(Nat.mod_lt _ (by decide))).toNat : Int) (by omega) (by omega)
      have hx := hex_at (N % 16) (Nat.mod_lt _ (by decide))
      obtain ⟨D, hD⟩ : ∃ D : ByteArray, D = ⟨#[UInt8.ofNat ((((⟨#[48, 49, 50, 51, 52, 53, 54, 55, 56, 57, 97, 98, 99, 100, 101, 102]⟩ : ByteArray)[N % 16]'(Nat.mod_lt _ (by decide))).toNat : Int)).toNat]⟩ := ⟨_, rfl⟩
      have hDs : D.size ≤ 1 := by rw [hD]; exact Nat.le_refl 1
      have HF : Hid (out = hexD (N / 16) ++ (D ++ S).data.toList ∧ (D ++ S).size = S.size + 1) := by
        refine ⟨?_, ?_⟩
        · rw [hrun.out, hexD, dif_neg (by omega), Joins.data_append, hD, hx]; simp
        · rw [ByteArray.size_append, hD]; show 1 + S.size = _; omega
      rw [← hD] at hcv
      clear hD hrun hx
      go_wp2
      go_roundw
      case rel => exact ⟨N / 16, D ++ S, by go_num, rfl, by omega, by rw [HF.out.2]; omega, (hb.alloc hb.size _), HF.out.1⟩
      case measure => simp [intOf]; omega
    · have i1 : ¬ (16 : Int) ≤ (N : Int) := by omega
      have hN16 : N < 16 := by omega
      have i2 : (N : Int) < 16 := by omega
      have hb0 := ((⟨#[48, 49, 50, 51, 52, 53, 54, 55, 56, 57, 97, 98, 99, 100, 101, 102]⟩ : ByteArray)[N]'hN16).toNat_lt
      have hcv := conv_one wr 5 (((⟨#[48, 49, 50, 51, 52, 53, 54, 55, 56, 57, 97, 98, 99, 100, 101, 102]⟩ : ByteArray)[N]'hN16).toNat : Int) (by omega) (by omega)
      have hx := hex_at N hN16
      obtain ⟨D, hD⟩ : ∃ D : ByteArray, D = ⟨#[UInt8.ofNat ((((⟨#[48, 49, 50, 51, 52, 53, 54, 55, 56, 57, 97, 98, 99, 100, 101, 102]⟩ : ByteArray)[N]'hN16).toNat : Int)).toNat]⟩ := ⟨_, rfl⟩
      have hDs : D.size ≤ 1 := by rw [hD]; exact Nat.le_refl 1
      have HF : Hid (⟨out.toArray⟩ = D ++ S) := by
        unfold Hid
        rw [hrun.out, hexD, dif_pos (by omega)]
        apply ByteArray.ext
        apply Array.toList_inj.1
        rw [Joins.data_append, hD, hx]
        simp
      rw [← hD] at hcv
      clear hD hrun hx
      go_wp2
      go_ret
      exact ⟨ret_str HF.out.symm, hb.alloc hb.size _⟩
end Go.Proofs.YtdmajikhpacpfaaDoor.Cidr
