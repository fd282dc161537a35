/-
  MERGED by mergefill.py: CidrG3, CidrForm.
-/
import Derived.Test.YtnehgbpfgehhiaaGreatDoorStrBase
import Derived.Lib.SmallJoins
import Derived.Lib.ItoaNum
import Derived.Test.YtnehgbpfgehhiaaGreatDoorCidrSix
/-
  MERGED by mergetpl.py: CidrDigits, CidrHex.
-/
/-
  CIDR: a number's digits, as the document's answer has them.
-/
namespace Go.Proofs.YtnehgbpfgehhiaaGreatDoor.Cidr
open Go.RowKit Base

theorem conv_one (w : World) (t : TypeId) (z : Int) (h0 : 0 ≤ z) (h1 : z < 256) :
    (convert 87 9 (.slice (some ⟨w.heap.size, 0, none⟩) 1 1)).run Tryz.prog (w.alloc (.cells #[.int .u8 z] t)) = .ok (.string ⟨#[UInt8.ofNat z.toNat]⟩) (w.alloc (.cells #[.int .u8 z] t)) := by
  refine run_convert_bytes_back (P := Tryz.prog) _ 87 9 5 ⟨w.heap.size, 0, none⟩ 1 [UInt8.ofNat z.toNat] Tryz.underlying87 Tryz.underlying5 Tryz.underlying9 (fun j hj => ?_)
  rw [Addr.add_lit]
  match j, hj with
  | 0, _ =>
    go_simp
    omega

set_option maxHeartbeats 400000 in
set_option maxRecDepth 100000 in
theorem rDigits_any (n : Nat) (hn : n ≤ 9007199254740992) (w : World) :
    Calls Tryz.prog 62 #[.int .i64 n] w fun e w' => e = .returned (.string ⟨(Lib.decDigits n).toArray⟩) ∧ Below w.heap.size w w' := by
  obtain ⟨out, hout⟩ : ∃ out, out = Lib.decDigits n := ⟨_, rfl⟩
  have HO := Lib.hid hout
  rw [← hout]
  clear hout
  go_enter Tryz.func62, Tryz.ntmps62
  go_wp2
  go_loopw [0, 3] (fun m s wr => ∃ (N : Nat) (S : ByteArray), m = .int .i64 N ∧ s = .string S ∧ N ≤ 9007199254740992 ∧ N + S.size ≤ 9007199254740992 ∧ Below w.heap.size w wr ∧ Hid (out = Lib.decDigits N ++ S.data.toList)) (fun m _ _ => (intOf m).toNat)
  case atStart => exact ⟨n, ⟨#[]⟩, rfl, rfl, hn, (by show n + 0 ≤ _; omega), Below.refl _ _, by unfold Hid; simp [HO.out]⟩
  case round =>
    obtain ⟨N, S, rfl, rfl, hN, hS, hb, hrun⟩ := hrel
    by_cases h10 : 10 ≤ N
    · have hcv := conv_one wr 5 (48 + (N : Int) % 10) (by omega) (by omega)
      obtain ⟨D, hD⟩ : ∃ D : ByteArray, D = ⟨#[UInt8.ofNat (48 + (N : Int) % 10).toNat]⟩ := ⟨_, rfl⟩
      have hDs : D.size ≤ 1 := by rw [hD]; exact Nat.le_refl 1
      have HF : Hid (out = Lib.decDigits (N / 10) ++ (D ++ S).data.toList ∧ (D ++ S).size = S.size + 1) := by
        refine ⟨?_, ?_⟩
        · rw [hrun.out, Lib.decDigits, dif_neg (by omega), Joins.data_append, hD, show (48 + (N : Int) % 10).toNat = 48 + N % 10 by omega]; simp
        · rw [ByteArray.size_append, hD]; show 1 + S.size = _; omega
      rw [← hD] at hcv
      clear hD hrun
      go_wp2
      go_roundw
      case rel => exact ⟨N / 10, D ++ S, by go_num, rfl, by omega, by rw [HF.out.2]; omega, (hb.alloc hb.size _), HF.out.1⟩
      case measure => simp [intOf]; omega
    · have hcv := conv_one wr 5 (48 + (N : Int)) (by omega) (by omega)
      obtain ⟨D, hD⟩ : ∃ D : ByteArray, D = ⟨#[UInt8.ofNat (48 + (N : Int)).toNat]⟩ := ⟨_, rfl⟩
      have hDs : D.size ≤ 1 := by rw [hD]; exact Nat.le_refl 1
      have HF : Hid (⟨out.toArray⟩ = D ++ S) := by
        unfold Hid
        rw [hrun.out, Lib.decDigits, dif_pos (by omega), show 48 + N = (48 + (N : Int)).toNat by omega]
        apply ByteArray.ext
        apply Array.toList_inj.1
        rw [Joins.data_append, hD]
      rw [← hD] at hcv
      clear hD hrun
      go_wp2
      go_ret
      exact ⟨ret_str HF.out.symm, hb.alloc hb.size _⟩
end Go.Proofs.YtnehgbpfgehhiaaGreatDoor.Cidr
/-
  CIDR, the given answers: a group's form.
-/
namespace Go.Proofs.YtnehgbpfgehhiaaGreatDoor.Cidr
open Go.RowKit Base
def hexDig (n : Nat) : UInt8 := if n < 10 then UInt8.ofNat (48 + n) else UInt8.ofNat (87 + n)
def hexD (u : Nat) : List UInt8 := if _ : u < 16 then [hexDig u] else hexD (u / 16) ++ [hexDig (u % 16)]
termination_by u
decreasing_by omega
theorem hex_at (k : Nat) (h : k < 16) : (⟨#[48, 49, 50, 51, 52, 53, 54, 55, 56, 57, 97, 98, 99, 100, 101, 102]⟩ : ByteArray)[k]'h = hexDig k := by
  have e : ∀ i : Fin 16, (⟨#[48, 49, 50, 51, 52, 53, 54, 55, 56, 57, 97, 98, 99, 100, 101, 102]⟩ : ByteArray)[i.val]'i.isLt = hexDig i.val := by decide +kernel
  exact e ⟨k, h⟩
set_option maxHeartbeats 400000 in
set_option maxRecDepth 100000 in
theorem rHex (n : Nat) (hn : n ≤ 9007199254740992) (w : World) :
    Calls Tryz.prog 94 #[.int .i64 n] w fun e w' => e = .returned (.string ⟨(hexD n).toArray⟩) ∧ Below w.heap.size w w' := by
  obtain ⟨out, hout⟩ : ∃ out, out = hexD n := ⟨_, rfl⟩
  have HO := Lib.hid hout
  rw [← hout]
  clear hout
  go_enter Tryz.func94, Tryz.ntmps94
  go_wp2
  go_loopw [0, 3] (fun m s wr => ∃ (N : Nat) (S : ByteArray), m = .int .i64 N ∧ s = .string S ∧ N ≤ 9007199254740992 ∧ N + S.size ≤ 9007199254740992 ∧ Below w.heap.size w wr ∧ Hid (out = hexD N ++ S.data.toList)) (fun m _ _ => (intOf m).toNat)
  case atStart => exact ⟨n, ⟨#[]⟩, rfl, rfl, hn, (by show n + 0 ≤ _; omega), Below.refl _ _, by unfold Hid; simp [HO.out]⟩
  case round =>
    obtain ⟨N, S, rfl, rfl, hN, hS, hb, hrun⟩ := hrel
    by_cases h10 : 16 ≤ N
    · have i1 : (16 : Int) ≤ (N : Int) := by omega
      have hb0 := ((⟨#[48, 49, 50, 51, 52, 53, 54, 55, 56, 57, 97, 98, 99, 100, 101, 102]⟩ : ByteArray)[N % 16]'(Nat.mod_lt _ (by decide))).toNat_lt
      have hcv := conv_one wr 5 (((⟨#[48, 49, 50, 51, 52, 53, 54, 55, 56, 57, 97, 98, 99, 100, 101, 102]⟩ : ByteArray)[N % 16]'(Nat.mod_lt _ (by decide))).toNat : Int) (by omega) (by omega)
      have hx := hex_at (N % 16) (Nat.mod_lt _ (by decide))
      obtain ⟨D, hD⟩ : ∃ D : ByteArray, D = ⟨#[UInt8.ofNat ((((⟨#[48, 49, 50, 51, 52, 53, 54, 55, 56, 57, 97, 98, 99, 100, 101, 102]⟩ : ByteArray)[N % 16]'(Nat.mod_lt _ (by decide))).toNat : Int)).toNat]⟩ := ⟨_, rfl⟩
      have hDs : D.size ≤ 1 := by rw [hD]; exact Nat.le_refl 1
      have HF : Hid (out = hexD (N / 16) ++ (D ++ S).data.toList ∧ (D ++ S).size = S.size + 1) := by
        refine ⟨?_, ?_⟩
        · rw [hrun.out, hexD, dif_neg (by omega), Joins.data_append, hD, hx]; simp
        · rw [ByteArray.size_append, hD]; show 1 + S.size = _; omega
      rw [← hD] at hcv
      clear hD hrun hx
      go_wp2
      go_roundw
      case rel => exact ⟨N / 16, D ++ S, by go_num, rfl, by omega, by rw [HF.out.2]; omega, (hb.alloc hb.size _), HF.out.1⟩
      case measure => simp [intOf]; omega
    · have i1 : ¬ (16 : Int) ≤ (N : Int) := by omega
      have hN16 : N < 16 := by omega
      have i2 : (N : Int) < 16 := by omega
      have hb0 := ((⟨#[48, 49, 50, 51, 52, 53, 54, 55, 56, 57, 97, 98, 99, 100, 101, 102]⟩ : ByteArray)[N]'hN16).toNat_lt
      have hcv := conv_one wr 5 (((⟨#[48, 49, 50, 51, 52, 53, 54, 55, 56, 57, 97, 98, 99, 100, 101, 102]⟩ : ByteArray)[N]'hN16).toNat : Int) (by omega) (by omega)
      have hx := hex_at N hN16
      obtain ⟨D, hD⟩ : ∃ D : ByteArray, D = ⟨#[UInt8.ofNat ((((⟨#[48, 49, 50, 51, 52, 53, 54, 55, 56, 57, 97, 98, 99, 100, 101, 102]⟩ : ByteArray)[N]'hN16).toNat : Int)).toNat]⟩ := ⟨_, rfl⟩
      have hDs : D.size ≤ 1 := by rw [hD]; exact Nat.le_refl 1
      have HF : Hid (⟨out.toArray⟩ = D ++ S) := by
        unfold Hid
        rw [hrun.out, hexD, dif_pos (by omega)]
        apply ByteArray.ext
        apply Array.toList_inj.1
        rw [Joins.data_append, hD, hx]
        simp
      rw [← hD] at hcv
      clear hD hrun hx
      go_wp2
      go_ret
      exact ⟨ret_str HF.out.symm, hb.alloc hb.size _⟩
end Go.Proofs.YtnehgbpfgehhiaaGreatDoor.Cidr
/-
  CIDR, the given answers: an address of IPv6 as text: its groups.
-/
namespace Go.Proofs.YtnehgbpfgehhiaaGreatDoor.Cidr
open Go.RowKit Base
/-- A group of an address. -/
def grpA (a : List UInt8) (i : Nat) : Nat := 256 * (a.getD (2 * i) 0).toNat + (a.getD (2 * i + 1) 0).toNat
def grpsA (a : List UInt8) : List Nat := (List.range 8).map (grpA a)
/-- How many groups from i on are 0. -/
def runN (G : List Nat) (i : Nat) : Nat := ((G.drop i).takeWhile (· == 0)).length
/-- The longest row of two or more that are 0 among those that begin ahead of k: where (8: nowhere), how long. -/
def bestN (G : List Nat) : Nat → Option Nat × Nat
  | 0 => (none, 1)
  | k + 1 => if (bestN G k).2 < runN G k then (some k, runN G k) else bestN G k
/-- The text from group i on, behind s. -/
def outN (G : List Nat) (o : Option Nat) (most : Nat) : Nat → List UInt8 → Nat → List UInt8
  | 0, s, _ => s
  | f + 1, s, i =>
    if i < 8 then
      if o = some i then outN G o most f (s ++ [58, 58]) (i + most)
      else outN G o most f ((if s ≠ [] ∧ s.getLastD 0 ≠ 58 then s ++ [58] else s) ++ hexD (G.getD i 0)) (i + 1)
    else s
def form6 (a : List UInt8) : List UInt8 := outN (grpsA a) (bestN (grpsA a) 8).1 (bestN (grpsA a) 8).2 8 [] 0
theorem grpA_le (a : List UInt8) (i : Nat) : grpA a i ≤ 65535 := by
  unfold grpA
  have h1 := (a.getD (2 * i) 0).toNat_lt
  have h2 := (a.getD (2 * i + 1) 0).toNat_lt
  omega
theorem grpsA_len (a : List UInt8) : (grpsA a).length = 8 := by unfold grpsA; simp
theorem runN_le (G : List Nat) (i : Nat) : runN G i ≤ G.length - i := by
  unfold runN
  exact Nat.le_trans (List.takeWhile_prefix _).length_le (by rw [List.length_drop]; omega)
theorem runN_zero {G : List Nat} {i n : Nat} (h : n < runN G i) : G.getD (i + n) 1 = 0 := by
  unfold runN at h
  have h1 : ((G.drop i).takeWhile (· == 0))[n]? = some (((G.drop i).takeWhile (· == 0))[n]) := List.getElem?_eq_getElem h
  have hm := List.mem_of_getElem? h1
  have h2 := List.all_takeWhile (p := (· == 0)) (l := G.drop i)
  rw [List.all_eq_true] at h2
  have h3 := h2 _ hm
  obtain ⟨t, ht⟩ := List.takeWhile_prefix (p := (· == 0)) (l := G.drop i)
  have h4 : (G.drop i)[n]? = some (((G.drop i).takeWhile (· == 0))[n]) := by
    conv => lhs; rw [← ht]
    rw [List.getElem?_append_left h]; exact h1
  rw [List.getElem?_drop] at h4
  rw [List.getD_eq_getElem?_getD, h4]
  simpa using h3
theorem bestN_le {G : List Nat} (hG : G.length = 8) : ∀ (k : Nat), k ≤ 8 → 1 ≤ (bestN G k).2 ∧ (bestN G k).2 ≤ 8 ∧ ∀ i, (bestN G k).1 = some i → i + (bestN G k).2 ≤ 8
  | 0, _ => ⟨Nat.le_refl _, (by show 1 ≤ 8; omega), fun i h => by cases h⟩
  | k + 1, hk => by
    obtain ⟨h1, h2, h3⟩ := bestN_le hG k (by omega)
    unfold bestN
    split
    · have := runN_le G k
      refine ⟨by omega, by show runN G k ≤ 8; omega, fun i h => ?_⟩
      cases h
      show k + runN G k ≤ 8
      omega
    · exact ⟨h1, h2, h3⟩
end Go.Proofs.YtnehgbpfgehhiaaGreatDoor.Cidr
