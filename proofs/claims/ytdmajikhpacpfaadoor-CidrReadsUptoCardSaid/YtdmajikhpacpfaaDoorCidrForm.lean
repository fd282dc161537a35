/-
  CIDR, the given answers: an address of IPv6 as text: its groups.
-/
import Derived.Test.YtdmajikhpacpfaaDoorCidrSix
import Derived.Test.YtdmajikhpacpfaaDoorCidrG3
namespace Go.Proofs.YtdmajikhpacpfaaDoor.Cidr
open Go.RowKit Base
/-- A group of an address. -/
def grpA (a : List UInt8) (i : Nat) : Nat := 256 * (a.getD (2 * i) 0).toNat + (a.getD (2 * i + 1) 0).toNat
def grpsA (a : List UInt8) : List Nat := (List.range 8).map (grpA a)
/-- How many groups from i on are 0. -/
def runN (G : List Nat) (i : Nat) : Nat := ((G.drop i).takeWhile (· == 0)).length
/-- The longest row of two or more that are 0 among those that begin ahead of k: where (8: nowhere), how long. -/
def bestN (G : List Nat) : Nat → Option Nat × Nat
  | 0 => (none, 1)
  | k + 1 => if (bestN G k).2 < runN G k then (some k, runN G k) else bestN G k
/-- The text from group i on, behind s. -/
def outN (G : List Nat) (o : Option Nat) (most : Nat) : Nat → List UInt8 → Nat → List UInt8
  | 0, s, _ => s
  | f + 1, s, i =>
    if i < 8 then
      if o = some i then outN G o most f (s ++ [58, 58]) (i + most)
      else outN G o most f ((if s ≠ [] ∧ s.getLastD 0 ≠ 58 then s ++ [58] else s) ++ hexD (G.getD i 0)) (i + 1)
    else s
def form6 (a : List UInt8) : List UInt8 := outN (grpsA a) (bestN (grpsA a) 8).1 (bestN (grpsA a) 8).2 8 [] 0
theorem grpA_le (a : List UInt8) (i : Nat) : grpA a i ≤ 65535 := by
  unfold grpA
  have h1 := (a.getD (2 * i) 0).toNat_lt
  have h2 := (a.getD (2 * i + 1) 0).toNat_lt
  omega
theorem grpsA_len (a : List UInt8) : (grpsA a).length = 8 := by unfold grpsA; simp
theorem runN_le (G : List Nat) (i : Nat) : runN G i ≤ G.length - i := by
  unfold runN
  exact Nat.le_trans (List.takeWhile_prefix _).length_le (by rw [List.length_drop]; omega)
theorem runN_zero {G : List Nat} {i n : Nat} (h : n < runN G i) : G.getD (i + n) 1 = 0 := by
  unfold runN at h
  have h1 : ((G.drop i).takeWhile (· == 0))[n]? = some (((G.drop i).takeWhile (· == 0))[n]) := List.getElem?_eq_getElem h
  have hm := List.mem_of_getElem? h1
  have h2 := List.all_takeWhile (p := (· == 0)) (l := G.drop i)
  rw [List.all_eq_true] at h2
  have h3 := h2 _ hm
  obtain ⟨t, ht⟩ := List.takeWhile_prefix (p := (· == 0)) (l := G.drop i)
  have h4 : (G.drop i)[n]? = some (((G.drop i).takeWhile (· == 0))[n]) := by
    conv => lhs; rw [← ht]
    rw [List.getElem?_append_left h]; exact h1
  rw [List.getElem?_drop] at h4
  rw [List.getD_eq_getElem?_getD, h4]
  simpa using h3
theorem bestN_le {G : List Nat} (hG : G.length = 8) : ∀ (k : Nat), k ≤ 8 → 1 ≤ (bestN G k).2 ∧ (bestN G k).2 ≤ 8 ∧ ∀ i, (bestN G k).1 = some i → i + (bestN G k).2 ≤ 8
  | 0, _ => ⟨Nat.le_refl _, (by show 1 ≤ 8; omega), fun i h => by cases h⟩
  | k + 1, hk => by
    obtain ⟨h1, h2, h3⟩ := bestN_le hG k (by omega)
    unfold bestN
    split
    · have := runN_le G k
      refine ⟨by omega, by show runN G k ≤ 8; omega, fun i h => ?_⟩
      cases h
      show k + runN G k ≤ 8
      omega
    · exact ⟨h1, h2, h3⟩
end Go.Proofs.YtdmajikhpacpfaaDoor.Cidr
