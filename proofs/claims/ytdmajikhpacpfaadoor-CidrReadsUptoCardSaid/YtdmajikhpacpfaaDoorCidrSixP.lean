/-
  CIDR, the given answers: an address of IPv6: what it is.
-/
import Derived.Test.YtdmajikhpacpfaaDoorCidrFour
import Derived.Laws.CopyOwn
namespace Go.Proofs.YtdmajikhpacpfaaDoor.Cidr
open Go.RowKit Base
/-- Does '::' stand at j? -/
def ccB (l : List UInt8) (j : Nat) : Bool := decide (l.getD j 0 = 58) && decide (l.getD (j + 1) 0 = 58)
/-- Where the first '::' stands. -/
def firstCC (l : List UInt8) : Option Nat := (List.range (l.length - 1)).find? (ccB l)
def atI : Option Nat → Int
  | none => -1
  | some a => (a : Int)
def headS (s : ByteArray) : Option Nat → ByteArray
  | none => s
  | some a => s.extract 0 a
def tailS (s : ByteArray) : Option Nat → ByteArray
  | none => ⟨#[]⟩
  | some a => s.extract (a + 2) s.size
def okG (o : Option Nat) (a b : Nat) : Bool := match o with | none => decide (a = 8) | some _ => decide (a + b ≤ 7)
def allG (A B : List Nat) : List Nat := A ++ (List.replicate (8 - A.length - B.length) 0 ++ B)
def two (g : Nat) : List UInt8 := [UInt8.ofNat (g / 256), UInt8.ofNat (g % 256)]
def sixS (s : ByteArray) : Option NetM :=
  match grpsN (headS s (firstCC s.data.toList)).data.toList, grpsN (tailS s (firstCC s.data.toList)).data.toList with
  | some A, some B => if okG (firstCC s.data.toList) A.length B.length = true then some ⟨true, 128, (allG A B).flatMap two⟩ else none
  | _, _ => none
theorem ccB_at (s : ByteArray) (k : Nat) (h : k + 1 < s.size) : ccB s.data.toList k = (decide (s[k] = 58) && decide (s[k + 1] = 58)) := by
  unfold ccB; rw [str_get s k (by omega), str_get s (k + 1) h]
theorem firstCC_some {s : ByteArray} {k : Nat} (h : k + 1 < s.size) (hno : ∀ j, j < k → ccB s.data.toList j = false) (hk : ccB s.data.toList k = true) : firstCC s.data.toList = some k := by
  unfold firstCC
  rw [List.find?_eq_some_iff_getElem]
  refine ⟨hk, k, by rw [List.length_range, str_len]; omega, by simp, fun j hj => ?_⟩
  simpa using hno j hj
theorem firstCC_none {s : ByteArray} {k : Nat} (h : ¬ k + 1 < s.size) (hno : ∀ j, j < k → ccB s.data.toList j = false) : firstCC s.data.toList = none := by
  unfold firstCC
  rw [List.find?_eq_none]
  intro j hj
  rw [List.mem_range, str_len] at hj
  simpa using hno j (by omega)
theorem firstCC_lt {s : ByteArray} {a : Nat} (h : firstCC s.data.toList = some a) : a + 2 ≤ s.size := by
  unfold firstCC at h
  have := List.mem_of_find?_eq_some h
  rw [List.mem_range, str_len] at this
  omega
theorem grps_small {l : List UInt8} {A : List Nat} (h : grpsN l = some A) : ∀ g ∈ A, g ≤ 65535 := fun g hg => by
  unfold grpsN at h
  split at h
  · cases h; simp at hg
  · obtain ⟨p, _, hp⟩ := mapO_mem grpN h g hg
    exact grpN_small hp
theorem allG_len {A B : List Nat} (h : A.length + B.length ≤ 8) : (allG A B).length = 8 := by unfold allG; simp; omega
theorem allG_small {A B : List Nat} (hA : ∀ g ∈ A, g ≤ 65535) (hB : ∀ g ∈ B, g ≤ 65535) : ∀ g ∈ allG A B, g ≤ 65535 := fun g hg => by
  unfold allG at hg
  rw [List.mem_append, List.mem_append] at hg
  rcases hg with h | h | h
  · exact hA g h
  · rw [List.eq_of_mem_replicate h]; omega
  · exact hB g h
theorem flat_len : ∀ (G : List Nat), (G.flatMap two).length = 2 * G.length
  | [] => rfl
  | g :: r => by rw [List.flatMap_cons, List.length_append, flat_len r]; simp [two]; omega
theorem ok_len {o : Option Nat} {A B : List Nat} (hB : o = none → B = []) (h : okG o A.length B.length = true) : A.length + B.length ≤ 8 := by
  unfold okG at h
  cases o with
  | none => have := of_decide_eq_true h; rw [hB rfl]; simp; omega
  | some a => have := of_decide_eq_true h; omega
/-- The bytes so far: k groups are laid. -/
def part6 (G : List Nat) (k : Nat) : List UInt8 := (G.take k).flatMap two ++ List.replicate (16 - 2 * k) 0
theorem part6_len {G : List Nat} {k : Nat} (h : k ≤ G.length) (hk : k ≤ 8) : (part6 G k).length = 16 := by
  unfold part6; rw [List.length_append, flat_len, List.length_take, List.length_replicate]; omega
theorem part6_step {G : List Nat} {k : Nat} (h : k < G.length) (hk : k < 8) : ((part6 G k).set (2 * k) (UInt8.ofNat (G[k] / 256))).set (2 * k + 1) (UInt8.ofNat (G[k] % 256)) = part6 G (k + 1) := by
  have hl : ((G.take k).flatMap two).length = 2 * k := by rw [flat_len, List.length_take]; omega
  unfold part6
  rw [show 16 - 2 * k = (16 - 2 * (k + 1)) + 1 + 1 by omega, List.replicate_succ, List.replicate_succ, List.take_succ_eq_append_getElem h, List.flatMap_append]
  rw [List.set_append_right _ _ (by omega), hl, Nat.sub_self, List.set_cons_zero, List.set_append_right _ _ (by omega), hl, show 2 * k + 1 - 2 * k = 1 by omega]
  simp [two]
theorem part6_end {G : List Nat} (h : G.length = 8) : part6 G 8 = G.flatMap two := by
  unfold part6; rw [List.take_of_length_le (by omega)]; simp
theorem splice_two {A B : List Nat} (h : A.length + B.length ≤ 8) : splice (splice (List.replicate 8 (I 0)) 0 (A.map I)) (8 - B.length) (B.map I) = (allG A B).map I := by
  unfold splice allG
  simp only [List.take_zero, List.nil_append, Nat.zero_add, List.length_map, List.drop_replicate]
  rw [List.take_append, List.drop_append, List.length_map, List.take_of_length_le (by simp; omega), List.drop_eq_nil_of_le (by simp; omega)]
  simp
  rw [show min (8 - B.length - A.length) (8 - A.length) = 8 - A.length - B.length by omega, show 8 - A.length - (8 - B.length + B.length - A.length) = 0 by omega]
  simp
end Go.Proofs.YtdmajikhpacpfaaDoor.Cidr
