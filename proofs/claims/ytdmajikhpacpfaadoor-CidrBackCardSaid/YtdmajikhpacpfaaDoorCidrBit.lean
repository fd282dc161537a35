/-
  CIDR, the given answers: bits of an address.
-/
import Derived.Test.YtdmajikhpacpfaaDoorStrBase
import Derived.Deep.MidRow
namespace Go.Proofs.YtdmajikhpacpfaaDoor.Cidr
open Go.RowKit Base
abbrev B8 (x : UInt8) : Value := .int .u8 (x.toNat : Int)
theorem rSize (six : Bool) (w : World) : Calls Tryd.prog 39 #[.bool six] w (fun e w' => e = .returned (.int .i64 (if six then 128 else 32)) ∧ w = w') := by
  cases six
  all_goals
    go_enter Tryd.func39, Tryd.ntmps39
    go_wp2
    go_ret
    exact ⟨rfl, rfl⟩
/-- Bit i of an address. -/
def bitA (a : List UInt8) (i : Nat) : Nat := (a.getD (i / 8) 0).toNat / 2 ^ (7 - i % 8) % 2
theorem cell_new (w : World) (cs : Array Value) (t : TypeId) (k : Nat) : (w.alloc (.cells cs t)).cell? ⟨w.heap.size, k, none⟩ = cs[k]? := cell_of_row _ _ k _ _ _ (MapKept.heap_alloc w _).1
theorem cell_addr (w : World) (a : List UInt8) (t : TypeId) (k : Nat) (hk : k < a.length) : (w.alloc (.cells (a.map B8).toArray t)).cell? ⟨w.heap.size, k, none⟩ = some (.int .u8 ((a.getD k 0).toNat : Int)) := by
  rw [cell_new]
  simp [List.getD, List.getElem?_eq_getElem hk]
theorem and_one (x : Nat) (hx : x < 256) : bits .and .u8 (x : Int) 1 = ((x % 2 : Nat) : Int) := by
  have h : ∀ y : Fin 256, bits .and .u8 (y.val : Int) 1 = ((y.val % 2 : Nat) : Int) := by decide +kernel
  exact h ⟨x, hx⟩
theorem rBit (a : List UInt8) (ha : a.length = 16) (i : Nat) (hi : i < 128) (w : World) : Calls Tryd.prog 44 #[.agg (a.map B8).toArray, .int .i64 (i : Int)] w (fun e w' => e = .returned (.int .u8 (bitA a i : Int)) ∧ Below w.heap.size w w') := by
  have hc := cell_addr w a 23 (i / 8) (by omega)
  have hx : (a.getD (i / 8) 0).toNat < 256 := (a.getD (i / 8) 0).toNat_lt
  have HB : Hid (∀ x : Nat, x = (a.getD (i / 8) 0).toNat → bitA a i = x / 2 ^ (7 - i % 8) % 2) := fun x hx => by rw [hx]; rfl
  generalize (a.getD (i / 8) 0).toNat = x at hc hx HB
  have HB2 := Lib.hid (HB.out x rfl)
  clear HB
  go_enter Tryd.func44, Tryd.ntmps44
  go_wp2
  go_ret
  refine ⟨?_, Below.alloc1 _ _⟩
  have e : (x : Int) / 2 ^ (7 - i % 8) = ((x / 2 ^ (7 - i % 8) : Nat) : Int) := by push_cast; rfl
  rw [HB2.out, e, and_one _ (Nat.lt_of_le_of_lt (Nat.div_le_self _ _) hx)]
  rfl
end Go.Proofs.YtdmajikhpacpfaaDoor.Cidr
