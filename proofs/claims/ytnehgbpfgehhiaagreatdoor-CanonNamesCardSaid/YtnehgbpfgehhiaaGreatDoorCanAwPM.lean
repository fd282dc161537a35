/-
  MERGED by mergefill.py: CanAwP, CanAw, CanNm, CanFrame.
-/
import Derived.Test.YtnehgbpfgehhiaaGreatDoorCanCalM
import Derived.BigQuiet
import Derived.Test.YtnehgbpfgehhiaaGreatDoorRows
import Derived.ProofKit
import Derived.OpenShut
import Derived.ShutString
import Derived.ChangeOld
import Derived.Deep.DeepHandedRow
import Derived.Lib.LaidTab
import Derived.Stop.LaidErr
import Derived.MakeChecks
import Derived.LaidMore
import Derived.Shelf.Vars
import Derived.Lay
import Derived.PinnedBridge
/-
  CANON, the statements' own: a small canon: what it is to answer.
-/
namespace Go.Proofs.YtnehgbpfgehhiaaGreatDoor.Path
open Go.RowKit Base
def hostA : ByteArray := ⟨#[109, 120, 46, 101, 120, 97, 109, 112, 108, 101]⟩
def textA : ByteArray := ⟨#[97, 64, 120, 46, 101, 120, 97, 109, 112, 108, 101, 32, 98, 64, 121, 46, 101, 120, 97, 109, 112, 108, 101, 10]⟩
def keyA : List UInt8 := [97, 64, 120, 46, 101, 120, 97, 109, 112, 108, 101]
def valA : List UInt8 := [98, 64, 121, 46, 101, 120, 97, 109, 112, 108, 101]
def fromA : PV := ⟨false, ⟨#[97]⟩, ⟨#[120, 46, 101, 120, 97, 109, 112, 108, 101]⟩, false⟩
def toA : PV := ⟨false, ⟨#[98]⟩, ⟨#[121, 46, 101, 120, 97, 109, 112, 108, 101]⟩, false⟩
theorem dom_host : domR litL hostA = (hostA, false, 0) := by kernel_rfl
theorem parse_text : Table.parseOf textA.data.toList = ([(keyA, valA)], 0, 25) := by kernel_rfl
theorem rep_val (l : ByteArray) : repR litL locF l ⟨valA.toArray⟩ = (toA, true) := by kernel_rfl
theorem vals_a : valsB litL locF [(keyA, valA)] = true := by
  show ((repR litL locF ⟨#[]⟩ ⟨valA.toArray⟩).2 && true) = true
  rw [rep_val]; rfl
theorem new_a : newR litL locF hostA [textA] = (0, [[(keyA, valA)]]) := by
  unfold newR
  rw [if_pos ⟨dom_host, by decide⟩]
  have e : tabsOf litL locF [textA] = some [[(keyA, valA)]] := by
    unfold tabsOf
    rw [parse_text, if_pos ⟨rfl, vals_a⟩]
    rfl
  rw [e]
theorem full_a : fullR hostA fromA = fromA := by kernel_rfl
theorem ask_a : askR [[(keyA, valA)]] fromA.loc fromA.dom = (valA, true) := by kernel_rfl
theorem called_a : calledR litL locF hostA [[(keyA, valA)]] fromA = toA := by
  unfold calledR
  rw [full_a, ask_a, if_pos rfl, rep_val]
theorem right_from : rightR litL locF fromA = 0 := by kernel_rfl
theorem right_to : rightR litL locF toA = 0 := by kernel_rfl
theorem canon_a : canonR litL locF hostA [[(keyA, valA)]] fromA = toA := by
  unfold canonR
  rw [if_neg (by rw [right_from]; decide), called_a, if_neg (by rw [right_to]; decide)]
theorem tak_a : tak litL ⟨valA.toArray⟩ = (true, toA) := by kernel_rfl
theorem val_a : ValOk litL ⟨valA.toArray⟩ := ⟨by decide, by rw [tak_a]; decide, by rw [tak_a]; decide⟩
end Go.Proofs.YtnehgbpfgehhiaaGreatDoor.Path
/-
  CANON, the statements' own: an address is called another one: the walk.
-/
namespace Go.Proofs.YtnehgbpfgehhiaaGreatDoor.Path
open Go.RowKit Base
/-- The library's variables that a canon is asked by. -/
structure EnvC (w : World) : Prop where
  lit : EnvL w
  max : Table.MaxOk w
theorem EnvC.on {w w' : World} (h : EnvC w) (hb : Below w.heap.size w w') : EnvC w' := ⟨h.lit.on hb, h.max.on hb⟩
theorem new_a_calls (w : World) (he : EnvC w) : Calls Tryz.prog 8 #[.string hostA, .slice (some ⟨w.heap.size, 0, none⟩) 1 1] (w.alloc (.cells #[.string textA] 9)) fun e w' => ∃ b, e = .returned (.tuple #[.pointer (some ⟨b, 0, none⟩), .int .i64 0]) ∧ CanonAt w' b hostA [[(keyA, valA)]] ∧ Below w.heap.size w w' := by
  have hb := Below.alloc1 w (.cells #[.string textA] 9)
  have hp := (MapKept.heap_alloc w (.cells #[.string textA] 9)).1
  have hn := pNew (lit_ok he.lit) locF_ok hostA (some ⟨w.heap.size, 0, none⟩) 1 [textA] _ hb (he.max.on hb) (by decide) (fun i s hs => by
    have hi : i = 0 := by
      have := (List.getElem?_eq_some_iff.1 hs).1
      simp at this; exact this
    subst hi
    cases hs
    exact ⟨w.heap.size, 0, rfl, by unfold World.cell?; rw [hp]; rfl⟩) (by decide) (fun s hs p hp => by
    rw [List.mem_singleton.1 hs, parse_text] at hp
    rw [List.mem_singleton.1 hp]
    exact val_a)
  rw [new_a] at hn
  refine hn.mono fun e w' hh => ?_
  rcases hh with ⟨h1, ⟨h2, _⟩ | ⟨_, b, h3, h4, _⟩⟩
  · exact absurd rfl h2
  · exact ⟨b, h3, h4, hb.trans (h1.mono hb.size)⟩
theorem path_a_calls (w0 w : World) (he : EnvC w0) (hb : Below w0.heap.size w0 w) (b : Nat) (hC : CanonAt w b hostA [[(keyA, valA)]]) : Calls Tryz.prog 10 #[.pointer (some ⟨b, 0, none⟩), fromA.val] w fun e w' => e = .returned toA.val ∧ Below w.heap.size w w' := by
  have h := pPathC (lit_ok he.lit) locF_ok b hostA [[(keyA, valA)]] fromA w hb hC (by decide) (by decide) (by decide) (fun _ => by rw [full_a, ask_a]; exact val_a) (by rw [called_a]; decide) (by rw [called_a]; decide)
  rw [canon_a] at h
  exact h
set_option maxHeartbeats 8000000 in
set_option maxRecDepth 100000 in
theorem wAwake (w : World) (he : EnvC w) : Calls Tryz.prog 7 #[] w fun e w' => e = .returned (.bool true) ∧ Below w.heap.size w w' := by
  have C1 : Hid (Calls Tryz.prog 8 #[.string ⟨#[109, 120, 46, 101, 120, 97, 109, 112, 108, 101]⟩, .slice (some ⟨w.heap.size, 0, none⟩) 1 1] (w.alloc (.cells #[.string ⟨#[97, 64, 120, 46, 101, 120, 97, 109, 112, 108, 101, 32, 98, 64, 121, 46, 101, 120, 97, 109, 112, 108, 101, 10]⟩] 9)) fun e w' => ∃ b, e = .returned (.tuple #[.pointer (some ⟨b, 0, none⟩), .int .i64 0]) ∧ CanonAt w' b hostA [[(keyA, valA)]] ∧ Below w.heap.size w w') := new_a_calls w he
  have C2 : Hid (∀ (b : Nat) (W : World), Below w.heap.size w W → CanonAt W b hostA [[(keyA, valA)]] → Calls Tryz.prog 10 #[.pointer (some ⟨b, 0, none⟩), .agg #[.bool false, .string ⟨#[97]⟩, .string ⟨#[120, 46, 101, 120, 97, 109, 112, 108, 101]⟩, .bool false]] W fun e w' => e = .returned (.agg #[.bool false, .string ⟨#[98]⟩, .string ⟨#[121, 46, 101, 120, 97, 109, 112, 108, 101]⟩, .bool false]) ∧ Below W.heap.size W w') := fun b W hb hC => path_a_calls w W he hb b hC
  clear he
  go_enter Tryz.func7, Tryz.ntmps7
  go_wp2_with (first | (go_at_call 8; refine C1.out.mono ?_; rintro ee w1 ⟨b, rfl, hC, hb⟩; refine Hid.out ?_) | fail)
  refine Lib.hid ?_
  have HB1 := Lib.hid hb
  have C3 := Lib.hid (C2.out b w1 hb hC)
  clear hb hC C1 C2
  go_wp2_with (first | (go_at_call 10; refine C3.out.mono ?_; rintro ee w2 ⟨rfl, hb⟩; refine Hid.out ?_) | fail)
  refine Lib.hid ?_
  have HB2 : Hid (Below w.heap.size w w2) := HB1.out.trans (hb.mono HB1.out.size)
  clear hb C3
  go_wp2
  go_ret
  exact ⟨rfl, below_step HB2.out _⟩
end Go.Proofs.YtnehgbpfgehhiaaGreatDoor.Path
/-
  CANON, the statements' own: the names of fields with addresses.
-/
namespace Go.Proofs.YtnehgbpfgehhiaaGreatDoor.Path
open Go.RowKit Base
def namesL : List ByteArray := [⟨#[66, 99, 99]⟩, ⟨#[67, 99]⟩, ⟨#[70, 114, 111, 109]⟩, ⟨#[82, 101, 112, 108, 121, 45, 84, 111]⟩, ⟨#[82, 101, 115, 101, 110, 116, 45, 66, 99, 99]⟩, ⟨#[82, 101, 115, 101, 110, 116, 45, 67, 99]⟩, ⟨#[82, 101, 115, 101, 110, 116, 45, 70, 114, 111, 109]⟩, ⟨#[82, 101, 115, 101, 110, 116, 45, 82, 101, 112, 108, 121, 45, 84, 111]⟩, ⟨#[82, 101, 115, 101, 110, 116, 45, 83, 101, 110, 100, 101, 114]⟩, ⟨#[82, 101, 115, 101, 110, 116, 45, 84, 111]⟩, ⟨#[83, 101, 110, 100, 101, 114]⟩, ⟨#[84, 111]⟩]
def nm (j : Nat) : ByteArray := namesL.getD j ⟨#[]⟩
/-- A new slice of the names. -/
def NamesEnd (w : World) (e : Ending) (w' : World) : Prop := ∃ g, e = .returned (.slice (some ⟨g, 0, none⟩) 12 12) ∧ w.heap.size ≤ g ∧ g < w'.heap.size ∧ (∀ j, j < 12 → w'.cell? ⟨g, j, none⟩ = some (.string (nm j))) ∧ (∀ j, w'.frozen? ⟨g, j, none⟩ = false) ∧ Below w.heap.size w w'
theorem names_cells : ∀ j, j < 12 → (#[Value.string ⟨#[66, 99, 99]⟩, Value.string ⟨#[67, 99]⟩, Value.string ⟨#[70, 114, 111, 109]⟩, Value.string ⟨#[82, 101, 112, 108, 121, 45, 84, 111]⟩, Value.string ⟨#[82, 101, 115, 101, 110, 116, 45, 66, 99, 99]⟩, Value.string ⟨#[82, 101, 115, 101, 110, 116, 45, 67, 99]⟩, Value.string ⟨#[82, 101, 115, 101, 110, 116, 45, 70, 114, 111, 109]⟩, Value.string ⟨#[82, 101, 115, 101, 110, 116, 45, 82, 101, 112, 108, 121, 45, 84, 111]⟩, Value.string ⟨#[82, 101, 115, 101, 110, 116, 45, 83, 101, 110, 100, 101, 114]⟩, Value.string ⟨#[82, 101, 115, 101, 110, 116, 45, 84, 111]⟩, Value.string ⟨#[83, 101, 110, 100, 101, 114]⟩, Value.string ⟨#[84, 111]⟩] : Array Value)[j]? = some (.string (nm j))
  | 0, _ => rfl
  | 1, _ => rfl
  | 2, _ => rfl
  | 3, _ => rfl
  | 4, _ => rfl
  | 5, _ => rfl
  | 6, _ => rfl
  | 7, _ => rfl
  | 8, _ => rfl
  | 9, _ => rfl
  | 10, _ => rfl
  | 11, _ => rfl
  | (k + 12), h => absurd h (by omega)
theorem names_end {w w' : World} (hp : w'.heap[w.heap.size]? = some (.cells #[Value.string ⟨#[66, 99, 99]⟩, Value.string ⟨#[67, 99]⟩, Value.string ⟨#[70, 114, 111, 109]⟩, Value.string ⟨#[82, 101, 112, 108, 121, 45, 84, 111]⟩, Value.string ⟨#[82, 101, 115, 101, 110, 116, 45, 66, 99, 99]⟩, Value.string ⟨#[82, 101, 115, 101, 110, 116, 45, 67, 99]⟩, Value.string ⟨#[82, 101, 115, 101, 110, 116, 45, 70, 114, 111, 109]⟩, Value.string ⟨#[82, 101, 115, 101, 110, 116, 45, 82, 101, 112, 108, 121, 45, 84, 111]⟩, Value.string ⟨#[82, 101, 115, 101, 110, 116, 45, 83, 101, 110, 100, 101, 114]⟩, Value.string ⟨#[82, 101, 115, 101, 110, 116, 45, 84, 111]⟩, Value.string ⟨#[83, 101, 110, 100, 101, 114]⟩, Value.string ⟨#[84, 111]⟩] 9 (0, 0))) (hb : Below w.heap.size w w') : NamesEnd w (.returned (.slice (some ⟨w.heap.size, 0, none⟩) 12 12)) w' :=
  ⟨w.heap.size, rfl, Nat.le_refl _, heap_lt hp, fun j hj => by unfold World.cell?; rw [hp]; exact names_cells j hj, fun j => by unfold World.frozen?; rw [hp]; simp, hb⟩
set_option maxHeartbeats 4000000 in
set_option maxRecDepth 100000 in
theorem pNames (w : World) : Calls Tryz.prog 12 #[] w (NamesEnd w) := by
  have hp := (MapKept.heap_alloc w (.cells #[Value.string ⟨#[66, 99, 99]⟩, Value.string ⟨#[67, 99]⟩, Value.string ⟨#[70, 114, 111, 109]⟩, Value.string ⟨#[82, 101, 112, 108, 121, 45, 84, 111]⟩, Value.string ⟨#[82, 101, 115, 101, 110, 116, 45, 66, 99, 99]⟩, Value.string ⟨#[82, 101, 115, 101, 110, 116, 45, 67, 99]⟩, Value.string ⟨#[82, 101, 115, 101, 110, 116, 45, 70, 114, 111, 109]⟩, Value.string ⟨#[82, 101, 115, 101, 110, 116, 45, 82, 101, 112, 108, 121, 45, 84, 111]⟩, Value.string ⟨#[82, 101, 115, 101, 110, 116, 45, 83, 101, 110, 100, 101, 114]⟩, Value.string ⟨#[82, 101, 115, 101, 110, 116, 45, 84, 111]⟩, Value.string ⟨#[83, 101, 110, 100, 101, 114]⟩, Value.string ⟨#[84, 111]⟩] 9)).1
  have HP := Lib.hid hp
  have HB := Lib.hid (Below.alloc1 w (.cells #[Value.string ⟨#[66, 99, 99]⟩, Value.string ⟨#[67, 99]⟩, Value.string ⟨#[70, 114, 111, 109]⟩, Value.string ⟨#[82, 101, 112, 108, 121, 45, 84, 111]⟩, Value.string ⟨#[82, 101, 115, 101, 110, 116, 45, 66, 99, 99]⟩, Value.string ⟨#[82, 101, 115, 101, 110, 116, 45, 67, 99]⟩, Value.string ⟨#[82, 101, 115, 101, 110, 116, 45, 70, 114, 111, 109]⟩, Value.string ⟨#[82, 101, 115, 101, 110, 116, 45, 82, 101, 112, 108, 121, 45, 84, 111]⟩, Value.string ⟨#[82, 101, 115, 101, 110, 116, 45, 83, 101, 110, 100, 101, 114]⟩, Value.string ⟨#[82, 101, 115, 101, 110, 116, 45, 84, 111]⟩, Value.string ⟨#[83, 101, 110, 100, 101, 114]⟩, Value.string ⟨#[84, 111]⟩] 9))
  clear hp
  go_enter Tryz.func12, Tryz.ntmps12
  go_wp2
  go_ret
  exact names_end HP.out HB.out
set_option maxHeartbeats 4000000 in
set_option maxRecDepth 100000 in
theorem rNames (w : World) : Calls Tryz.prog 13 #[] w (NamesEnd w) := by
  have hp := (MapKept.heap_alloc w (.cells #[Value.string ⟨#[66, 99, 99]⟩, Value.string ⟨#[67, 99]⟩, Value.string ⟨#[70, 114, 111, 109]⟩, Value.string ⟨#[82, 101, 112, 108, 121, 45, 84, 111]⟩, Value.string ⟨#[82, 101, 115, 101, 110, 116, 45, 66, 99, 99]⟩, Value.string ⟨#[82, 101, 115, 101, 110, 116, 45, 67, 99]⟩, Value.string ⟨#[82, 101, 115, 101, 110, 116, 45, 70, 114, 111, 109]⟩, Value.string ⟨#[82, 101, 115, 101, 110, 116, 45, 82, 101, 112, 108, 121, 45, 84, 111]⟩, Value.string ⟨#[82, 101, 115, 101, 110, 116, 45, 83, 101, 110, 100, 101, 114]⟩, Value.string ⟨#[82, 101, 115, 101, 110, 116, 45, 84, 111]⟩, Value.string ⟨#[83, 101, 110, 100, 101, 114]⟩, Value.string ⟨#[84, 111]⟩] 9)).1
  have HP := Lib.hid hp
  have HB := Lib.hid (Below.alloc1 w (.cells #[Value.string ⟨#[66, 99, 99]⟩, Value.string ⟨#[67, 99]⟩, Value.string ⟨#[70, 114, 111, 109]⟩, Value.string ⟨#[82, 101, 112, 108, 121, 45, 84, 111]⟩, Value.string ⟨#[82, 101, 115, 101, 110, 116, 45, 66, 99, 99]⟩, Value.string ⟨#[82, 101, 115, 101, 110, 116, 45, 67, 99]⟩, Value.string ⟨#[82, 101, 115, 101, 110, 116, 45, 70, 114, 111, 109]⟩, Value.string ⟨#[82, 101, 115, 101, 110, 116, 45, 82, 101, 112, 108, 121, 45, 84, 111]⟩, Value.string ⟨#[82, 101, 115, 101, 110, 116, 45, 83, 101, 110, 100, 101, 114]⟩, Value.string ⟨#[82, 101, 115, 101, 110, 116, 45, 84, 111]⟩, Value.string ⟨#[83, 101, 110, 100, 101, 114]⟩, Value.string ⟨#[84, 111]⟩] 9))
  clear hp
  go_enter Tryz.func13, Tryz.ntmps13
  go_wp2
  go_ret
  exact names_end HP.out HB.out
/-- While the names are gone through. -/
structure NmSt (w wx : World) (g1 g2 k : Nat) : Prop where
  below : Below w.heap.size w wx
  one : ∀ j, k ≤ j → j < 12 → wx.cell? ⟨g1, j, none⟩ = some (.string (nm j))
  two : ∀ j, j < 12 → wx.cell? ⟨g2, j, none⟩ = some (.string (nm j))
  free : ∀ j, wx.frozen? ⟨g1, j, none⟩ = false
  low : w.heap.size ≤ g1
  ne : g1 ≠ g2
  lt : g2 < wx.heap.size
theorem NmSt.put {w wx : World} {g1 g2 k : Nat} (h : NmSt w wx g1 g2 k) (v : Value) : NmSt w (wx.setCell ⟨g1, k, none⟩ v) g1 g2 (k + 1) :=
  ⟨h.below.setCell (p := ⟨g1, k, none⟩) h.low v, fun j hk hj => by rw [World.cell?_setCell_other _ _ _ _ (fun e => by injection e with _ e; omega)]; exact h.one j (by omega) hj,
    fun j hj => by rw [World.cell?_setCell_other _ _ _ _ (fun e => h.ne (by injection e))]; exact h.two j hj, fun j => by rw [World.frozen?_setCell]; exact h.free j, h.low, h.ne, Nat.lt_of_lt_of_le h.lt (KeepX.set g1 wx k v).size⟩
theorem NmSt.drewN {w wx : World} {g1 g2 k : Nat} (h : NmSt w wx g1 g2 k) (n : Nat) : NmSt w (wx.drewN n) g1 g2 k := ⟨⟨h.below.os, h.below.tape, h.below.output, h.below.size, h.below.block⟩, h.one, h.two, h.free, h.low, h.ne, h.lt⟩
set_option maxHeartbeats 8000000 in
set_option maxRecDepth 100000 in
theorem wNames (over : ByteArray) (w : World) (he : EnvC w) : Calls Tryz.prog 4 #[.string over] w fun e w' => e = .returned (.bool true) ∧ Below w.heap.size w w' := by
  have C0 := Lib.hid (wAwake w he)
  have C1 : Hid (∀ W, Calls Tryz.prog 12 #[] W (NamesEnd W)) := pNames
  have C2 : Hid (∀ W, Calls Tryz.prog 13 #[] W (NamesEnd W)) := rNames
  clear he
  go_enter Tryz.func4, Tryz.ntmps4
  go_wp2_with (first | (go_at_call 7; refine C0.out.mono ?_; rintro ee w1 ⟨rfl, hb⟩; refine Hid.out ?_) | fail)
  refine Lib.hid ?_
  have HB1 := Lib.hid hb
  clear hb C0
  go_wp2_with (first | (go_at_call 12; refine (C1.out _).mono ?_; rintro ee w2 ⟨g1, rfl, h1, h2, h3, h4, hb⟩; refine Hid.out ?_) | fail)
  refine Lib.hid ?_
  have HN1 : Hid (w1.heap.size ≤ g1 ∧ g1 < w2.heap.size ∧ (∀ j, j < 12 → w2.cell? ⟨g1, j, none⟩ = some (.string (nm j))) ∧ (∀ j, w2.frozen? ⟨g1, j, none⟩ = false) ∧ Below w1.heap.size w1 w2) := ⟨h1, h2, h3, h4, hb⟩
  clear h1 h2 h3 h4 hb
  go_wp2_with (first | (go_at_call 13; refine (C2.out _).mono ?_; rintro ee w3 ⟨g2, rfl, h1, h2, h3, h4, hb⟩; refine Hid.out ?_) | fail)
  refine Lib.hid ?_
  have HS3 : Hid (NmSt w w3 g1 g2 0) := by
    obtain ⟨a1, a2, a3, a4, ab⟩ := HN1.out
    refine ⟨HB1.out.trans ((ab.trans (hb.mono ab.size)).mono HB1.out.size), fun j _ hj => cell_on (a3 j hj) hb, h3, fun j => ?_, Nat.le_trans HB1.out.size a1, by omega, h2⟩
    have e := hb.block g1 a2
    have f := a4 j
    unfold World.frozen? at f ⊢
    rw [e]; exact f
  clear h1 h2 h3 h4 hb HN1 HB1 C2
  go_wp2
  go_loopw [6] (fun i wx => ∃ k : Nat, k ≤ 12 ∧ i = .int .i64 (k : Int) ∧ Hid (NmSt w wx g1 g2 k)) (fun i _ => 12 - (intOf i).toNat)
  case atStart => exact ⟨0, by omega, rfl, HS3⟩
  case round =>
    clear HS3
    obtain ⟨k, hk, rfl, hS⟩ := hrel
    by_cases hlt : k < 12
    · have i0 : (0 : Int) ≤ (k : Int) := by omega
      have i1 : (k : Int) < 12 := by omega
      have y1 := hS.out.one k (Nat.le_refl _) hlt
      have y2 := hS.out.two k hlt
      have y3 := hS.out.free k
      have HP := Lib.hid (fun n => (hS.out.drewN n).put (.string over))
      clear hS
      generalize nm k = x at y1 y2
      go_wp2
      go_quiet (fail)
      go_wp2
      go_roundw
      case rel => exact ⟨k + 1, by omega, by go_num, HP.out nq⟩
      case measure => simp [intOf]; omega
    · have i1 : ¬ (k : Int) < 12 := by omega
      have HS := Lib.hid hS.out
      clear hS
      go_wp2_with (first | (go_at_call 12; refine (C1.out _).mono ?_; rintro ee w5 ⟨g3, rfl, h1, h2, h3, h4, hb⟩; refine Hid.out ?_) | fail)
      refine Lib.hid ?_
      have y1 := h3 0 (by omega)
      have y2 := cell_on (HS.out.two 0 (by omega)) hb
      have HB5 := Lib.hid (HS.out.below.trans (hb.mono HS.out.below.size))
      clear h1 h2 h3 h4 hb HS
      generalize nm 0 = x at y1 y2
      go_wp2
      go_quiet (fail)
      go_wp2
      go_ret
      exact ⟨rfl, ⟨HB5.out.os, HB5.out.tape, HB5.out.output, HB5.out.size, HB5.out.block⟩⟩
end Go.Proofs.YtnehgbpfgehhiaaGreatDoor.Path
/-
  CANON: what every row of this layer shares: the library's variables, the witness.
-/
namespace Go.Proofs.YtnehgbpfgehhiaaGreatDoor.Path
open Go.ChangeShapes Go.WideShapes Go.ChangeAt Go.RowKit Base
open Go.ChangeMaps (open_string shut_string)
theorem own : ownKnob Tryz.prog.godebug = none := by kernel_rfl
theorem laidOut : laidOutB Tryz.prog = true := by kernel_rfl
theorem g64 : Tryz.prog.globalNamed "math/bits.deBruijn64tab" = some 10 := by kernel_rfl
theorem g64Type : (Tryz.prog.globals[10]?).map (·.type) = some 328 := by kernel_rfl
theorem gPow : Tryz.prog.globalNamed "internal/strconv.uint64pow10" = some 8 := by kernel_rfl
theorem gPowType : (Tryz.prog.globals[8]?).map (·.type) = some 320 := by kernel_rfl
theorem gMaxL : Tryz.prog.globalNamed "internal/bytealg.MaxLen" = some 0 := by kernel_rfl
theorem gSynN : Tryz.prog.globalNamed "strconv.ErrSyntax" = some 6 := by kernel_rfl
theorem gRngN : Tryz.prog.globalNamed "strconv.ErrRange" = some 7 := by kernel_rfl
theorem gSynType : (Tryz.prog.globals[6]?).map (·.type) = some 178 := by kernel_rfl
theorem gRngType : (Tryz.prog.globals[7]?).map (·.type) = some 178 := by kernel_rfl
theorem gFold : Tryz.prog.globalNamed "unicode.asciiFold" = some 1 := by kernel_rfl
theorem gFoldType : (Tryz.prog.globals[1]?).map (·.type) = some 219 := by kernel_rfl
theorem cellsU64 : Tryz.prog.cellsOf 199 = 1 := by kernel_rfl
theorem cellsPow : Tryz.prog.cellsOf 320 = 20 := by kernel_rfl
theorem cells64 : Tryz.prog.cellsOf 328 = 64 := by kernel_rfl
theorem cellsU8 : Tryz.prog.cellsOf 5 = 1 := by kernel_rfl
theorem cellsU16 : Tryz.prog.cellsOf 218 = 1 := by kernel_rfl
theorem cellsFold : Tryz.prog.cellsOf 219 = 128 := by kernel_rfl
theorem cellsStr : Tryz.prog.cellsOf 9 = 1 := by kernel_rfl
theorem cellsErr : Tryz.prog.cellsOf 326 = 1 := by kernel_rfl
theorem star : "*" ++ "errors.errorString" = "*errors.errorString" := by decide
theorem rowErr (u : TypeId) (h : Tryz.prog.typeName? 3 u = some "*errors.errorString") : u = 324 :=
  typeName_ptr_named (nm := "errors.errorString") (by rw [star]; kernel_rfl) (by kernel_rfl) (by decide) u (by rw [star]; exact h)
abbrev laidL : List (String × DataW Unit) := [("math/bits.deBruijn32tab", Rows.laid_math_bits_deBruijn32tab), ("math/bits.deBruijn64tab", Rows.laid_math_bits_deBruijn64tab), ("internal/strconv.uint64pow10", Rows.laid_internal_strconv_uint64pow10), ("unicode/utf8.acceptRanges", Rows.laid_unicode_utf8_acceptRanges), ("strconv.ErrRange", Rows.laid_strconv_ErrRange), ("strconv.ErrSyntax", Rows.laid_strconv_ErrSyntax), ("unicode.asciiFold", Rows.laid_unicode_asciiFold), ("unicode.caseOrbit", Rows.laid_unicode_caseOrbit), ("unicode.CaseRanges", Rows.laid_unicode_CaseRanges), ("unicode/utf8.first", Rows.laid_unicode_utf8_first)]
set_option maxRecDepth 100000 in
theorem max_of {W : World} (hsh : W.ShapedOpen Tryz.prog) : ∃ m, W.var? Tryz.prog "internal/bytealg.MaxLen" = some #[.int .i64 m] := by
  have h0 : ((begin Tryz.prog (fun _ _ => 0) default).world.heap[0]?).bind Obj.row? = some (#[.int .i64 0], 3) := by kernel_rfl
  obtain ⟨cs, hh, hs, hr⟩ := hsh.1 0 _ 3 (of_decide_eq_true (by kernel_rfl)) h0
  obtain ⟨ts, hts, _, hall⟩ := hr (by kernel_rfl)
  rw [show Tryz.prog.cellTypes Tryz.prog.depth 3 = some [3] by kernel_rfl] at hts
  cases hts
  have h1 : 0 < cs.size := by rw [hs]; decide
  obtain ⟨u, hu, hok⟩ := hall 0 cs[0] (by simp [h1])
  have hu3 : u = 3 := by simpa using hu.symm
  subst hu3
  have hv : ∃ m, cs[0] = .int .i64 m := by
    simp only [Cell.ok, Tryz.underlying3] at hok
    split at hok <;> simp_all
  obtain ⟨m, hm⟩ := hv
  refine ⟨m, ?_⟩
  unfold World.var?
  rw [gMaxL]
  simp only [Option.bind_some, hh]
  congr 1
  apply Array.ext_getElem?
  intro i
  cases i with
  | zero => simp [h1, hm]
  | succ j => rw [Array.getElem?_eq_none (by rw [hs]; simp), Array.getElem?_eq_none (by simp)]
def foldT : List Int := [0, 1, 2, 3, 4, 5, 6, 7, 8, 9, 10, 11, 12, 13, 14, 15, 16, 17, 18, 19, 20, 21, 22, 23, 24, 25, 26, 27, 28, 29, 30, 31, 32, 33, 34, 35, 36, 37, 38, 39, 40, 41, 42, 43, 44, 45, 46, 47, 48, 49, 50, 51, 52, 53, 54, 55, 56, 57, 58, 59, 60, 61, 62, 63, 64, 97, 98, 99, 100, 101, 102, 103, 104, 105, 106, 107, 108, 109, 110, 111, 112, 113, 114, 115, 116, 117, 118, 119, 120, 121, 122, 91, 92, 93, 94, 95, 96, 65, 66, 67, 68, 69, 70, 71, 72, 73, 74, 8490, 76, 77, 78, 79, 80, 81, 82, 383, 84, 85, 86, 87, 88, 89, 90, 123, 124, 125, 126, 127]
set_option maxRecDepth 100000 in
theorem env_of {W : World} (h : laidMetH Tryz.prog laidL W) (hsh : W.ShapedOpen Tryz.prog) : EnvC W := by
  rw [MakeChecks.laidMetH_plain _ _ _ (by kernel_rfl)] at h
  have h1 : laidMet Tryz.prog _ W := h.tail
  have t1 := Lib.tabIs_of_head (k := .u8) (zs := [0, 1, 56, 2, 57, 49, 28, 3, 61, 58, 42, 50, 38, 29, 17, 4, 62, 47, 59, 36, 45, 43, 51, 22, 53, 39, 33, 30, 24, 18, 12, 5, 63, 55, 48, 27, 60, 41, 37, 16, 46, 35, 44, 21, 52, 32, 23, 11, 54, 26, 40, 15, 34, 20, 31, 10, 25, 14, 19, 9, 13, 8, 7, 6]) g64 g64Type Tryz.underlying328 Tryz.underlying5 cellsU8 cells64 h1
  have h2 := h1.tail
  have t2 := Lib.tabIs_of_head (k := .u64) (zs := Lib.pow10Tab) gPow gPowType Tryz.underlying320 Tryz.underlying199 cellsU64 cellsPow h2
  have h4 := h2.tail.tail
  obtain ⟨a0, s0, hv0, _, _, _⟩ := laid_sentinel h4 gRngN gRngType Tryz.underlying178 rowErr Tryz.underlying324 Tryz.underlying326 rfl rfl Tryz.underlying9 cellsErr cellsStr
  obtain ⟨a1, s1, hv1, _, _, _⟩ := laid_sentinel h4.tail gSynN gSynType Tryz.underlying178 rowErr Tryz.underlying324 Tryz.underlying326 rfl rfl Tryz.underlying9 cellsErr cellsStr
  have h6 := h4.tail.tail
  have t3 := Lib.tabIs_of_head (k := .u16) (zs := foldT) gFold gFoldType Tryz.underlying219 Tryz.underlying218 cellsU16 cellsFold h6
  have hmax := max_of hsh
  have hf : ∀ (j : Nat) b, sixT.data.toList[j]? = some b → b.toNat < 128 ∧ ∃ f : Nat, f < 128 ∧ W.cell? ⟨1, b.toNat, none⟩ = some (.int .u16 (f : Int)) ∧ W.cell? ⟨1, f, none⟩ = some (.int .u16 (b.toNat : Int)) := fun j b hj => by
    match j, hj with
    | 0, hj => cases hj; exact ⟨by decide, 105, by decide, t3.cell gFold 73 (by decide), t3.cell gFold 105 (by decide)⟩
    | 1, hj => cases hj; exact ⟨by decide, 112, by decide, t3.cell gFold 80 (by decide), t3.cell gFold 112 (by decide)⟩
    | 2, hj => cases hj; exact ⟨by decide, 86, by decide, t3.cell gFold 118 (by decide), t3.cell gFold 86 (by decide)⟩
    | 3, hj => cases hj; exact ⟨by decide, 54, by decide, t3.cell gFold 54 (by decide), t3.cell gFold 54 (by decide)⟩
    | 4, hj => cases hj; exact ⟨by decide, 58, by decide, t3.cell gFold 58 (by decide), t3.cell gFold 58 (by decide)⟩
    | (k + 5), hj => exact absurd (List.getElem?_eq_some_iff.1 hj).1 (by show ¬ k + 5 < 5; omega)
  have hcx : Cidr.EnvS W := ⟨⟨hmax, ⟨_, _, hv1⟩, ⟨_, _, hv0⟩, t2⟩, t1.cell g64 15 (by decide)⟩
  obtain ⟨m, hm⟩ := hmax
  exact ⟨⟨hcx, fun j b hj => (hf j b hj).1, fun j b hj => (hf j b hj).2⟩, ⟨m, Cidr.var_cell gMaxL hm⟩⟩
/-- THE WITNESS: a world in which all the listed variables are laid. -/
theorem laid_met (os : Os) (args : Array Value) : laidMetH Tryz.prog laidL ((World.laidAll Tryz.prog os laidL).forCall (fun _ _ => 0) ⟨#[], args, []⟩).memory := by
  rw [MakeChecks.laidMetH_plain _ _ _ (by kernel_rfl)]
  exact laidMet_laidAll _ (by kernel_rfl) (by kernel_rfl)
theorem laid_shaped (os : Os) (args : Array Value) : ((World.laidAll Tryz.prog os laidL).forCall (fun _ _ => 0) ⟨#[], args, []⟩).Shaped Tryz.prog :=
  World.shaped_of_ZipB (by kernel_rfl) (by kernel_rfl)
theorem witness_laid {H : Type} {enc : TypeId × Value → H} {C : Checked} {os : Os} {f : FuncId} {fn : Func} {s : OpenSpec} {conds : List PathCond} {apart : Bool} {laid : List (String × DataW Unit)} (w0 : World) (args : Array Value) (hos : w0.os = os)
    (hsh : (w0.forCall (fun _ _ => 0) ⟨#[], args, []⟩).Shaped C.prog)
    (hok : Input.okWideB C.prog (w0.forCall (fun _ _ => 0) ⟨#[], args, []⟩) f ⟨#[], args, []⟩ = true)
    (hrow : s.preRow enc C.prog fn conds apart laid (w0.forCall (fun _ _ => 0) ⟨#[], args, []⟩).memory args) :
    ∃ (w : World) (tape : Tape) (i : Input), w.os = os ∧ (w.forCall tape i).Shaped C.prog ∧ i.vars = [] ∧ Input.okWide C.prog (w.forCall tape i) .any w.heap.size f i ∧
      s.preRow enc C.prog fn conds apart laid (w.forCall tape i).memory i.args ∧ ({} : Assume).holds C.prog (lone (Frame.enter C.prog f i.args .normal) [] (w.forCall tape i)) :=
  ⟨w0, fun _ _ => 0, ⟨#[], args, []⟩, hos, hsh, (Input.okWide_of_okWideB (base := 0) hok).1, (Input.okWide_of_okWideB hok).2, hrow, by
    simp only [Assume.holds]
    exact ⟨by simp, by simp, fun _ => Modest.zero, by simp, by simp⟩⟩
end Go.Proofs.YtnehgbpfgehhiaaGreatDoor.Path
