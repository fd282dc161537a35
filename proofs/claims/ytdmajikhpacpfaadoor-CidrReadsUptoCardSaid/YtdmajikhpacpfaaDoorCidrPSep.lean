/-
  CIDR, the program: separators; what a rune of a text takes; the library's tables for it.
-/
import Derived.Test.YtdmajikhpacpfaaDoorCidrFrame
import Derived.Test.YtdmajikhpacpfaaDoorCidrWords
import Derived.Lib.LaidU8
import Derived.Lib.MapLaws
import Derived.Lib.TrimUEq
import Derived.PinnedBridge
namespace Go.Proofs.YtdmajikhpacpfaaDoor.Cidr
open Go.ChangeShapes Go.WideShapes Go.ChangeAt Go.RowKit Base
/-- The two tables of unicode/utf8. -/
abbrev Utf (w : World) : Prop := Lib.Utf8Tabs 1 2 w
theorem utf_of {W : World} (h : laidMetH Tryd.prog laidL W) : Utf W := by
  rw [MakeChecks.laidMetH_plain _ _ _ (by kernel_rfl)] at h
  have X : U8Extra Tryd.prog Tryd.lays260_ren := ⟨by kernel_rfl, by kernel_rfl, by kernel_rfl, by kernel_rfl, by kernel_rfl, by kernel_rfl, by kernel_rfl⟩
  have h1 : (("unicode/utf8.first", Rows.laid_unicode_utf8_first) : String × DataW Unit) ∈ laidL := by simp [laidL]
  have h2 : (("unicode/utf8.acceptRanges", Rows.laid_unicode_utf8_acceptRanges) : String × DataW Unit) ∈ laidL := by simp [laidL]
  have r1 := Lib.laidMet.reads h h1
  have r2 := Lib.laidMet.reads h h2
  rw [show Rows.laid_unicode_utf8_first = Lib.firstData from Pinned.utf8First_eq] at r1
  rw [show Rows.laid_unicode_utf8_acceptRanges = Lib.acceptData by kernel_rfl] at r2
  exact utf8Tabs_of_reads Tryd.lays260 X r1 r2
theorem utf_on {w w' : World} (h : Utf w) (hb : Below w.heap.size w w') : Utf w' := Utf8Tabs_below h hb
/-- A rune that stands between. -/
def sepR (r : Nat) : Bool := decide (r = 32 ∨ r = 9 ∨ r = 10 ∨ r = 13 ∨ r = 44)
set_option maxHeartbeats 1000000 in
set_option maxRecDepth 100000 in
theorem pSep (r : Nat) (w : World) : Calls Tryd.prog 35 #[.int .i32 (r : Int)] w fun e w' => e = .returned (.bool (sepR r)) ∧ w = w' := by
  by_cases h1 : r = 32
  · subst h1
    go_enter Tryd.func35, Tryd.ntmps35
    go_wp2
    go_ret
    exact ⟨rfl, rfl⟩
  by_cases h2 : r = 9
  · subst h2
    go_enter Tryd.func35, Tryd.ntmps35
    go_wp2
    go_ret
    exact ⟨rfl, rfl⟩
  by_cases h3 : r = 10
  · subst h3
    go_enter Tryd.func35, Tryd.ntmps35
    go_wp2
    go_ret
    exact ⟨rfl, rfl⟩
  by_cases h4 : r = 13
  · subst h4
    go_enter Tryd.func35, Tryd.ntmps35
    go_wp2
    go_ret
    exact ⟨rfl, rfl⟩
  by_cases h5 : r = 44
  · subst h5
    go_enter Tryd.func35, Tryd.ntmps35
    go_wp2
    go_ret
    exact ⟨rfl, rfl⟩
  have hs : sepR r = false := by unfold sepR; rw [decide_eq_false_iff_not]; omega
  rw [hs]
  have e1 : ((r : Int) == 32) = false := by rw [beq_eq_false_iff_ne]; omega
  have e2 : ((r : Int) == 9) = false := by rw [beq_eq_false_iff_ne]; omega
  have e3 : ((r : Int) == 10) = false := by rw [beq_eq_false_iff_ne]; omega
  have e4 : ((r : Int) == 13) = false := by rw [beq_eq_false_iff_ne]; omega
  have e5 : ((r : Int) == 44) = false := by rw [beq_eq_false_iff_ne]; omega
  clear h1 h2 h3 h4 h5 hs
  go_enter Tryd.func35, Tryd.ntmps35
  go_wp2
  go_ret
  exact ⟨rfl, rfl⟩
/-! ### What a rune takes -/
theorem wordsA_app {r : List UInt8} : ∀ (x cur : List UInt8), (∀ y ∈ x, isSep y = false) → wordsA cur (x ++ r) = wordsA (cur ++ x) r
  | [], cur, _ => by simp
  | y :: t, cur, h => by
    rw [List.cons_append, wordsA, if_neg (by rw [h y List.mem_cons_self]; simp), wordsA_app t (cur ++ [y]) fun z hz => h z (List.mem_cons_of_mem _ hz)]
    simp
theorem sep_high {x : UInt8} (h : 128 ≤ x.toNat) : isSep x = false := by
  unfold isSep
  rw [decide_eq_false_iff_not]
  omega
theorem take_high {l : List UInt8} : ∀ (k : Nat), (∀ j, j < k → 128 ≤ (l.getD j 0).toNat) → ∀ y ∈ l.take k, isSep y = false := fun k h y hy => by
  obtain ⟨j, hj⟩ := List.mem_iff_getElem?.1 hy
  have hjk : j < k := by
    have := (List.getElem?_eq_some_iff.1 hj).1
    rw [List.length_take] at this; omega
  rw [List.getElem?_take_of_lt hjk] at hj
  have := h j hjk
  rw [List.getD_eq_getElem?_getD, hj] at this
  exact sep_high this
/-- A rune: a byte of ASCII; or bytes none of which stands between, and itself none that does. -/
theorem rune_take (s : ByteArray) (h0 : 0 < s.size) : ∃ r k : Nat, Lib.decodeGo s = (r, k) ∧ 1 ≤ k ∧ k ≤ s.size ∧ ((k = 1 ∧ sepR r = true ∧ isSep (s.data.toList.getD 0 0) = true) ∨ (sepR r = false ∧ ∀ y ∈ s.data.toList.take k, isSep y = false)) := by
  have hl := str_len s
  have hd : Lib.decodeGo s = Lib.decodeN s.data.toList.length (s.data.toList.getD 0 0).toNat (s.data.toList.getD 1 0).toNat (s.data.toList.getD 2 0).toNat (s.data.toList.getD 3 0).toNat := by
    unfold Lib.decodeGo
    rw [if_neg (by omega), Lib.decode_N]
    simp
  generalize s.data.toList = l at hd hl
  have hn : ∀ r, 128 ≤ r → sepR r = false := fun r hr => by unfold sepR; rw [decide_eq_false_iff_not]; omega
  rcases Lib.decodeN_shape l.length (l.getD 0 0).toNat (l.getD 1 0).toNat (l.getD 2 0).toNat (l.getD 3 0).toNat with ⟨a, e⟩ | ⟨a, b, c, d, e⟩ | ⟨a, b, c, c2, d, _, e⟩ | ⟨a, b, c, c2, c3, d, _, e⟩ | e
  · refine ⟨_, _, hd.trans e, Nat.le_refl _, by omega, ?_⟩
    have hx : sepR (l.getD 0 0).toNat = isSep (l.getD 0 0) := rfl
    cases hs : isSep (l.getD 0 0) with
    | true => exact Or.inl ⟨rfl, by rw [hx, hs], rfl⟩
    | false =>
      refine Or.inr ⟨by rw [hx, hs], fun y hy => ?_⟩
      cases l with
      | nil => simp at hl; omega
      | cons z t =>
        rw [List.take_succ_cons, List.take_zero, List.mem_singleton] at hy
        subst hy; exact hs
  · refine ⟨_, _, hd.trans e, by omega, by omega, Or.inr ⟨hn _ d, take_high 2 fun j hj => ?_⟩⟩
    rcases (by omega : j = 0 ∨ j = 1) with rfl | rfl <;> omega
  · refine ⟨_, _, hd.trans e, by omega, by omega, Or.inr ⟨hn _ (by omega), take_high 3 fun j hj => ?_⟩⟩
    rcases (by omega : j = 0 ∨ j = 1 ∨ j = 2) with rfl | rfl | rfl <;> omega
  · refine ⟨_, _, hd.trans e, by omega, by omega, Or.inr ⟨hn _ (by omega), take_high 4 fun j hj => ?_⟩⟩
    rcases (by omega : j = 0 ∨ j = 1 ∨ j = 2 ∨ j = 3) with rfl | rfl | rfl | rfl <;> omega
  · by_cases ha : 128 ≤ (l.getD 0 0).toNat
    · refine ⟨_, _, hd.trans e, Nat.le_refl _, by omega, Or.inr ⟨hn _ (by omega), take_high 1 fun j hj => ?_⟩⟩
      obtain rfl : j = 0 := by omega
      exact ha
    · have := Lib.decodeN_ascii l.length (l.getD 0 0).toNat (l.getD 1 0).toNat (l.getD 2 0).toNat (l.getD 3 0).toNat (by omega)
      have := congrArg Prod.fst (e.symm.trans this)
      simp only at this
      omega
end Go.Proofs.YtdmajikhpacpfaaDoor.Cidr
