/-
  DATE, the program: the variables that it reads.
-/
import Derived.Test.YtklhgaioolamfaaDoorDatQ2
import Derived.Lib.SmallJoins
import Derived.Lib.LaidTab
import Derived.Lib.ItoaNum
namespace Go.Proofs.YtklhgaioolamfaaDoor.Date
open Go.RowKit Base
theorem gPow : Tryd.prog.globalNamed "internal/strconv.uint64pow10" = some 3 := by kernel_rfl
/-- What the listed variables hold. -/
structure Vars (w : World) : Prop where
  day : ∀ k, k < 7 → w.cell? ⟨0, k, none⟩ = some (S (nmAt dayB k))
  mon : ∀ k, k < 12 → w.cell? ⟨1, k, none⟩ = some (S (nmAt monB k))
  mds : ∀ k, k < 12 → w.cell? ⟨2, k, none⟩ = some (.int .i64 (mtab.getD k 0 : Int))
  max : ∃ m, w.cell? ⟨4, 0, none⟩ = some (.int .i64 m)
  pow : Lib.TabIs Tryd.prog w "internal/strconv.uint64pow10" .u64 Lib.pow10Tab
theorem Vars.on {w w' : World} (h : Vars w) (hb : Below w.heap.size w w') : Vars w' where
  day := fun k hk => (hb.cell (p := ⟨_, k, none⟩) (cell_lt (h.day k hk))).trans (h.day k hk)
  mon := fun k hk => (hb.cell (p := ⟨_, k, none⟩) (cell_lt (h.mon k hk))).trans (h.mon k hk)
  mds := fun k hk => (hb.cell (p := ⟨_, k, none⟩) (cell_lt (h.mds k hk))).trans (h.mds k hk)
  max := by
    obtain ⟨m, hm⟩ := h.max
    exact ⟨m, (hb.cell (p := ⟨_, 0, none⟩) (cell_lt hm)).trans hm⟩
  pow := Go.Joins.tab_stays gPow h.pow hb (Nat.le_refl _)
theorem Vars.at {w w' : World} {n : Nat} (h : Vars w) (hn : n = w.heap.size) (hb : Below n w w') : Vars w' := by subst hn; exact h.on hb
end Go.Proofs.YtklhgaioolamfaaDoor.Date
