/-
  LINES, the given answers: Feed.
-/
import Derived.Test.YtgiooblopdoobaaLinObj
namespace Go.Proofs.Ytgiooblopdoobaa.Lines
open Go.RowKit Base
/-- Where a reader's bytes lie behind a step: where they lay, or in a block that is new. -/
def SameOrNew (v v' : Value) (n : Nat) : Prop := v'.ownBlock = v.ownBlock ∨ ∀ b, v'.ownBlock = some b → n ≤ b
theorem KeepR.refl (g : Nat) (v : Value) (w : World) : KeepR g v w w := ⟨rfl, rfl, rfl, Nat.le_refl _, fun _ _ _ _ => rfl⟩
theorem KeepR.set {g : Nat} {v : Value} {w w1 : World} (h : KeepR g v w w1) (i : Nat) (u : Value) : KeepR g v w (w1.setCell ⟨g, i, none⟩ u) := by
  have hs := KeepX.set g w1 i u
  exact ⟨hs.os.trans h.os, hs.tape.trans h.tape, hs.output.trans h.output, Nat.le_trans h.size hs.size, fun k hk hg hv => (hs.block k (Nat.lt_of_lt_of_le hk h.size) hg).trans (h.block k hk hg hv)⟩
theorem KeepR.of_grown {g : Nat} {v : Value} {w w1 : World} (h : w.grownBy w1 v.ownBlock) : KeepR g v w w1 := ⟨h.os, h.tape, h.output, h.size, fun k hk _ hv => h.block k hk hv.symm⟩
/-- The reader's block, its bytes put anew. -/
theorem RdAt.put {w : World} {g : Nat} {v0 v : Value} {m : Int} {l : List UInt8} (h : w.heap[g]? = some (.cells #[.int .i64 m, v0] 50 (0, 0))) (ho : Owns w 0 v l) (hne : v.ownBlock ≠ some g) : RdAt (w.setCell ⟨g, 1, none⟩ v) g v m l := by
  refine ⟨by rw [heap_setCell_same w g 1 _ _ _ h]; rfl, ho.keptB fun b hb hlt => ?_, hne⟩
  have : b ≠ g := fun e => hne (by rw [hb, e])
  exact (KeepX.set g w 1 v).block b hlt this
def FeedEnd (g : Nat) (v : Value) (most : Int) (l d : List UInt8) (w : World) (e : Ending) (w' : World) : Prop :=
  e = .returned (.tuple #[]) ∧ KeepR g v w w' ∧ ∃ v', RdAt w' g v' most (l ++ d) ∧ SameOrNew v v' w.heap.size
set_option maxHeartbeats 1600000 in
theorem rFeed (g : Nat) (v x : Value) (most : Int) (l d : List UInt8) (w : World) (h : RdAt w g v most l) (hr : Reads w x d) (hlim : l.length + d.length ≤ 140737488355328) :
    Calls Try.prog 11 #[.pointer (some ⟨g, 0, none⟩), x] w (FeedEnd g v most l d w) := by
  obtain ⟨c0, c1, _, _⟩ := two_cells h.1
  have HG := Lib.hid (heap_lt h.1)
  have HR := Lib.hid hr
  have HH := Lib.hid h
  clear h hr
  go_enter Try.func11, Try.ntmps11
  go_wp2_with (at_builtin; go_must (refine wp_append_at _ rfl _ _ rfl v x l d rfl rfl HH.out.2.1 HR.out hlim ?_); intro v1 w1 own1 gr1 at1; refine Hid.out ?_)
  refine Lib.hid ?_
  have HO1 := Lib.hid own1
  have HGR := Lib.hid gr1
  have HAT := Lib.hid at1
  have HB1 : Hid (w1.heap[g]? = some (.cells #[.int .i64 most, v] 50 (0, 0))) := by
    show _ = _
    rw [gr1.block g HG.out HH.out.2.2.symm]; exact HH.out.1
  obtain ⟨d0, d1, e0, e1⟩ := two_cells HB1.out
  obtain ⟨va, vc, hvf⟩ := own1.reads.form
  subst hvf
  clear own1 gr1 at1 c0 c1
  go_wp2
  go_end0
  rw [← List.length_append]
  have hne : (Value.slice va (l ++ d).length vc).ownBlock ≠ some g := by
    rcases HAT.out with h | h
    · rw [h]; exact HH.out.2.2
    · rw [h]; intro e; have := HG.out; cases e; omega
  refine ⟨rfl, (KeepR.of_grown HGR.out).set 1 _, _, RdAt.put HB1.out HO1.out hne, ?_⟩
  rcases HAT.out with h | h
  · exact Or.inl h
  · exact Or.inr fun b hb => by rw [h] at hb; cases hb; exact Nat.le_refl _
end Go.Proofs.Ytgiooblopdoobaa.Lines
