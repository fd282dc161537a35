/-
  A range over a function whose iterator keeps its state in a cell of its own: which of the things that come is bad.
-/
import Derived.Test.YtnogpoojhhmadaaDoorStrBase
import Derived.RangeFuncNested
import Derived.RangeFuncBox
import Derived.RangeFuncLeaves
import Derived.RangeFuncCalls
import Derived.RangeFuncBound
import Derived.RangeFuncWrites
import Derived.Shelf.Abstract
namespace Go.Proofs.YtnogpoojhhmadaaDoor.Header
open Go.RowKit Base
variable {F : Fence} {n : Nat} {P : Program}
/-- What an iterator promises that turns the cell Bs between two rounds. -/
def SeqC {α : Type} (F : Fence) (n : Nat) (P : Program) (gf : Nat) (lb : Array Value) (encs : α → Array Value) (Kp : World → World → Prop) (Bs : Nat) (S Sp : List α → Prop) (w : World) : Prop :=
  ∀ (l : Nat) (J Jx : List α → World → Prop) (W : World), Below w.heap.size w W →
    (∀ pre A B row, J pre A → A.grownBy B row → (∀ r, row = some r → W.heap.size ≤ r ∧ ∃ o : Obj, A.heap[r]? = some o ∧ o.isWalk = true) → J pre B) →
    (∀ pre A v, J pre A → J pre (A.setCell ⟨Bs, 0, none⟩ v)) →
    (∀ pre x W1, J pre W1 → YieldAt F (n - 1) P l (encs x) W1 fun e W' =>
      (e = .returned (.bool true) ∧ J (pre ++ [x]) W' ∧ Kp W1 W') ∨ (e = .returned (.bool false) ∧ Jx (pre ++ [x]) W')) →
    J [] W →
    CallsIn F n P gf (#[.func (.yield l) #[] #[]] ++ lb) W fun e W' => (∃ v, e = .returned v) ∧ ((∃ xs, S xs ∧ J xs W') ∨ (∃ pre, Sp pre ∧ Jx pre W'))
/-- A block that a step leaves. -/
theorem grown_at {A B : World} {row : Option Nat} {k : Nat} {o : Obj} (hg : A.grownBy B row) (hk : A.heap[k]? = some o) (hr : row ≠ some k) : B.heap[k]? = some o :=
  (hg.block k (heap_lt hk) (fun e => hr e.symm)).trans hk
theorem put_at {A : World} {j k : Nat} {o o' : Obj} (hj : A.heap[j]? = some o) (h : j ≠ k) : (A.putObj k o').heap[j]? = some o := (World.putObj_heap_other h).trans hj
theorem range_any {α : Type} {g : Operand} {ps : Array Tmp} {assign body : Code} {Q : Exit → Act → World → Prop} {a : Act} {w : World}
    (hro : F.round = none) (h1 : 1 ≤ n) {gf : Nat} {lb : Array Value} (hg : a.eval g = .func (.func gf) #[] lb) (hFg : F.fn gf) (eg : ∀ args w, (callFunc gf args).run P w = .ok (.enter gf args) w)
    {encs : α → Array Value} {Kp : World → World → Prop} {Bs : Nat} {S Sp : List α → Prop} {w0 : World} (hseq : SeqC F (n - 1) P gf lb encs Kp Bs S Sp w0)
    (hKt : ∀ {A B C : World}, Kp A B → Kp B C → Kp A C) (hKb : ∀ (W : World) (l : Nat) (o o' : Obj), w.heap.size ≤ l → W.heap[l]? = some o → o.isCells = false → Kp W (W.putObj l o')) (hBs : Bs < w.heap.size) (hb0 : Below w0.heap.size w0 w) (hps : ∀ x, (encs x).size = ps.size)
    (bad : α → Bool) (I Ix : World → Prop)
    (hI : ∀ A B row, I A → A.grownBy B row → (∀ r, row = some r → w.heap.size ≤ r) → I B) (hIx : ∀ A B row, Ix A → A.grownBy B row → (∀ r, row = some r → w.heap.size ≤ r) → Ix B)
    (hIs : ∀ A v, I A → I (A.setCell ⟨Bs, 0, none⟩ v)) (h0 : I w) (a₁ : α → Act)
    (hassign : ∀ (l : Nat) (x : α) (W : World) (K : Act → World → Prop), K (a₁ x) W →
      assign.wpIn (F.inRound l) (n - 1 - 1) P (Exit.then K (fun _ _ _ => False)) { tmps := (ps.zip (encs x)).foldl (fun t (p, v) => t.setIfInBounds p v) a.tmps, defers := [] } W)
    (hbody : ∀ (l : Nat) (x : α) (W : World), I W → body.wpIn (F.inRound l) (n - 1 - 1) P (fun e _ W' => (e = .normal ∧ bad x = false ∧ W' = W) ∨ (e = .ret ∧ bad x = true ∧ KeepsFrom w.heap.size W W' ∧ Ix W')) (a₁ x) W)
    (hdone : ∀ (D : Nat) (xs : List α) (W : World), w.heap.size ≤ D → S xs → xs.any bad = false → I W → W.heap[D]? = some (.deferred (some [])) → Q .normal { a with defers := { target := .collected D, args := #[] } :: a.defers } W)
    (hstop : ∀ (D : Nat) (pre : List α) (W : World), w.heap.size ≤ D → Sp pre → pre.any bad = true → Ix W → W.heap[D]? = some (.deferred (some [])) → Code.ret.wpIn F n P Q { a with defers := { target := .collected D, args := #[] } :: a.defers } W) :
    (Code.rangeFunc g ps assign body).wpIn F n P Q a w := by
  refine wpIn_rangeFunc fun fn hfn => ?_
  rw [hro]
  let rec_ : LoopState → Option Code → Loop := fun st pe => { state := st, pending := pe, fn := fn, tmps := a.tmps, params := ps, assign := assign, body := body, defers := w.heap.size }
  let wa := w.alloc (.deferred (some []))
  let wb := wa.alloc (.loop (rec_ .ready none))
  have sa : wa.heap.size = w.heap.size + 1 := World.size_alloc _ _
  have hdef : wb.heap[w.heap.size]? = some (.deferred (some [])) := (Below.heap_alloc _ _ _ (by rw [sa]; omega)).trans (World.alloc_heap_new w _)
  have hloop : wb.heap[w.heap.size + 1]? = some (.loop (rec_ .ready none)) := by rw [← sa]; exact World.alloc_heap_new wa _
  have sb : wb.heap.size = w.heap.size + 2 := by show (wa.alloc _).heap.size = _; rw [World.size_alloc, sa]
  have hbel : Below w0.heap.size w0 wb := hb0.trans ((((Below.refl _ w).alloc (Nat.le_refl _) _).alloc (by rw [sa]; omega) _).mono hb0.size)
  have hIb : I wb := hI _ _ none (hI _ _ none h0 (World.grownBy_alloc w _ none) (fun r e => by cases e)) (World.grownBy_alloc wa _ none) (fun r e => by cases e)
  have hIput : ∀ (W : World) (k : Nat) (o : Obj), w.heap.size ≤ k → I W → I (W.putObj k o) := fun W k o hk h => hI _ _ (some k) h (grownBy_putObj' W k o) (fun r e => by cases e; exact hk)
  have hIxput : ∀ (W : World) (k : Nat) (o : Obj), w.heap.size ≤ k → Ix W → Ix (W.putObj k o) := fun W k o hk h => hIx _ _ (some k) h (grownBy_putObj' W k o) (fun r e => by cases e; exact hk)
  refine ⟨w.heap.size + 1, [{ target := .collected w.heap.size, args := #[] }], wb, { target := .fn (.func gf) lb, args := #[.func (.yield (w.heap.size + 1)) #[] #[]] }, wb, gf,
    #[.func (.yield (w.heap.size + 1)) #[] #[]] ++ lb, wb, run_enterLoop_outer _ _ _ _ _, ?_, ?_, ?_, fun _ => h1, ?_⟩
  · simp only [resolve, hg]
    simp [go_sem]
  · intro f' hf'
    simp [Target.leads] at hf'
    subst hf'
    exact hFg
  · simp [invoke, go_sem, eg]
  have hcall := hseq (w.heap.size + 1)
    (fun pre W => pre.any bad = false ∧ I W ∧ W.heap[w.heap.size + 1]? = some (.loop (rec_ .ready none)) ∧ W.heap[w.heap.size]? = some (.deferred (some [])))
    (fun pre W => pre.any bad = true ∧ Ix W ∧ W.heap[w.heap.size + 1]? = some (.loop (rec_ .done (some .ret))) ∧ W.heap[w.heap.size]? = some (.deferred (some [])))
    wb hbel
    (fun pre A B row h hgr hr => by
      have hne : ∀ k, k < w.heap.size + 2 → row ≠ some k := fun k hk e => by have := (hr k e).1; rw [sb] at this; omega
      exact ⟨h.1, hI A B row h.2.1 hgr (fun r e => by have := (hr r e).1; rw [sb] at this; omega), grown_at hgr h.2.2.1 (hne _ (by omega)), grown_at hgr h.2.2.2 (hne _ (by omega))⟩)
    (fun pre A v h => ⟨h.1, hIs A v h.2.1, by simpa [World.setCell, Array.getElem?_modify, show Bs ≠ w.heap.size + 1 by omega] using h.2.2.1, by simpa [World.setCell, Array.getElem?_modify, show Bs ≠ w.heap.size by omega] using h.2.2.2⟩)
    ?round ⟨rfl, hIb, hloop, hdef⟩
  case round =>
    rintro pre x W ⟨hpre, hi, hl, hk⟩
    have hy := run_yield (P := P) (args := encs x) hl (hps x)
    have hlt := heap_lt hl
    let W2 := W.putObj (w.heap.size + 1) (.loop { rec_ .ready none with state := .busy })
    have hl2 : W2.heap[w.heap.size + 1]? = some (.loop { rec_ .ready none with state := .busy }) := World.putObj_heap_same hlt
    have hk2 : W2.heap[w.heap.size]? = some (.deferred (some [])) := put_at hk (by omega)
    have hkp : Kp W W2 := hKb W _ _ _ (by omega) hl rfl
    refine ⟨fn, _, assign, body, hy, roundIn_of_wpIn hfn (hassign _ x W _ ⟨W2, run_beginRound hl rfl, wpIn_mono (hbody _ x W2 (hIput _ _ _ (by omega) hi)) ?_⟩)⟩
    rintro e a3 W3 (⟨rfl, hbx, rfl⟩ | ⟨rfl, hbx, hkf, hix⟩)
    · have hend := run_endRound (P := P) none hl2
      have hl4 : (W2.putObj (w.heap.size + 1) (.loop (rec_ .ready none))).heap[w.heap.size + 1]? = some (.loop (rec_ .ready none)) := World.putObj_heap_same (heap_lt hl2)
      exact ⟨_, _, hend, Or.inl ⟨rfl, ⟨by rw [List.any_append, hpre]; simpa using hbx, hIput _ _ _ (by omega) (hIput _ _ _ (by omega) hi), hl4, put_at hk2 (by omega)⟩, hKt hkp (hKb W2 _ _ _ (by omega) hl2 rfl)⟩⟩
    · have hl3 := hkf.same _ _ (by omega) hl2 rfl
      have hk3 := hkf.same _ _ (Nat.le_refl _) hk2 rfl
      have hend := run_endRound (P := P) (some .ret) hl3
      have hl4 : (W3.putObj (w.heap.size + 1) (.loop (rec_ .done (some .ret)))).heap[w.heap.size + 1]? = some (.loop (rec_ .done (some .ret))) := World.putObj_heap_same (heap_lt hl3)
      exact ⟨_, _, hend, Or.inr ⟨rfl, by rw [List.any_append]; simp [hbx], hIxput _ _ _ (by omega) hix, hl4, put_at hk3 (by omega)⟩⟩
  refine hcall.mono ?_
  rintro e W2 ⟨⟨v, rfl⟩, (⟨xs, hS, hxs, hi, hl, hk⟩ | ⟨pre, hSp, hpx, hi, hl, hk⟩)⟩
  · exact ⟨none, _, run_endLoop (P := P) hl (by show LoopState.ready ≠ _; simp), hdone _ xs _ (Nat.le_refl _) hS hxs (hIput _ _ _ (by omega) hi) (put_at hk (by omega))⟩
  · exact ⟨some .ret, _, run_endLoop (P := P) hl (by show LoopState.done ≠ _; simp), hstop _ pre _ (Nat.le_refl _) hSp hpx (hIxput _ _ _ (by omega) hi) (put_at hk (by omega))⟩
end Go.Proofs.YtnogpoojhhmadaaDoor.Header
