/-
  A range over a function whose iterator keeps its state in a cell of its own; what a round leaves hangs on what has come.
-/
import Derived.Test.YtgiooblopdoobaaStrBase
import Derived.RangeFuncNested
import Derived.RangeFuncBox
import Derived.RangeFuncLeaves
import Derived.RangeFuncCalls
import Derived.RangeFuncBound
import Derived.RangeFuncWrites
import Derived.Shelf.Abstract
namespace Go.Proofs.Ytgiooblopdoobaa.Lines
open Go.RowKit Base
variable {F : Fence} {n : Nat} {P : Program}
/-- What an iterator promises that turns the cell Bs between two rounds. -/
def SeqL {α : Type} (F : Fence) (n : Nat) (P : Program) (gf : Nat) (lb : Array Value) (encs : α → Array Value) (Kp : World → World → Prop) (Bs : Nat) (S Sp : List α → Prop) (w : World) : Prop :=
  ∀ (l : Nat) (J Jx : List α → World → Prop) (W : World), Below w.heap.size w W →
    (∀ pre A v, J pre A → J pre (A.setCell ⟨Bs, 0, none⟩ v)) → (∀ pre A, J pre A → J pre (World.drew A)) →
    (∀ pre x W1, Sp (pre ++ [x]) → J pre W1 → YieldAt F (n - 1) P l (encs x) W1 fun e W' =>
      (e = .returned (.bool true) ∧ J (pre ++ [x]) W' ∧ Kp W1 W') ∨ (e = .returned (.bool false) ∧ Jx (pre ++ [x]) W')) →
    J [] W →
    CallsIn F n P gf (#[.func (.yield l) #[] #[]] ++ lb) W fun e W' => (∃ v, e = .returned v) ∧ ((∃ xs, S xs ∧ J xs W') ∨ (∃ pre, Sp pre ∧ Jx pre W'))
theorem put_atL {A : World} {j k : Nat} {o o' : Obj} (hj : A.heap[j]? = some o) (h : j ≠ k) : (A.putObj k o').heap[j]? = some o := (World.putObj_heap_other h).trans hj
theorem range_acc {α : Type} {g : Operand} {ps : Array Tmp} {assign body : Code} {Q : Exit → Act → World → Prop} {a : Act} {w : World}
    (hro : F.round = none) (h1 : 1 ≤ n) {gf : Nat} {lb : Array Value} (hg : a.eval g = .func (.func gf) #[] lb) (hFg : F.fn gf) (eg : ∀ args w, (callFunc gf args).run P w = .ok (.enter gf args) w)
    {encs : α → Array Value} {Kp : World → World → Prop} {Bs : Nat} {S Sp : List α → Prop} (hseq : SeqL F (n - 1) P gf lb encs Kp Bs S Sp w)
    (hKt : ∀ {A B C : World}, Kp A B → Kp B C → Kp A C) (hKb : ∀ (W : World) (l : Nat) (o o' : Obj), w.heap.size ≤ l → W.heap[l]? = some o → o.isCells = false → Kp W (W.putObj l o')) (hBs : Bs < w.heap.size) (hps : ∀ x, (encs x).size = ps.size)
    (I Ix : List α → World → Prop)
    (hI0 : ∀ o o' : Obj, o.isCells = false → o'.isCells = false → I [] ((w.alloc o).alloc o'))
    (hIp : ∀ pre (W : World) (k : Nat) (o o' : Obj), w.heap.size ≤ k → W.heap[k]? = some o → o.isCells = false → I pre W → I pre (W.putObj k o'))
    (hIxp : ∀ pre (W : World) (k : Nat) (o o' : Obj), w.heap.size ≤ k → W.heap[k]? = some o → o.isCells = false → Ix pre W → Ix pre (W.putObj k o'))
    (hIs : ∀ pre A v, I pre A → I pre (A.setCell ⟨Bs, 0, none⟩ v)) (hId : ∀ pre A, I pre A → I pre (World.drew A)) (a₁ : α → Act)
    (hassign : ∀ (l : Nat) (x : α) (W : World) (K : Act → World → Prop), K (a₁ x) W →
      assign.wpIn (F.inRound l) (n - 1 - 1) P (Exit.then K (fun _ _ _ => False)) { tmps := (ps.zip (encs x)).foldl (fun t (p, v) => t.setIfInBounds p v) a.tmps, defers := [] } W)
    (hbody : ∀ (l : Nat) (x : α) (pre : List α) (W : World), Sp (pre ++ [x]) → I pre W → body.wpIn (F.inRound l) (n - 1 - 1) P (fun e _ W' => (e = .normal ∧ I (pre ++ [x]) W' ∧ KeepsFrom w.heap.size W W' ∧ Kp W W') ∨ (e = .ret ∧ KeepsFrom w.heap.size W W' ∧ Ix (pre ++ [x]) W')) (a₁ x) W)
    (hdone : ∀ (D : Nat) (xs : List α) (W : World), w.heap.size ≤ D → S xs → I xs W → W.heap[D]? = some (.deferred (some [])) → Q .normal { a with defers := { target := .collected D, args := #[] } :: a.defers } W)
    (hstop : ∀ (D : Nat) (pre : List α) (W : World), w.heap.size ≤ D → Sp pre → Ix pre W → W.heap[D]? = some (.deferred (some [])) → Code.ret.wpIn F n P Q { a with defers := { target := .collected D, args := #[] } :: a.defers } W) :
    (Code.rangeFunc g ps assign body).wpIn F n P Q a w := by
  refine wpIn_rangeFunc fun fn hfn => ?_
  rw [hro]
  let rec_ : LoopState → Option Code → Loop := fun st pe => { state := st, pending := pe, fn := fn, tmps := a.tmps, params := ps, assign := assign, body := body, defers := w.heap.size }
  let wa := w.alloc (.deferred (some []))
  let wb := wa.alloc (.loop (rec_ .ready none))
  have sa : wa.heap.size = w.heap.size + 1 := World.size_alloc _ _
  have hdef : wb.heap[w.heap.size]? = some (.deferred (some [])) := (Below.heap_alloc _ _ _ (by rw [sa]; omega)).trans (World.alloc_heap_new w _)
  have hloop : wb.heap[w.heap.size + 1]? = some (.loop (rec_ .ready none)) := by rw [← sa]; exact World.alloc_heap_new wa _
  have hbel : Below w.heap.size w wb := ((Below.refl _ w).alloc (Nat.le_refl _) _).alloc (by rw [sa]; omega) _
  have hIb : I [] wb := hI0 _ _ rfl rfl
  refine ⟨w.heap.size + 1, [{ target := .collected w.heap.size, args := #[] }], wb, { target := .fn (.func gf) lb, args := #[.func (.yield (w.heap.size + 1)) #[] #[]] }, wb, gf,
    #[.func (.yield (w.heap.size + 1)) #[] #[]] ++ lb, wb, run_enterLoop_outer _ _ _ _ _, ?_, ?_, ?_, fun _ => h1, ?_⟩
  · simp only [resolve, hg]
    simp [go_sem]
  · intro f' hf'
    simp [Target.leads] at hf'
    subst hf'
    exact hFg
  · simp [invoke, go_sem, eg]
  have hcall := hseq (w.heap.size + 1)
    (fun pre W => I pre W ∧ W.heap[w.heap.size + 1]? = some (.loop (rec_ .ready none)) ∧ W.heap[w.heap.size]? = some (.deferred (some [])))
    (fun pre W => Ix pre W ∧ W.heap[w.heap.size + 1]? = some (.loop (rec_ .done (some .ret))) ∧ W.heap[w.heap.size]? = some (.deferred (some [])))
    wb hbel
    (fun pre A v h => ⟨hIs pre A v h.1, by simpa [World.setCell, Array.getElem?_modify, show Bs ≠ w.heap.size + 1 by omega] using h.2.1, by simpa [World.setCell, Array.getElem?_modify, show Bs ≠ w.heap.size by omega] using h.2.2⟩)
    (fun pre A h => ⟨hId pre A h.1, h.2.1, h.2.2⟩)
    ?round ⟨hIb, hloop, hdef⟩
  case round =>
    rintro pre x W hsp ⟨hi, hl, hk⟩
    have hy := run_yield (P := P) (args := encs x) hl (hps x)
    have hlt := heap_lt hl
    let W2 := W.putObj (w.heap.size + 1) (.loop { rec_ .ready none with state := .busy })
    have hl2 : W2.heap[w.heap.size + 1]? = some (.loop { rec_ .ready none with state := .busy }) := World.putObj_heap_same hlt
    have hk2 : W2.heap[w.heap.size]? = some (.deferred (some [])) := put_atL hk (by omega)
    have hkp : Kp W W2 := hKb W _ _ _ (by omega) hl rfl
    refine ⟨fn, _, assign, body, hy, roundIn_of_wpIn hfn (hassign _ x W _ ⟨W2, run_beginRound hl rfl, wpIn_mono (hbody _ x pre W2 hsp (hIp pre _ _ _ _ (by omega) hl rfl hi)) ?_⟩)⟩
    rintro e a3 W3 (⟨rfl, hi3, hkf, hkp3⟩ | ⟨rfl, hkf, hix⟩)
    · have hl3 := hkf.same _ _ (by omega) hl2 rfl
      have hk3 := hkf.same _ _ (Nat.le_refl _) hk2 rfl
      have hend := run_endRound (P := P) none hl3
      have hl4 : (W3.putObj (w.heap.size + 1) (.loop (rec_ .ready none))).heap[w.heap.size + 1]? = some (.loop (rec_ .ready none)) := World.putObj_heap_same (heap_lt hl3)
      exact ⟨_, _, hend, Or.inl ⟨rfl, ⟨hIp _ _ _ _ _ (by omega) hl3 rfl hi3, hl4, put_atL hk3 (by omega)⟩, hKt hkp (hKt hkp3 (hKb W3 _ _ _ (by omega) hl3 rfl))⟩⟩
    · have hl3 := hkf.same _ _ (by omega) hl2 rfl
      have hk3 := hkf.same _ _ (Nat.le_refl _) hk2 rfl
      have hend := run_endRound (P := P) (some .ret) hl3
      have hl4 : (W3.putObj (w.heap.size + 1) (.loop (rec_ .done (some .ret)))).heap[w.heap.size + 1]? = some (.loop (rec_ .done (some .ret))) := World.putObj_heap_same (heap_lt hl3)
      exact ⟨_, _, hend, Or.inr ⟨rfl, hIxp _ _ _ _ _ (by omega) hl3 rfl hix, hl4, put_atL hk3 (by omega)⟩⟩
  refine hcall.mono ?_
  rintro e W2 ⟨⟨v, rfl⟩, (⟨xs, hS, hi, hl, hk⟩ | ⟨pre, hSp, hi, hl, hk⟩)⟩
  · exact ⟨none, _, run_endLoop (P := P) hl (by show LoopState.ready ≠ _; simp), hdone _ xs _ (Nat.le_refl _) hS (hIp _ _ _ _ _ (by omega) hl rfl hi) (put_atL hk (by omega))⟩
  · exact ⟨some .ret, _, run_endLoop (P := P) hl (by show LoopState.done ≠ _; simp), hstop _ pre _ (Nat.le_refl _) hSp (hIxp _ _ _ _ _ (by omega) hl rfl hi) (put_atL hk (by omega))⟩
end Go.Proofs.Ytgiooblopdoobaa.Lines
