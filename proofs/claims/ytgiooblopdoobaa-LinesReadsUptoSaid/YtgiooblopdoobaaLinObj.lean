/-
  LINES, the given answers: a reader's block; New, Left.
-/
import Derived.Test.YtgiooblopdoobaaLinStuffE
import Derived.Maps.AppendAt
namespace Go.Proofs.Ytgiooblopdoobaa.Lines
open Go.RowKit Base
/-- A reader's block: so many bytes of a line; these bytes wait. -/
def RdAt (w : World) (g : Nat) (v : Value) (most : Int) (l : List UInt8) : Prop :=
  w.heap[g]? = some (.cells #[.int .i64 most, v] 50 (0, 0)) ∧ Owns w 0 v l ∧ v.ownBlock ≠ some g
/-- All blocks that were there are as they were, but for the reader's and its bytes'. -/
structure KeepR (g : Nat) (v : Value) (w w' : World) : Prop where
  os : w'.os = w.os
  tape : w'.tape = w.tape
  output : w'.output = w.output
  size : w.heap.size ≤ w'.heap.size
  block : ∀ k, k < w.heap.size → k ≠ g → v.ownBlock ≠ some k → w'.heap[k]? = w.heap[k]?
theorem RdAt.on {w w' : World} {g : Nat} {v : Value} {m : Int} {l : List UInt8} (h : RdAt w g v m l) (hk : w'.heap[g]? = w.heap[g]?) (hv : ∀ b, v.ownBlock = some b → w'.heap[b]? = w.heap[b]?) : RdAt w' g v m l :=
  ⟨by rw [hk]; exact h.1, h.2.1.keptB fun b hb _ => hv b hb, h.2.2⟩
section
variable (w : World)
theorem run_append_at (ty : TypeId) (v x : Value) (xs l : List UInt8) (hown : Owns w 0 v xs) (hr : Reads w x l) (hlim : xs.length + l.length ≤ 140737488355328) :
    ∃ v' w', (Builtin.append_ #[32, 32] ty #[v, x]).run Try.prog w = .ok v' w' ∧ Owns w' 0 v' (xs ++ l) ∧ w.grownBy w' v.ownBlock ∧ (v'.ownBlock = v.ownBlock ∨ v'.ownBlock = some w.heap.size) := by
  obtain ⟨i0, hi, hz0, hz1, hz2⟩ := info_parts info5
  rcases hr with ⟨rfl, a, c, rfl, hc⟩ | ⟨b, o, c, rfl, _, hcell⟩
  · cases a with
    | none =>
      obtain rfl := hc rfl
      refine ⟨v, w, run_append_owned_none (P := Try.prog) w 0 32 ty 5 i0 1 Try.underlying32 hi v _ _ hown, ?_, ⟨rfl, rfl, rfl, Nat.le_refl _, fun _ _ _ => rfl⟩, Or.inl rfl⟩
      rw [List.append_nil]; exact hown
    | some a =>
      obtain ⟨v', w', h1, h2, h3, _, h5⟩ := run_append_own_at (P := Try.prog) w 0 32 ty 5 i0 (.int .u8 0) 1 1 Try.underlying32 hi hz0 hz1 hz2 rfl (by decide) v _ _ hown a 0 c [] rfl (fun j u h => by simp at h) (fun u h => by cases h) (by unfold maxLen; simp at hlim ⊢; omega) (by simp at hlim ⊢; omega) (Nat.zero_le _)
      refine ⟨v', w', h1, ?_, h3, h5⟩
      rw [List.append_nil]; simpa [Owns] using h2
  · obtain ⟨v', w', h1, h2, h3, _, h5⟩ := run_append_own_at (P := Try.prog) w 0 32 ty 5 i0 (.int .u8 0) 1 1 Try.underlying32 hi hz0 hz1 hz2 rfl (by decide) v _ _ hown ⟨b, o, none⟩ l.length c (Lib.byteCells l) (by simp [Lib.byteCells]) (fun j u h => by
        have hj : j < l.length := by
          rcases Nat.lt_or_ge j l.length with h' | h'
          · exact h'
          · simp [Lib.byteCells, List.getElem?_eq_none h'] at h
        have e := hcell j hj
        rw [Addr.add_lit, e]
        simp [Lib.byteCells, List.getElem?_eq_getElem hj] at h
        rw [← h]; simp [List.getD, List.getElem?_eq_getElem hj]) (Lib.byteCells_one _) (by unfold maxLen; omega) (by omega) (Nat.zero_le _)
    refine ⟨v', w', h1, ?_, h3, h5⟩
    unfold Owns
    rw [List.length_append, Lib.byteCells_append]; exact h2
theorem wp_append_at {ops : Array Oper} {rest : List Oper} {o : Oper} {a : Act} {Q : Exit → Act → World → Prop} (hgd : o.guard = none) (s x : Operand)
    (ho : o.op = .call { callee := .builtin .append, args := #[s, x], argTypes := #[32, 32] })
    (v y : Value) (xs l : List UInt8) (hs : a.eval s = v) (hx : a.eval x = y) (hown : Owns w 0 v xs) (hr : Reads w y l) (hlim : xs.length + l.length ≤ 140737488355328)
    (h : ∀ v' w', Owns w' 0 v' (xs ++ l) → w.grownBy w' v.ownBlock → (v'.ownBlock = v.ownBlock ∨ v'.ownBlock = some w.heap.size) → wpList Try.prog ops Q rest (a.put o.dst v') w') : wpList Try.prog ops Q (o :: rest) a w := by
  refine wpList_plain hgd fun K hK => ?_
  obtain ⟨v', w', hr, h2, h3, h5⟩ := run_append_at w o.type v y xs l hown hr hlim
  unfold Oper.wp execOp
  simp only [ho, resolve, invoke, builtin, Sem.run_bind, Sem.run_pure, Result.andThen_ok, List.map_toArray, List.map_cons, List.map_nil, hs, hx, hr]
  exact hK _ _ (h v' w' h2 h3 h5)
end
def NewEnd (most : Int) (w : World) (e : Ending) (w' : World) : Prop :=
  Below w.heap.size w w' ∧ (((most < 1 ∨ 65536 < most) ∧ e = .returned (.tuple #[.pointer none, .int .i64 1])) ∨ ((1 ≤ most ∧ most ≤ 65536) ∧ e = .returned (.tuple #[.pointer (some ⟨w.heap.size, 0, none⟩), .int .i64 0]) ∧ w.heap.size < w'.heap.size ∧ RdAt w' w.heap.size (.slice none 0 0) most []))
set_option maxHeartbeats 1600000 in
theorem rNew (most : Int) (w : World) : Calls Try.prog 9 #[.int .i64 most] w (NewEnd most w) := by
  rcases Int.lt_or_le most 1 with h | h
  · go_enter Try.func9, Try.ntmps9
    go_wp2
    go_ret2
    exact ⟨Below.refl _ _, Or.inl ⟨Or.inl h, rfl⟩⟩
  · have k1 : ¬ most < 1 := by omega
    rcases Int.lt_or_le 65536 most with h2 | h2
    · go_enter Try.func9, Try.ntmps9
      go_wp2
      go_ret2
      exact ⟨Below.refl _ _, Or.inl ⟨Or.inr h2, rfl⟩⟩
    · have k2 : ¬ 65536 < most := by omega
      go_enter Try.func9, Try.ntmps9
      go_wp2
      go_ret2
      exact ⟨Below.alloc1 _ _, Or.inr ⟨⟨h, h2⟩, rfl, by show w.heap.size < (w.heap.push _).size; simp, (by show (w.heap.push _)[w.heap.size]? = _; simp), owns_nil _ _, by simp [Value.ownBlock]⟩⟩
set_option maxHeartbeats 1600000 in
theorem rLeft (g : Nat) (v : Value) (most : Int) (l : List UInt8) (w : World) (h : RdAt w g v most l) : Calls Try.prog 15 #[.pointer (some ⟨g, 0, none⟩)] w fun e w' => e = .returned (.int .i64 (l.length : Int)) ∧ w = w' := by
  obtain ⟨c0, c1, _, _⟩ := two_cells h.1
  obtain ⟨a, c, rfl⟩ := h.2.1.reads.form
  clear h
  go_enter Try.func15, Try.ntmps15
  go_wp2
  go_ret
  exact ⟨rfl, rfl⟩
end Go.Proofs.Ytgiooblopdoobaa.Lines
