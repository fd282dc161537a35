/-
  LINES, the program: append within a fence: bytes, and a string's bytes, onto a row of the call's own.
-/
import Derived.Test.YtgiooblopdoobaaLpCont
namespace Go.Proofs.Ytgiooblopdoobaa.Lines
open Go.RowKit Go.Shelf Base
attribute [local go_sem] Oper.semAt_some
section
variable (w : World)
theorem run_append_G (B : Nat) (ty : TypeId) (v x : Value) (xs l : List UInt8) (hown : Owns w B v xs) (hr : Reads w x l) (hlim : xs.length + l.length ≤ 200000000000000) (hB : B ≤ w.heap.size) :
    ∃ v' w', (Builtin.append_ #[32, 32] ty #[v, x]).run Try.prog w = .ok v' w' ∧ Owns w' B v' (xs ++ l) ∧ w.grownBy w' v.ownBlock := by
  obtain ⟨i0, hi, hz0, hz1, hz2⟩ := info_parts info5
  rcases hr with ⟨rfl, a, c, rfl, hc⟩ | ⟨b, o, c, rfl, _, hcell⟩
  · cases a with
    | none =>
      obtain rfl := hc rfl
      refine ⟨v, w, run_append_owned_none (P := Try.prog) w B 32 ty 5 i0 1 Try.underlying32 hi v _ _ hown, ?_, ⟨rfl, rfl, rfl, Nat.le_refl _, fun _ _ _ => rfl⟩⟩
      rw [List.append_nil]; exact hown
    | some a =>
      obtain ⟨v', w', h1, h2, h3, _⟩ := run_append_own_wide (P := Try.prog) w B 32 ty 5 i0 (.int .u8 0) 1 1 Try.underlying32 hi hz0 hz1 hz2 rfl (by decide) v _ _ hown a 0 c [] rfl (fun j u h => by simp at h) (fun u h => by cases h) (by unfold maxLen; simp at hlim ⊢; omega) (by simp at hlim ⊢; omega) hB
      refine ⟨v', w', h1, ?_, h3⟩
      rw [List.append_nil]; simpa [Owns] using h2
  · obtain ⟨v', w', h1, h2, h3, _⟩ := run_append_own_wide (P := Try.prog) w B 32 ty 5 i0 (.int .u8 0) 1 1 Try.underlying32 hi hz0 hz1 hz2 rfl (by decide) v _ _ hown ⟨b, o, none⟩ l.length c (Lib.byteCells l) (by simp [Lib.byteCells]) (fun j u h => by
        have hj : j < l.length := by
          rcases Nat.lt_or_ge j l.length with h' | h'
          · exact h'
          · simp [Lib.byteCells, List.getElem?_eq_none h'] at h
        have e := hcell j hj
        rw [Addr.add_lit, e]
        simp [Lib.byteCells, List.getElem?_eq_getElem hj] at h
        rw [← h]; simp [List.getD, List.getElem?_eq_getElem hj]) (Lib.byteCells_one _) (by unfold maxLen; omega) (by omega) hB
    refine ⟨v', w', h1, ?_, h3⟩
    unfold Owns
    rw [List.length_append, Lib.byteCells_append]; exact h2
theorem strCells_eq (S : ByteArray) : Lib.strCells S = Lib.byteCells S.data.toList := rfl
theorem run_append_S (B : Nat) (ty : TypeId) (v : Value) (xs : List UInt8) (S : ByteArray) (hown : Owns w B v xs) (hS : S.size ≤ 1000) (hlim : xs.length + S.size ≤ 200000000000000) (hB : B ≤ w.heap.size) :
    ∃ v' w', (Builtin.append_ #[32, 9] ty #[v, .string S]).run Try.prog w = .ok v' w' ∧ Owns w' B v' (xs ++ S.data.toList) ∧ w.grownBy w' v.ownBlock := by
  obtain ⟨i0, hi, hz0, hz1, hz2⟩ := info_parts info5
  have hsl : S.data.toList.length = S.size := Array.length_toList
  by_cases hsm : xs.length + S.size ≤ 140737488355328
  · obtain ⟨v', w', h1, h2, h3, _⟩ := Lib.run_append_own_string (P := Try.prog) w B 32 9 ty 5 i0 Try.underlying32 Try.underlying9 hi hz0 hz1 hz2 v _ _ hown S (by unfold maxLen; omega) hsm hB
    refine ⟨v', w', h1, ?_, h3⟩
    unfold Owns
    rw [List.length_append, Lib.byteCells_append, hsl]; exact h2
  · have hxl : (Lib.byteCells xs).length = xs.length := by simp [Lib.byteCells]
    have hlen : (Lib.byteCells xs ++ Lib.strCells S).length = (xs.length + S.size) * 1 := by rw [List.length_append, hxl, Lib.strCells_length, Nat.mul_one]
    rcases hown.2 with ⟨_, h0⟩ | ⟨g, cap, cur, rfl, hbg, hg, hnc, hcm, hcs, htake⟩
    · omega
    · have hcs' : cur.size = cap := by rw [hcs, Nat.mul_one]
      have ht' : cur.toList.take xs.length = Lib.byteCells xs := by rw [← htake, Nat.mul_one]
      by_cases hroom : xs.length + S.size ≤ cap
      · have hr := Lib.run_append_room_string (P := Try.prog) w 32 9 ty 5 i0 Try.underlying32 Try.underlying9 hi hz1 g xs.length cap cur hg S hroom (by omega)
        refine ⟨_, _, hr, ⟨?_, .inr ⟨g, cap, _, by rw [List.length_append, hsl], hbg, setRow_heap w g cur _ 5 _ hg, by rw [List.length_append, hsl]; exact hroom, hcm, ?_, ?_⟩⟩, ⟨rfl, rfl, rfl, by simp, fun k _ hk => setRow_other w g k _ (fun e => hk (by simp [Value.ownBlock, e]))⟩⟩
        · rw [List.length_append, hsl, Lib.byteCells_append]; exact hlen
        · simp only [List.size_toArray, List.length_append, List.length_take, List.length_drop, Array.length_toList, Lib.strCells_length]
          omega
        · rw [ht', List.length_append, hsl, Lib.byteCells_append, ← strCells_eq, ← hlen]
          exact List.take_left
      · have holds : ∀ j u, (Lib.byteCells xs)[j]? = some u → w.cell? ((⟨g, 0, none⟩ : Addr).add j) = some u := World.ownsRow.cells hown (g := g) rfl
        have hr := Lib.run_append_grow_string (P := Try.prog) w 32 9 ty 5 i0 (.int .u8 0) Try.underlying32 Try.underlying9 hi hz0 ⟨g, 0, none⟩ xs.length cap (Lib.byteCells xs) (by rw [hz1, hxl, Nat.mul_one]) holds S (by omega) (by omega) (by rw [hz2]; exact growslice_fits_wide (by omega) (by omega))
        have hge := grownCap_ge w (xs.length + S.size) cap 5
        have hcm2 : grownCap w (xs.length + S.size) cap 5 ≤ maxLen := grownCap_le_maxLen w (xs.length + S.size) cap 5 (by unfold maxLen; omega)
        refine ⟨_, _, hr, ⟨?_, .inr ⟨w.heap.size, _, _, by rw [List.length_append, hsl], hB, heap_alloc_new w.drew _, by rw [List.length_append, hsl]; exact hge, hcm2, ?_, ?_⟩⟩, ⟨rfl, rfl, rfl, by simp, fun k hk _ => heap_alloc_old w.drew _ hk⟩⟩
        · rw [List.length_append, hsl, Lib.byteCells_append]; exact hlen
        · have hz3 : (Value.int IntKind.u8 0).cells.size = 1 := rfl
          simp only [Array.size_append, List.size_toArray, size_zeroCells, hz3, hxl, Lib.strCells_length]
          omega
        · simp only [Array.toList_append, List.append_assoc]
          rw [List.length_append, hsl, Lib.byteCells_append, ← strCells_eq, ← hlen, ← List.append_assoc]
          exact List.take_left
end
section
variable {F : Fence} {n : Nat}
theorem wpIn_append_G (w : World) {ops : Array Oper} {rest : List Oper} {o : Oper} {a : Act} {Q : Exit → Act → World → Prop} (hgd : o.guard = none) (s x : Operand)
    (ho : o.op = .call { callee := .builtin .append, args := #[s, x], argTypes := #[32, 32] })
    (B : Nat) (v y : Value) (xs l : List UInt8) (hs : a.eval s = v) (hx : a.eval x = y) (hown : Owns w B v xs) (hr : Reads w y l) (hlim : xs.length + l.length ≤ 200000000000000) (hB : B ≤ w.heap.size)
    (h : ∀ v' w', Owns w' B v' (xs ++ l) → w.grownBy w' v.ownBlock → wpListIn F n Try.prog ops Q rest (a.put o.dst v') w') : wpListIn F n Try.prog ops Q (o :: rest) a w := by
  refine wpListIn_plain hgd fun K hK => ?_
  obtain ⟨v', w', e1, e2, e3⟩ := run_append_G w B o.type v y xs l hown hr hlim hB
  unfold Oper.wpIn
  refine ⟨by simp [Oper.about, ho, resolve, Target.leads, Sem.run_pure], ?_⟩
  rw [Oper.semAt_plain F _ _ (by rw [ho]; intro c hc'; cases hc')]
  unfold execOp
  simp only [ho, resolve, invoke, builtin, Sem.run_bind, Sem.run_pure, Result.andThen_ok, List.map_toArray, List.map_cons, List.map_nil, hs, hx, e1]
  exact hK _ _ (h v' w' e2 e3)
theorem wpIn_append_S (w : World) {ops : Array Oper} {rest : List Oper} {o : Oper} {a : Act} {Q : Exit → Act → World → Prop} (hgd : o.guard = none) (s x : Operand)
    (ho : o.op = .call { callee := .builtin .append, args := #[s, x], argTypes := #[32, 9] })
    (B : Nat) (v : Value) (xs : List UInt8) (S : ByteArray) (hs : a.eval s = v) (hx : a.eval x = .string S) (hown : Owns w B v xs) (hS : S.size ≤ 1000) (hlim : xs.length + S.size ≤ 200000000000000) (hB : B ≤ w.heap.size)
    (h : ∀ v' w', Owns w' B v' (xs ++ S.data.toList) → w.grownBy w' v.ownBlock → wpListIn F n Try.prog ops Q rest (a.put o.dst v') w') : wpListIn F n Try.prog ops Q (o :: rest) a w := by
  refine wpListIn_plain hgd fun K hK => ?_
  obtain ⟨v', w', e1, e2, e3⟩ := run_append_S w B o.type v xs S hown hS hlim hB
  unfold Oper.wpIn
  refine ⟨by simp [Oper.about, ho, resolve, Target.leads, Sem.run_pure], ?_⟩
  rw [Oper.semAt_plain F _ _ (by rw [ho]; intro c hc'; cases hc')]
  unfold execOp
  simp only [ho, resolve, invoke, builtin, Sem.run_bind, Sem.run_pure, Result.andThen_ok, List.map_toArray, List.map_cons, List.map_nil, hs, hx, e1]
  exact hK _ _ (h v' w' e2 e3)
end
end Go.Proofs.Ytgiooblopdoobaa.Lines
