/-
  LINES, the program: a reader's block; a row from somewhere in its block, and append onto it; New, Left, Feed.
-/
import Derived.Test.YtgiooblopdoobaaLpLib
import Derived.Test.YtgiooblopdoobaaLinNextE
import Derived.ArgAppend
namespace Go.Proofs.Ytgiooblopdoobaa.Lines
open Go.RowKit Base
/-- Bytes of the call's own, from somewhere in their block, with room behind them. -/
def OwnsT (w : World) (B : Nat) (v : Value) (l : List UInt8) : Prop :=
  (v = .slice none 0 0 ∧ l = []) ∨ ∃ g o cap, v = .slice (some ⟨g, o, none⟩) l.length cap ∧ B ≤ g ∧ g < w.heap.size ∧ l.length ≤ cap ∧ cap ≤ 9223372036854775807 ∧
    (∀ j, j < l.length → w.cell? ⟨g, o + j, none⟩ = some (.int .u8 ((l.getD j 0).toNat : Int))) ∧ (∀ j, l.length ≤ j → j < cap → (w.cell? ⟨g, o + j, none⟩).isSome = true ∧ w.frozen? ⟨g, o + j, none⟩ = false)
theorem frozen_of_block {w w' : World} {a : Addr} (h : w'.heap[a.block]? = w.heap[a.block]?) : w'.frozen? a = w.frozen? a := by
  unfold World.frozen?; rw [h]
theorem OwnsT.reads {w : World} {B : Nat} {v : Value} {l : List UInt8} (h : OwnsT w B v l) : Reads w v l := by
  rcases h with ⟨rfl, rfl⟩ | ⟨g, o, cap, rfl, _, _, hc, _, h1, _⟩
  · exact Or.inl ⟨rfl, none, 0, rfl, fun _ => rfl⟩
  · exact Or.inr ⟨g, o, cap, rfl, hc, h1⟩
theorem OwnsT.keptB {w w' : World} {B : Nat} {v : Value} {l : List UInt8} (h : OwnsT w B v l) (hs : w.heap.size ≤ w'.heap.size) (hk : ∀ b, v.ownBlock = some b → b < w.heap.size → w'.heap[b]? = w.heap[b]?) : OwnsT w' B v l := by
  rcases h with hn | ⟨g, o, cap, rfl, hB, hg, hc, hm, h1, h2⟩
  · exact Or.inl hn
  · have hb := hk g rfl hg
    refine Or.inr ⟨g, o, cap, rfl, hB, Nat.lt_of_lt_of_le hg hs, hc, hm, fun j hj => ?_, fun j hj hj2 => ?_⟩
    · rw [World.cell?_of_block (by exact hb), h1 j hj]
    · have := h2 j hj hj2
      rw [World.cell?_of_block (by exact hb), frozen_of_block (by exact hb)]
      exact this
theorem OwnsT.on {w w' : World} {B : Nat} {v : Value} {l : List UInt8} (h : OwnsT w B v l) (hb : Below w.heap.size w w') : OwnsT w' B v l := h.keptB hb.size fun b _ hlt => hb.block b hlt
theorem OwnsT.mono {w : World} {B B' : Nat} {v : Value} {l : List UInt8} (h : OwnsT w B v l) (hB : B' ≤ B) : OwnsT w B' v l := by
  rcases h with hn | ⟨g, o, cap, hv, h1, h2⟩
  · exact Or.inl hn
  · exact Or.inr ⟨g, o, cap, hv, by omega, h2⟩
theorem OwnsT.ge {w : World} {B : Nat} {v : Value} {l : List UInt8} (h : OwnsT w B v l) : ∀ b, v.ownBlock = some b → B ≤ b ∧ b < w.heap.size := by
  intro b hb
  rcases h with ⟨rfl, _⟩ | ⟨g, o, cap, rfl, h1, h2, _⟩
  · simp [Value.ownBlock] at hb
  · have : g = b := by simpa [Value.ownBlock] using hb
    subst this; exact ⟨h1, h2⟩
theorem Owns.toT {w : World} {B : Nat} {v : Value} {l : List UInt8} (h : Owns w B v l) : OwnsT w B v l := by
  have hr := h.reads
  rcases h.2 with ⟨rfl, hn⟩ | ⟨g, cap, cur, rfl, h1, h2, h3, h4, h5, h6⟩
  · exact Or.inl ⟨rfl, List.eq_nil_of_length_eq_zero hn⟩
  · refine Or.inr ⟨g, 0, cap, rfl, h1, heap_lt h2, h3, h4, fun j hj => ?_, fun j hj hj2 => ?_⟩
    · rw [Nat.zero_add]; exact Owns.cell (c := cap) h j hj
    · refine ⟨?_, by simp [World.frozen?, h2]⟩
      unfold World.cell?
      rw [h2]
      show ((cur)[0 + j]?).isSome = true
      rw [Nat.zero_add, Array.getElem?_eq_getElem (by omega)]
      rfl
theorem OwnsT.tail {w : World} {B : Nat} {A : Option Addr} {c k : Nat} {l : List UInt8} (h : OwnsT w B (.slice A l.length c) l) (hk : k ≤ l.length) :
    OwnsT w B (.slice (if c = k then A else Option.map (fun x => x.add k) A) (l.length - k) (c - k)) (l.drop k) := by
  have hl : (l.drop k).length = l.length - k := List.length_drop
  rcases h with ⟨e, rfl⟩ | ⟨g, o, cap, e, h1, h2, h3, h4, h5, h6⟩
  · cases e
    have : k = 0 := by simpa using hk
    subst this
    exact Or.inl ⟨rfl, rfl⟩
  · cases e
    by_cases hc : c = k
    · subst hc
      have : l.length - c = 0 := by omega
      rw [if_pos rfl, this, Nat.sub_self]
      have hd : l.drop c = [] := List.drop_eq_nil_of_le (by omega)
      rw [hd]
      exact Or.inr ⟨g, o, 0, rfl, h1, h2, Nat.le_refl _, by omega, fun j hj => by simp at hj, fun j _ hj => by omega⟩
    · rw [if_neg hc]
      refine Or.inr ⟨g, o + k, c - k, by rw [hl]; simp [Addr.add_lit], h1, h2, by omega, by omega, fun j hj => ?_, fun j hj hj2 => ?_⟩
      · rw [hl] at hj
        rw [Nat.add_assoc, h5 (k + j) (by omega)]
        congr 3
        simp [List.getD]
      · rw [hl] at hj
        rw [Nat.add_assoc]
        exact h6 (k + j) (by omega) (by omega)
theorem grown_setCells (b : Nat) : ∀ (vs : List Value) (o : Nat) (w : World), w.grownBy (w.setCells b o vs) (some b)
  | [], _, w => ⟨rfl, rfl, rfl, Nat.le_refl _, fun _ _ _ => rfl⟩
  | v :: r, o, w => by
    rw [World.setCells]
    have hs := KeepX.set b w o v
    have h1 : w.grownBy (w.setCell ⟨b, o, none⟩ v) (some b) := ⟨hs.os, hs.tape, hs.output, hs.size, fun k hk hne => hs.block k hk (fun e => hne (by rw [e]))⟩
    exact h1.trans (grown_setCells b r (o + 1) _)
theorem grown_some {w w' : World} (h : w.grownBy w' none) (row : Option Nat) : w.grownBy w' row := ⟨h.os, h.tape, h.output, h.size, fun k hk _ => h.block k hk (by simp)⟩
section
variable (w : World)
/-- append OF BYTES at an address. -/
theorem run_append_T1 (B : Nat) (ty : TypeId) (v : Value) (xs l : List UInt8) (a : Addr) (c : Nat) (hown : OwnsT w B v xs) (hnews : ∀ j u, (Lib.byteCells l)[j]? = some u → w.cell? (a.add j) = some u)
    (hlim : xs.length + l.length ≤ 140737488355328 ∨ (v = .slice none 0 0 ∧ l.length ≤ 200000000000000)) (hB : B ≤ w.heap.size) :
    ∃ v' w', (Builtin.append_ #[32, 32] ty #[v, .slice (some a) l.length c]).run Try.prog w = .ok v' w' ∧ OwnsT w' B v' (xs ++ l) ∧ w.grownBy w' v.ownBlock ∧ SameOrNew v v' w.heap.size := by
  obtain ⟨i0, hi, hz0, hz1, hz2⟩ := info_parts info5
  rcases hown with ⟨rfl, rfl⟩ | ⟨g, o, cap, rfl, hBg, hg, hc, hm, h1, h2⟩
  · obtain ⟨v', w', e1, e2, e3, _⟩ := run_append_own_wide (P := Try.prog) w w.heap.size 32 ty 5 i0 (.int .u8 0) 1 1 Try.underlying32 hi hz0 hz1 hz2 rfl (by decide) (.slice none 0 0) 0 [] (World.ownsRow_nil w _ 5 1) a l.length c (Lib.byteCells l) (by simp [Lib.byteCells]) hnews (Lib.byteCells_one _)
      (by unfold maxLen; simp at hlim; omega) (by simp at hlim; omega) (Nat.le_refl _)
    have hO : Owns w' w.heap.size v' l := by
      have : Owns w' w.heap.size v' ([] ++ l) := by
        unfold Owns
        rw [List.length_append, Lib.byteCells_append]; exact e2
      simpa using this
    exact ⟨v', w', e1, (by simpa using (Owns.toT hO).mono hB), e3, Or.inr fun b hb => (hO.ge b hb).1⟩
  · have hlim2 : xs.length + l.length ≤ 140737488355328 := by
      rcases hlim with h | ⟨h, _⟩
      · exact h
      · cases h
    by_cases hroom : xs.length + l.length ≤ cap
    · have hbl : (Lib.byteCells l).length = l.length := by simp [Lib.byteCells]
      have hcx : ∀ j, j < (Lib.byteCells l).length → (w.cell? ⟨g, o + xs.length * i0.size + j, none⟩).isSome = true := fun j hj => by
        rw [hz1, Nat.mul_one, Nat.add_assoc]; exact (h2 (xs.length + j) (by omega) (by omega)).1
      have hr := run_append_room_cells (P := Try.prog) w 32 ty 5 i0 Try.underlying32 hi g o xs.length cap a l.length c (Lib.byteCells l) (by rw [hz1]; simp [Lib.byteCells]) hnews (Lib.byteCells_one _) hroom hcx
        (fun j hj => by rw [hz1, Nat.mul_one, Nat.add_assoc]; exact (h2 (xs.length + j) (by omega) (by omega)).2)
      have hin := World.cell?_setCells_in g (Lib.byteCells l) (o + xs.length * i0.size) w hcx
      refine ⟨_, _, hr, Or.inr ⟨g, o, cap, by rw [List.length_append], hBg, Nat.lt_of_lt_of_le hg (grown_setCells g _ _ w).size, by rw [List.length_append]; exact hroom, hm, fun j hj => ?_, fun j hj hj2 => ?_⟩, grown_setCells g _ _ w, Or.inl rfl⟩
      · rw [List.length_append] at hj
        by_cases hjx : j < xs.length
        · rw [World.cell?_setCells_out g _ _ w _ (fun _ _ => Or.inl (by rw [hz1, Nat.mul_one]; show o + j < _; omega)), h1 j hjx]
          congr 3
          simp [List.getD, List.getElem?_append_left hjx]
        · obtain ⟨k, rfl⟩ : ∃ k, j = xs.length + k := ⟨j - xs.length, by omega⟩
          have := hin k (by omega)
          rw [hz1, Nat.mul_one, Nat.add_assoc] at this
          rw [hz1, Nat.mul_one, this]
          have hk : k < l.length := by omega
          simp [Lib.byteCells, List.getD, List.getElem?_append_right, List.getElem?_eq_getElem hk]
      · rw [List.length_append] at hj
        rw [World.cell?_setCells_out g _ _ w _ (fun _ _ => Or.inr (by rw [hz1, Nat.mul_one, hbl]; show _ ≤ o + j; omega)), World.frozen?_setCells]
        exact h2 j (by omega) hj2
    · obtain ⟨v', w', e1, e2, e3⟩ := run_append_arg_grows (P := Try.prog) w 32 ty 5 i0 (.int .u8 0) 1 1 Try.underlying32 hi hz0 hz1 hz2 rfl (by decide) ⟨g, o, none⟩ xs.length cap (Lib.byteCells xs) (by simp [Lib.byteCells]) (fun j u h => by
          have hj : j < xs.length := by
            rcases Nat.lt_or_ge j xs.length with h' | h'
            · exact h'
            · simp [Lib.byteCells, List.getElem?_eq_none h'] at h
          rw [Addr.add_lit, h1 j hj]
          simp [Lib.byteCells, List.getElem?_eq_getElem hj] at h
          rw [← h]; simp [List.getD, List.getElem?_eq_getElem hj]) a l.length c (Lib.byteCells l) (by simp [Lib.byteCells]) hnews (by omega) (by unfold maxLen; omega) (by omega)
      have hO : Owns w' w.heap.size v' (xs ++ l) := by
        unfold Owns
        rw [List.length_append, Lib.byteCells_append]; exact e2
      exact ⟨v', w', e1, (Owns.toT hO).mono hB, grown_some e3 _, Or.inr fun b hb => (hO.ge b hb).1⟩
theorem run_append_T (B : Nat) (ty : TypeId) (v x : Value) (xs l : List UInt8) (hown : OwnsT w B v xs) (hr : Reads w x l)
    (hlim : xs.length + l.length ≤ 140737488355328 ∨ (v = .slice none 0 0 ∧ l.length ≤ 200000000000000)) (hB : B ≤ w.heap.size) :
    ∃ v' w', (Builtin.append_ #[32, 32] ty #[v, x]).run Try.prog w = .ok v' w' ∧ OwnsT w' B v' (xs ++ l) ∧ w.grownBy w' v.ownBlock ∧ SameOrNew v v' w.heap.size := by
  rcases hr with ⟨rfl, a, c, rfl, hc⟩ | ⟨b, o, c, rfl, _, hcell⟩
  · cases a with
    | none =>
      obtain rfl := hc rfl
      obtain ⟨i0, hi, hz0, hz1, hz2⟩ := info_parts info5
      refine ⟨v, w, ?_, by rw [List.append_nil]; exact hown, ⟨rfl, rfl, rfl, Nat.le_refl _, fun _ _ _ => rfl⟩, Or.inl rfl⟩
      rcases hown with ⟨rfl, rfl⟩ | ⟨g, o, cap, rfl, hBg, hg, hnc, _⟩
      · simp [Builtin.append_, run_underlying Try.underlying32, sizeOf, typeInfo, hi, Builtin.lenOf, Builtin.firstCells]
      · simp [Builtin.append_, run_underlying Try.underlying32, sizeOf, typeInfo, hi, Builtin.lenOf, Builtin.firstCells, hnc, storeCells]
    | some a => exact run_append_T1 w B ty v xs [] a c hown (fun j u h => by simp [Lib.byteCells] at h) hlim hB
  · exact run_append_T1 w B ty v xs l ⟨b, o, none⟩ c hown (fun j u h => by
        have hj : j < l.length := by
          rcases Nat.lt_or_ge j l.length with h' | h'
          · exact h'
          · simp [Lib.byteCells, List.getElem?_eq_none h'] at h
        rw [Addr.add_lit, hcell j hj]
        simp [Lib.byteCells, List.getElem?_eq_getElem hj] at h
        rw [← h]; simp [List.getD, List.getElem?_eq_getElem hj]) hlim hB
theorem wp_append_T {ops : Array Oper} {rest : List Oper} {o : Oper} {a : Act} {Q : Exit → Act → World → Prop} (hgd : o.guard = none) (s x : Operand)
    (ho : o.op = .call { callee := .builtin .append, args := #[s, x], argTypes := #[32, 32] })
    (B : Nat) (v y : Value) (xs l : List UInt8) (hs : a.eval s = v) (hx : a.eval x = y) (hown : OwnsT w B v xs) (hr : Reads w y l)
    (hlim : xs.length + l.length ≤ 140737488355328 ∨ (v = .slice none 0 0 ∧ l.length ≤ 200000000000000)) (hB : B ≤ w.heap.size)
    (h : ∀ v' w', OwnsT w' B v' (xs ++ l) → w.grownBy w' v.ownBlock → SameOrNew v v' w.heap.size → wpList Try.prog ops Q rest (a.put o.dst v') w') : wpList Try.prog ops Q (o :: rest) a w := by
  refine wpList_plain hgd fun K hK => ?_
  obtain ⟨v', w', hr, h2, h3, h5⟩ := run_append_T w B o.type v y xs l hown hr hlim hB
  unfold Oper.wp execOp
  simp only [ho, resolve, invoke, builtin, Sem.run_bind, Sem.run_pure, Result.andThen_ok, List.map_toArray, List.map_cons, List.map_nil, hs, hx, hr]
  exact hK _ _ (h v' w' h2 h3 h5)
end
/-- A block of three cells. -/
theorem three_cells {w : World} {k : Nat} {a b c : Value} {t : TypeId} (h : w.heap[k]? = some (.cells #[a, b, c] t (0, 0))) :
    w.cell? ⟨k, 0, none⟩ = some a ∧ w.cell? ⟨k, 1, none⟩ = some b ∧ w.cell? ⟨k, 2, none⟩ = some c ∧ w.frozen? ⟨k, 0, none⟩ = false ∧ w.frozen? ⟨k, 1, none⟩ = false ∧ w.frozen? ⟨k, 2, none⟩ = false :=
  ⟨cell_of_row w k 0 _ _ _ h, cell_of_row w k 1 _ _ _ h, cell_of_row w k 2 _ _ _ h, by simp [World.frozen?, h], by simp [World.frozen?, h], by simp [World.frozen?, h]⟩
/-- A reader's block; so many of the bytes that wait are no end. -/
def PdAt (w : World) (g : Nat) (v : Value) (most s : Nat) (l : List UInt8) : Prop :=
  w.heap[g]? = some (.cells #[.int .i64 (most : Int), v, .int .i64 (s : Int)] 48 (0, 0)) ∧ OwnsT w 0 v l ∧ v.ownBlock ≠ some g
theorem PdAt.on {w w' : World} {g : Nat} {v : Value} {m s : Nat} {l : List UInt8} (h : PdAt w g v m s l) (hs : w.heap.size ≤ w'.heap.size) (hk : w'.heap[g]? = w.heap[g]?) (hv : ∀ b, v.ownBlock = some b → w'.heap[b]? = w.heap[b]?) : PdAt w' g v m s l :=
  ⟨by rw [hk]; exact h.1, h.2.1.keptB hs fun b hb _ => hv b hb, h.2.2⟩
def PNewEnd (most : Int) (w : World) (e : Ending) (w' : World) : Prop :=
  Below w.heap.size w w' ∧ (((most < 1 ∨ 65536 < most) ∧ e = .returned (.tuple #[.pointer none, .int .i64 1])) ∨ ((1 ≤ most ∧ most ≤ 65536) ∧ e = .returned (.tuple #[.pointer (some ⟨w.heap.size, 0, none⟩), .int .i64 0]) ∧ w.heap.size < w'.heap.size ∧ PdAt w' w.heap.size (.slice none 0 0) most.toNat 0 []))
set_option maxHeartbeats 1600000 in
set_option maxRecDepth 100000 in
theorem pNew (most : Int) (w : World) : Calls Try.prog 8 #[.int .i64 most] w (PNewEnd most w) := by
  rcases Int.lt_or_le most 1 with h | h
  · go_enter Try.func8, Try.ntmps8
    go_wp2
    go_ret2
    exact ⟨Below.refl _ _, Or.inl ⟨Or.inl h, rfl⟩⟩
  · have k1 : ¬ most < 1 := by omega
    rcases Int.lt_or_le 65536 most with h2 | h2
    · go_enter Try.func8, Try.ntmps8
      go_wp2
      go_ret2
      exact ⟨Below.refl _ _, Or.inl ⟨Or.inr h2, rfl⟩⟩
    · have k2 : ¬ 65536 < most := by omega
      go_enter Try.func8, Try.ntmps8
      go_wp2
      go_ret2
      have hm : ((most.toNat : Nat) : Int) = most := by omega
      exact ⟨Below.alloc1 _ _, Or.inr ⟨⟨h, h2⟩, rfl, by show w.heap.size < (w.heap.push _).size; simp, (by rw [hm]; show (w.heap.push _)[w.heap.size]? = _; simp), Or.inl ⟨rfl, rfl⟩, by simp [Value.ownBlock]⟩⟩
set_option maxHeartbeats 1600000 in
set_option maxRecDepth 100000 in
theorem pLeft (g : Nat) (v : Value) (most s : Nat) (l : List UInt8) (w : World) (h : PdAt w g v most s l) : Calls Try.prog 14 #[.pointer (some ⟨g, 0, none⟩)] w fun e w' => e = .returned (.int .i64 (l.length : Int)) ∧ w = w' := by
  obtain ⟨c0, c1, _, _⟩ := three_cells h.1
  obtain ⟨a, c, rfl⟩ := h.2.1.reads.form
  clear h
  go_enter Try.func14, Try.ntmps14
  go_wp2
  go_ret
  exact ⟨rfl, rfl⟩
/-- The reader's block, its bytes put anew. -/
theorem PdAt.put {w : World} {g : Nat} {v0 v : Value} {m s : Nat} {l : List UInt8} (h : w.heap[g]? = some (.cells #[.int .i64 (m : Int), v0, .int .i64 (s : Int)] 48 (0, 0))) (ho : OwnsT w 0 v l) (hne : v.ownBlock ≠ some g) : PdAt (w.setCell ⟨g, 1, none⟩ v) g v m s l := by
  refine ⟨by rw [heap_setCell_same w g 1 _ _ _ h]; rfl, ho.keptB (KeepX.set g w 1 v).size fun b hb hlt => ?_, hne⟩
  have : b ≠ g := fun e => hne (by rw [hb, e])
  exact (KeepX.set g w 1 v).block b hlt this
/-- How many are known, put anew. -/
theorem PdAt.known {w : World} {g : Nat} {v : Value} {m s : Nat} {l : List UInt8} (h : PdAt w g v m s l) (k : Nat) : PdAt (w.setCell ⟨g, 2, none⟩ (.int .i64 (k : Int))) g v m k l := by
  refine ⟨by rw [heap_setCell_same w g 2 _ _ _ h.1]; rfl, h.2.1.keptB (KeepX.set g w 2 _).size fun b hb hlt => ?_, h.2.2⟩
  have : b ≠ g := fun e => h.2.2 (by rw [hb, e])
  exact (KeepX.set g w 2 _).block b hlt this
def PFeedEnd (g : Nat) (v : Value) (most s : Nat) (l d : List UInt8) (w : World) (e : Ending) (w' : World) : Prop :=
  e = .returned (.tuple #[]) ∧ KeepR g v w w' ∧ ∃ v', PdAt w' g v' most s (l ++ d) ∧ SameOrNew v v' w.heap.size
set_option maxHeartbeats 1600000 in
set_option maxRecDepth 100000 in
theorem pFeed (g : Nat) (v x : Value) (most s : Nat) (l d : List UInt8) (w : World) (h : PdAt w g v most s l) (hr : Reads w x d) (hlim : l.length + d.length ≤ 140737488355328 ∨ (v = .slice none 0 0 ∧ d.length ≤ 200000000000000)) :
    Calls Try.prog 10 #[.pointer (some ⟨g, 0, none⟩), x] w (PFeedEnd g v most s l d w) := by
  obtain ⟨c0, c1, c2, _⟩ := three_cells h.1
  have HG := Lib.hid (heap_lt h.1)
  have HR := Lib.hid hr
  have HH := Lib.hid h
  clear h hr
  go_enter Try.func10, Try.ntmps10
  go_wp2_with (at_builtin; go_must (refine wp_append_T _ rfl _ _ rfl 0 v x l d rfl rfl HH.out.2.1 HR.out hlim (Nat.zero_le _) ?_); intro v1 w1 own1 gr1 at1; refine Hid.out ?_)
  refine Lib.hid ?_
  have HO1 := Lib.hid own1
  have HGR := Lib.hid gr1
  have HAT := Lib.hid at1
  have HB1 : Hid (w1.heap[g]? = some (.cells #[.int .i64 (most : Int), v, .int .i64 (s : Int)] 48 (0, 0))) := by
    show _ = _
    rw [gr1.block g HG.out HH.out.2.2.symm]; exact HH.out.1
  obtain ⟨d0, d1, d2, e0, e1, e2⟩ := three_cells HB1.out
  obtain ⟨va, vc, hvf⟩ := own1.reads.form
  subst hvf
  clear own1 gr1 at1 c0 c1 c2
  go_wp2
  go_end0
  rw [← List.length_append]
  have hne : (Value.slice va (l ++ d).length vc).ownBlock ≠ some g := by
    rcases HAT.out with h | h
    · rw [h]; exact HH.out.2.2
    · intro e; have := h g e; have := HG.out; omega
  exact ⟨rfl, (KeepR.of_grown HGR.out).set 1 _, _, PdAt.put HB1.out HO1.out hne, HAT.out⟩
end Go.Proofs.Ytgiooblopdoobaa.Lines
