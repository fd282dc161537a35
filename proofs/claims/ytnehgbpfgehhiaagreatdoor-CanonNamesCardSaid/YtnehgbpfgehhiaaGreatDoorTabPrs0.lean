/-
  MERGED by mergefill.py: TabPrs0.
-/
import Derived.Test.YtnehgbpfgehhiaaGreatDoorTabPTabM
import Derived.Test.YtnehgbpfgehhiaaGreatDoorTabRPar
/-
  TABLE, the program: what a text is read as: the walk.
-/
namespace Go.Proofs.YtnehgbpfgehhiaaGreatDoor.Table
open Go.RowKit Base
/-- The entries that have ended, when one more does. -/
def endP (E : List KV) : Option Ent → (Nat × Nat) ⊕ List KV
  | none => .inr E
  | some e => if wrongP E (kvOf e).1 (kvOf e).2 = 0 then .inr (E ++ [kvOf e]) else .inl (wrongP E (kvOf e).1 (kvOf e).2, e.pos)
abbrev RunR := (Nat × Nat) ⊕ (List KV × Option Ent)
def runP : Nat → List (List UInt8) → List KV → Option Ent → RunR
  | _, [], E, cur => .inr (E, cur)
  | a, l :: r, E, cur =>
    if skipB l = true then runP (a + l.length + 1) r E cur
    else if headIs isBl l = true then (match cur with
      | none => .inl (61, a)
      | some e => runP (a + l.length + 1) r E (some { e with more := e.more ++ [trim l] }))
    else (match endP E cur with
      | .inl f => .inl f
      | .inr E2 => runP (a + l.length + 1) r E2 (some ⟨a, l, []⟩))
theorem runP_cons (a : Nat) (l : List UInt8) (r : List (List UInt8)) (E : List KV) (cur : Option Ent) : runP a (l :: r) E cur =
    if skipB l = true then runP (a + l.length + 1) r E cur
    else if headIs isBl l = true then (match cur with
      | none => .inl (61, a)
      | some e => runP (a + l.length + 1) r E (some { e with more := e.more ++ [trim l] }))
    else (match endP E cur with
      | .inl f => .inl f
      | .inr E2 => runP (a + l.length + 1) r E2 (some ⟨a, l, []⟩)) := rfl
/-- What is wrong, or the entries. -/
def parseP (l : List UInt8) : (Nat × Nat) ⊕ List KV :=
  match runP 0 (splitB 10 l) [] none with
  | .inl f => .inl (firstF (badF l) f)
  | .inr (E, cur) => match endP E cur with
    | .inl f => .inl (firstF (badF l) f)
    | .inr E2 => if (badF l).1 = 0 then .inr E2 else .inl (badF l)
/-- What the program's reader answers. -/
def PrsEnd (p : (Nat × Nat) ⊕ List KV) (w : World) (e : Ending) (w' : World) : Prop :=
  Below w.heap.size w w' ∧ match p with
    | .inl f => e = .returned (.tuple #[.pointer none, fltV f])
    | .inr E => ∃ b T, e = .returned (.tuple #[.pointer (some ⟨b, 0, none⟩), fltV (0, 0)]) ∧ T.Perm E ∧ SortedK T ∧ TabNew 106 w w' b T
def keyC : Option Ent → List UInt8
  | none => []
  | some e => (kvOf e).1
def valC : Option Ent → List UInt8
  | none => []
  | some e => (kvOf e).2
def posC : Option Ent → Nat
  | none => 0
  | some e => e.pos
def box27 (w : World) (b : Nat) (f : Nat × Nat) : Prop := w.heap[b]? = some (.cells #[.int .i64 (f.1 : Int), .int .i64 (f.2 : Int)] 51 (0, 0))
theorem box27.keep {w w' : World} {b : Nat} {f : Nat × Nat} (h : box27 w b f) (hk : KeepTy w w') : box27 w' b f := hk _ _ _ _ h (by decide) (by decide) (by decide)
theorem box27.on {w w' : World} {b : Nat} {f : Nat × Nat} (h : box27 w b f) (hb : Below w.heap.size w w') : box27 w' b f := (hb.block b (heap_lt h)).trans h
/-- The program's boxes, under way. -/
structure PL (w wr : World) (b0 bb fb rb mb gl : Nat) (bad : Nat × Nat) (cur9 : Array Value) (E : List KV) (cur : Option Ent) : Prop where
  rst : RSt w.heap.size wr rb mb E cur.isSome (posC cur : Int) (keyC cur) (valC cur)
  h0 : box27 wr b0 (0, 0)
  h1 : box27 wr bb bad
  h2 : box27 wr fb (0, 0)
  h3 : wr.heap[gl]? = some (.cells cur9 9 (0, 0))
  ne : b0 ≠ bb ∧ b0 ≠ fb ∧ bb ≠ fb ∧ w.heap.size ≤ b0 ∧ w.heap.size ≤ bb ∧ w.heap.size ≤ fb
  below : Below w.heap.size w wr
section
variable {w wr w' : World} {b0 bb fb rb mb gl : Nat} {bad : Nat × Nat} {cur9 : Array Value} {E E' : List KV} {cur cur' : Option Ent}
/-- A step. -/
theorem PL.step (h : PL w wr b0 bb fb rb mb gl bad cur9 E cur) (hs : PStep w.heap.size wr w') (hr : RSt w.heap.size w' rb mb E' cur'.isSome (posC cur' : Int) (keyC cur') (valC cur')) : PL w w' b0 bb fb rb mb gl bad cur9 E' cur' :=
  ⟨hr, h.h0.keep hs.keep, h.h1.keep hs.keep, h.h2.keep hs.keep, hs.keep _ _ _ _ h.h3 (by decide) (by decide) (by decide), h.ne, h.below.trans hs.below⟩
theorem PL.on (h : PL w wr b0 bb fb rb mb gl bad cur9 E cur) (hb : Below wr.heap.size wr w') : PL w w' b0 bb fb rb mb gl bad cur9 E cur :=
  h.step (PStep.of_below hb h.below.size) (h.rst.on hb)
/-- The fault's box is written with no fault. -/
theorem box_same {wr : World} {b : Nat} {f : Nat × Nat} (h : box27 wr b f) (g : Nat × Nat) : box27 ((wr.setCell ⟨b, 0, none⟩ (.int .i64 (g.1 : Int))).setCell ⟨b, 1, none⟩ (.int .i64 (g.2 : Int))) b g := set_two h _ _
theorem box_other {wr : World} {b k : Nat} {u v : Value} (hne : k ≠ b) : ((wr.setCell ⟨b, 0, none⟩ u).setCell ⟨b, 1, none⟩ v).heap[k]? = wr.heap[k]? := by rw [Below.heap_setCell _ _ _ _ hne, Below.heap_setCell _ _ _ _ hne]
theorem RSt.boxed {B : Nat} {o : Bool} {s : Int} {key val : List UInt8} (h : RSt B wr rb mb E o s key val) {b : Nat} {f : Nat × Nat} (hb : box27 wr b f) (u v : Value) : RSt B ((wr.setCell ⟨b, 0, none⟩ u).setCell ⟨b, 1, none⟩ v) rb mb E o s key val := by
  obtain ⟨ev, vv, hx⟩ := h
  exact ⟨ev, vv, hx.other hb (fun k hk => box_other hk) (by simp)⟩
theorem PL.fault (h : PL w wr b0 bb fb rb mb gl bad cur9 E cur) : PL w ((wr.setCell ⟨fb, 0, none⟩ (.int .i64 0)).setCell ⟨fb, 1, none⟩ (.int .i64 0)) b0 bb fb rb mb gl bad cur9 E cur := by
  obtain ⟨n1, n2, n3, n4, n5, n6⟩ := h.ne
  refine ⟨h.rst.boxed h.h2 _ _, (box_other n2).trans h.h0, (box_other n3).trans h.h1, box_same h.h2 (0, 0), (box_other (fun e => ?_)).trans h.h3, h.ne, (h.below.setCell n6 _).setCell n6 _⟩
  have h9 := h.h3
  rw [e] at h9
  have := h.h2
  unfold box27 at this
  rw [this] at h9; cases h9
end
theorem endP_none (E : List KV) : endP E none = .inr E := rfl
theorem endP_yes {E : List KV} {e : Ent} (h : wrongP E (kvOf e).1 (kvOf e).2 = 0) : endP E (some e) = .inr (E ++ [kvOf e]) := by show (if _ then _ else _) = _; rw [if_pos h]
theorem endP_no {E : List KV} {e : Ent} (h : wrongP E (kvOf e).1 (kvOf e).2 ≠ 0) : endP E (some e) = .inl (wrongP E (kvOf e).1 (kvOf e).2, e.pos) := by show (if _ then _ else _) = _; rw [if_neg h]
theorem kv_more (e : Ent) (p : List UInt8) : kvOf { e with more := e.more ++ [p] } = ((kvOf e).1, joinP (kvOf e).2 p) := by
  unfold kvOf valueOf
  rw [List.foldl_append]; rfl
theorem kv_len (e : Ent) : (kvOf e).1.length ≤ e.text.length ∧ (kvOf e).2.length ≤ e.text.length + sumL e.more := by
  unfold kvOf valueOf
  have h1 := keyOf_le e.text
  have h2 := foldP_len e.more (trim (e.text.dropWhile noBl))
  have h3 := trim_len (e.text.dropWhile noBl)
  have h4 : (e.text.dropWhile noBl).length ≤ e.text.length := (List.dropWhile_sublist _).length_le
  refine ⟨by show (lower _).length ≤ _; rw [lower_len]; exact h1, by show (e.more.foldl joinP (trim (e.text.dropWhile noBl))).length ≤ _; omega⟩
/-- The loop over the lines. -/
structure LoopI (w wr : World) (b0 bb fb rb mb gl : Nat) (bad : Nat × Nat) (cur9 : Array Value) (ls : List (List UInt8)) (N : Nat) (fin : RunR) (k a : Nat) (E : List KV) (cur : Option Ent) : Prop where
  pl : PL w wr b0 bb fb rb mb gl bad cur9 E cur
  eq : runP a (ls.drop k) E cur = fin
  el : E.length ≤ k
  cl : ∀ e, cur = some e → e.text.length + sumL e.more ≤ a
  al : a + sumL (ls.drop k) = N
section
variable {w wr w' : World} {b0 bb fb rb mb gl : Nat} {bad : Nat × Nat} {cur9 : Array Value} {ls : List (List UInt8)} {N : Nat} {fin : RunR} {k a : Nat} {E : List KV} {cur : Option Ent} {l : List UInt8}
theorem LoopI.cons (h : LoopI w wr b0 bb fb rb mb gl bad cur9 ls N fin k a E cur) (hl : ls[k]? = some l) : runP a (l :: ls.drop (k + 1)) E cur = fin ∧ a + l.length + 1 + sumL (ls.drop (k + 1)) = N := by
  obtain ⟨hk, he⟩ := List.getElem?_eq_some_iff.1 hl
  have h1 := h.eq
  have h2 := h.al
  rw [List.drop_eq_getElem_cons hk, he] at h1 h2
  exact ⟨h1, by simp [sumL] at h2 ⊢; omega⟩
theorem LoopI.bounds (h : LoopI w wr b0 bb fb rb mb gl bad cur9 ls N fin k a E cur) : (keyC cur).length ≤ a ∧ (valC cur).length ≤ a ∧ a ≤ N := by
  have h2 := h.al
  cases cur with
  | none => exact ⟨Nat.zero_le _, Nat.zero_le _, by omega⟩
  | some e =>
    have h3 := h.cl e rfl
    obtain ⟨k1, k2⟩ := kv_len e
    refine ⟨?_, ?_, by omega⟩
    · show (kvOf e).1.length ≤ a; omega
    · show (kvOf e).2.length ≤ a; omega
theorem LoopI.pass (h : LoopI w wr b0 bb fb rb mb gl bad cur9 ls N fin k a E cur) (hl : ls[k]? = some l) (hs : skipB l = true) (hp : PL w w' b0 bb fb rb mb gl bad cur9 E cur) : LoopI w w' b0 bb fb rb mb gl bad cur9 ls N fin (k + 1) (a + l.length + 1) E cur := by
  obtain ⟨h1, h2⟩ := h.cons hl
  rw [runP_cons, if_pos hs] at h1
  exact ⟨hp, h1, by have := h.el; omega, fun e he => by have := h.cl e he; omega, h2⟩
theorem LoopI.more {e : Ent} (h : LoopI w wr b0 bb fb rb mb gl bad cur9 ls N fin k a E (some e)) (hl : ls[k]? = some l) (hs : skipB l = false) (hb : headIs isBl l = true) (hp : PL w w' b0 bb fb rb mb gl bad cur9 E (some { e with more := e.more ++ [trim l] })) : LoopI w w' b0 bb fb rb mb gl bad cur9 ls N fin (k + 1) (a + l.length + 1) E (some { e with more := e.more ++ [trim l] }) := by
  obtain ⟨h1, h2⟩ := h.cons hl
  rw [runP_cons, if_neg (by rw [hs]; simp), if_pos hb] at h1
  refine ⟨hp, h1, by have := h.el; omega, fun e' he => ?_, h2⟩
  cases he
  have h3 := h.cl e rfl
  have h4 := trim_len l
  show e.text.length + sumL (e.more ++ [trim l]) ≤ _
  rw [sumL_app]; simp [sumL] at h3 ⊢; omega
theorem LoopI.orphan (h : LoopI w wr b0 bb fb rb mb gl bad cur9 ls N fin k a E none) (hl : ls[k]? = some l) (hs : skipB l = false) (hb : headIs isBl l = true) : fin = .inl (61, a) := by
  obtain ⟨h1, _⟩ := h.cons hl
  rw [runP_cons, if_neg (by rw [hs]; simp), if_pos hb] at h1
  exact h1.symm
theorem LoopI.wrong {f : Nat × Nat} (h : LoopI w wr b0 bb fb rb mb gl bad cur9 ls N fin k a E cur) (hl : ls[k]? = some l) (hs : skipB l = false) (hb : headIs isBl l = false) (he : endP E cur = .inl f) : fin = .inl f := by
  obtain ⟨h1, _⟩ := h.cons hl
  rw [runP_cons, if_neg (by rw [hs]; simp), if_neg (by rw [hb]; simp), he] at h1
  exact h1.symm
theorem LoopI.next {E2 : List KV} (h : LoopI w wr b0 bb fb rb mb gl bad cur9 ls N fin k a E cur) (hl : ls[k]? = some l) (hs : skipB l = false) (hb : headIs isBl l = false) (he : endP E cur = .inr E2) (hE : E2.length ≤ E.length + 1) (hp : PL w w' b0 bb fb rb mb gl bad cur9 E2 (some ⟨a, l, []⟩)) : LoopI w w' b0 bb fb rb mb gl bad cur9 ls N fin (k + 1) (a + l.length + 1) E2 (some ⟨a, l, []⟩) := by
  obtain ⟨h1, h2⟩ := h.cons hl
  rw [runP_cons, if_neg (by rw [hs]; simp), if_neg (by rw [hb]; simp), he] at h1
  refine ⟨hp, h1, by have := h.el; omega, fun e' he => ?_, h2⟩
  cases he
  show l.length + sumL [] ≤ _
  simp [sumL]; omega
theorem PL.boxes (h : PL w wr b0 bb fb rb mb gl bad cur9 E cur) : box27 wr b0 (0, 0) ∧ box27 wr bb bad ∧ box27 wr fb (0, 0) := ⟨h.h0, h.h1, h.h2⟩
end
/-- The boxes at the beginning. -/
theorem pl_start {w w1 w5 : World} {bad : Nat × Nat} {cur9 : Array Value} {gl : Nat} (hb1 : Below (w.alloc (.cells #[.int .i64 0, .int .i64 0] 51)).heap.size (w.alloc (.cells #[.int .i64 0, .int .i64 0] 51)) w1)
    (hb5 : Below ((((w1.alloc (.cells #[.int .i64 (bad.1 : Int), .int .i64 (bad.2 : Int)] 51)).alloc (.map #[] 0)).alloc (.cells #[.slice none 0 0, .map (some (w1.heap.size + 1)), .bool false, .int .i64 0, .string ⟨#[]⟩, .slice none 0 0] 89)).alloc (.cells #[.int .i64 0, .int .i64 0] 51)).heap.size
      ((((w1.alloc (.cells #[.int .i64 (bad.1 : Int), .int .i64 (bad.2 : Int)] 51)).alloc (.map #[] 0)).alloc (.cells #[.slice none 0 0, .map (some (w1.heap.size + 1)), .bool false, .int .i64 0, .string ⟨#[]⟩, .slice none 0 0] 89)).alloc (.cells #[.int .i64 0, .int .i64 0] 51)) w5)
    (h3 : w5.heap[gl]? = some (.cells cur9 9 (0, 0))) : PL w w5 w.heap.size w1.heap.size (w1.heap.size + 1 + 1 + 1) (w1.heap.size + 1 + 1) (w1.heap.size + 1) gl bad cur9 [] none := by
  have zw : w.heap.size + 1 ≤ w1.heap.size := by have := hb1.size; simpa using this
  have a0 := (MapKept.heap_alloc w (.cells #[.int .i64 0, .int .i64 0] 51)).1
  have a0' := (hb1.block w.heap.size (by simp)).trans a0
  obtain ⟨x1, hx1⟩ : ∃ x1, x1 = w1.alloc (.cells #[.int .i64 (bad.1 : Int), .int .i64 (bad.2 : Int)] 51) := ⟨_, rfl⟩
  obtain ⟨x2, hx2⟩ : ∃ x2, x2 = x1.alloc (.map #[] 0) := ⟨_, rfl⟩
  obtain ⟨x3, hx3⟩ : ∃ x3, x3 = x2.alloc (.cells #[.slice none 0 0, .map (some (w1.heap.size + 1)), .bool false, .int .i64 0, .string ⟨#[]⟩, .slice none 0 0] 89) := ⟨_, rfl⟩
  obtain ⟨x4, hx4⟩ : ∃ x4, x4 = x3.alloc (.cells #[.int .i64 0, .int .i64 0] 51) := ⟨_, rfl⟩
  rw [← hx1, ← hx2, ← hx3, ← hx4] at hb5
  have s1 : x1.heap.size = w1.heap.size + 1 := by rw [hx1]; simp
  have s2 : x2.heap.size = w1.heap.size + 1 + 1 := by rw [hx2]; simp [s1]
  have s3 : x3.heap.size = w1.heap.size + 1 + 1 + 1 := by rw [hx3]; simp [s2]
  have s4 : x4.heap.size = w1.heap.size + 1 + 1 + 1 + 1 := by rw [hx4]; simp [s3]
  have e4 := (MapKept.heap_alloc x3 (.cells #[.int .i64 0, .int .i64 0] 51))
  have e3 := (MapKept.heap_alloc x2 (.cells #[.slice none 0 0, .map (some (w1.heap.size + 1)), .bool false, .int .i64 0, .string ⟨#[]⟩, .slice none 0 0] 89))
  have e2 := (MapKept.heap_alloc x1 (.map #[] 0))
  have e1 := (MapKept.heap_alloc w1 (.cells #[.int .i64 (bad.1 : Int), .int .i64 (bad.2 : Int)] 51))
  rw [← hx4] at e4
  rw [← hx3] at e3
  rw [← hx2] at e2
  rw [← hx1] at e1
  have up : ∀ k, k < w1.heap.size → w5.heap[k]? = w1.heap[k]? := fun k hk => by
    rw [hb5.block k (by omega), e4.2 k (by omega), e3.2 k (by omega), e2.2 k (by omega), e1.2 k (by omega)]
  have q1 : w5.heap[w1.heap.size]? = some (.cells #[.int .i64 (bad.1 : Int), .int .i64 (bad.2 : Int)] 51 (0, 0)) := by
    rw [hb5.block _ (by omega), e4.2 _ (by omega), e3.2 _ (by omega), e2.2 _ (by omega)]; exact e1.1
  have mk : MapIs Tryz.prog 9 x2 x1.heap.size [] := by rw [hx2]; exact MapIs.made x1 Tryz.prog 9
  rw [s1] at mk
  have q3 : w5.heap[w1.heap.size + 1 + 1]? = some (.cells #[.slice none 0 0, .map (some (w1.heap.size + 1)), .bool false, .int .i64 0, .string ⟨#[]⟩, .slice none 0 0] 89 (0, 0)) := by
    rw [hb5.block _ (by omega), e4.2 _ (by omega), ← s2]; exact e3.1
  have q4 : w5.heap[w1.heap.size + 1 + 1 + 1]? = some (.cells #[.int .i64 0, .int .i64 0] 51 (0, 0)) := by
    rw [hb5.block _ (by omega), ← s3]; exact e4.1
  have z5 := hb5.size
  refine ⟨⟨.slice none 0 0, .slice none 0 0, q3, World.ownsRow_nil _ _ _ _, World.ownsRow_nil _ _ _ _, mk.kept (by rw [hb5.block _ (by omega), e4.2 _ (by omega), e3.2 _ (by omega)]), by omega, by omega, by omega⟩, by unfold box27; rw [up _ (by omega)]; exact a0', q1, q4, h3, ⟨by omega, by omega, by omega, by omega, by omega, by omega⟩, ?_⟩
  have b1 : Below w.heap.size w w1 := (Below.alloc1 _ _).trans (hb1.mono (by simp))
  have b4 : Below w1.heap.size w1 x4 := by
    rw [hx4, hx3, hx2, hx1]
    exact ((((Below.refl _ _).alloc (Nat.le_refl _) _).alloc (by simp) _).alloc (by simp; omega) _).alloc (by simp; omega) _
  exact (b1.trans (b4.mono (by omega))).trans (hb5.mono (by omega))
end Go.Proofs.YtnehgbpfgehhiaaGreatDoor.Table
