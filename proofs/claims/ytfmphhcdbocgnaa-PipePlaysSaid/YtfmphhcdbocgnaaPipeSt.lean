/-
  THE PIPES' STATE: what the pipes are, where they lie, and what keeps them as they are.
-/
import Derived.Test.YtfmphhcdbocgnaaProg
import Derived.Test.YtfmphhcdbocgnaaBase
import Derived.Test.YtfmphhcdbocgnaaMapBase
import Derived.KernelRfl
import Derived.DeepKeys5
namespace Go.Proofs.Ytfmphhcdbocgnaa.Pipe
open Go.RowKit Base
open Go.Maps (Keyed)

theorem laidOut : laidOutB Try.prog = true := by kernel_rfl
theorem tsize : Try.prog.types.size + 2 ≤ 10000 := Nat.le_of_ble_eq_true (by kernel_rfl)
theorem trow : 52 < Try.prog.types.size := Nat.lt_of_lt_of_le (Nat.lt_succ_self _) (Nat.le_of_ble_eq_true (by kernel_rfl))
theorem keyT : Try.prog.keyType 52 = true := by kernel_rfl
theorem klaw : Keyed Try.prog 52 := Keyed.of_law (deep_law_gate laidOut tsize trow keyT (by rw [Try.underlying52]))
theorem cells52 : Try.prog.cellsOf 52 = 2 := by kernel_rfl
theorem cells9 : Try.prog.cellsOf 9 = 1 := by kernel_rfl
theorem kl9 (d : Nat) (s : ByteArray) (h : s.size ≤ maxLen) : Try.prog.keyLits (d + 1) 9 [.string s] = some [.string s.data.toList] := by
  unfold Program.keyLits
  rw [Try.underlying9]
  exact if_pos h
theorem kl52 (d : Nat) (f t : ByteArray) (hf : f.size ≤ maxLen) (ht : t.size ≤ maxLen) : Try.prog.keyLits (d + 2) 52 [.string f, .string t] = some [.string f.data.toList, .string t.data.toList] := by
  unfold Program.keyLits
  rw [Try.underlying52]
  simp only [cells52, cells9, List.length_cons, List.length_nil, List.drop, List.take, List.mapM_cons, List.mapM_nil]
  rw [kl9 d f hf, kl9 d t ht]
  exact if_pos ⟨trivial, by decide +kernel⟩
def keyv (f t : ByteArray) : Value := .agg #[.string f, .string t]
theorem key_some (f t : ByteArray) (hf : f.size ≤ maxLen) (ht : t.size ≤ maxLen) : keyOf Try.prog 52 (.agg #[.string f, .string t]) = some (.string (keyBytes [.string f.data.toList, .string t.data.toList])) := by
  obtain ⟨d, hd⟩ : ∃ d, Try.prog.types.size + 1 = d + 2 := ⟨Try.prog.types.size - 1, by have := trow; omega⟩
  have h := kl52 d f t hf ht
  have hfm : (Value.agg #[.string f, .string t]).formed Try.prog 52 = true := by
    unfold Value.formed; rw [Try.underlying52, cells52]; rfl
  unfold keyOf
  rw [Try.underlying52, hd]
  show (if _ then Option.map _ (Try.prog.keyLits (d + 2) 52 [.string f, .string t]) else none) = _
  rw [h, if_pos (by rw [keyT, hfm]; rfl)]
  rfl

/-- WHOSE A BLOCK IS: of the program's pipes; of the document's; nobody's. -/
inductive PT where
  | root | map | pipe (i : Nat) | row (i : Nat) | msg (i k : Nat)
/-- Of which pipe. -/
def PT.of : PT → Option Nat
  | .root => none | .map => none | .pipe i => some i | .row i => some i | .msg i _ => some i
inductive RT where
  | root | row | lrow (i : Nat) | msg
inductive Tag where
  | no | p (t : PT) | r (t : RT)

/-- A pipe: what it is. -/
structure PA where
  f : ByteArray
  t : ByteArray
  most : Nat
  q : List (List UInt8)
/-- .. and where it lies. -/
structure PG where
  pb : Nat
  sv : Value
  vs : List Value
  done : Nat
def entry (p : PA × PG) : Value × Value := (.agg #[.string p.1.f, .string p.1.t], .pointer (some ⟨p.2.pb, 0, none⟩))

structure PipeAt (own : Nat → Tag) (w : World) (i : Nat) (p : PA × PG) : Prop where
  box : w.heap[p.2.pb]? = some (.cells #[.int .i64 (p.1.most : Int), p.2.sv] 57 (0, 0))
  boxOwn : own p.2.pb = .p (.pipe i)
  row : w.ownsRow 0 29 1 p.2.sv p.1.q.length p.2.vs
  rowOwn : ∀ b, p.2.sv.ownBlock = some b → own b = .p (.row i)
  len : p.2.vs.length = p.1.q.length
  msgs : ∀ j v l, p.2.vs[j]? = some v → p.1.q[j]? = some l → Owns w 0 v l ∧ ∀ b, v.ownBlock = some b → own b = .p (.msg i (p.2.done + j))
  most1 : 1 ≤ p.1.most
  most2 : p.1.most ≤ 64
  fits : p.1.q.length ≤ p.1.most
  short : ∀ l ∈ p.1.q, l.length ≤ 65536
  fsz : p.1.f.size ≤ 32
  tsz : p.1.t.size ≤ 32

/-- THE PIPES LIE SO. -/
structure Holds (own : Nat → Tag) (w : World) (g mb : Nat) (Ps : List (PA × PG)) : Prop where
  root : w.heap[g]? = some (.cells #[.map (some mb)] 44 (0, 0))
  rootOwn : own g = .p .root
  map : MapIs Try.prog 52 w mb (Ps.map entry)
  mapOwn : own mb = .p .map
  pipes : ∀ i p, Ps[i]? = some p → PipeAt own w i p
  fresh : ∀ b, w.heap.size ≤ b → own b = .no

/-- WHAT A STEP OF THE PROGRAM'S PIPES LEAVES: all that is not theirs, and whose it is. -/
structure Step (own : Nat → Tag) (w : World) (own' : Nat → Tag) (w' : World) : Prop where
  os : w'.os = w.os
  tape : w'.tape = w.tape
  output : w'.output = w.output
  size : w.heap.size ≤ w'.heap.size
  block : ∀ b, b < w.heap.size → (∀ t, own b ≠ .p t) → w'.heap[b]? = w.heap[b]?
  tags : ∀ b, b < w.heap.size → (∀ t, own b ≠ .p t) → own' b = own b
theorem Step.refl (own : Nat → Tag) (w : World) : Step own w own w := ⟨rfl, rfl, rfl, Nat.le_refl _, fun _ _ _ => rfl, fun _ _ _ => rfl⟩
theorem Step.trans {o1 o2 o3 : Nat → Tag} {w1 w2 w3 : World} (h : Step o1 w1 o2 w2) (k : Step o2 w2 o3 w3) : Step o1 w1 o3 w3 :=
  ⟨k.os.trans h.os, k.tape.trans h.tape, k.output.trans h.output, Nat.le_trans h.size k.size,
   fun b hb hn => (k.block b (Nat.lt_of_lt_of_le hb h.size) (by rw [h.tags b hb hn]; exact hn)).trans (h.block b hb hn),
   fun b hb hn => (k.tags b (Nat.lt_of_lt_of_le hb h.size) (by rw [h.tags b hb hn]; exact hn)).trans (h.tags b hb hn)⟩
theorem Step.of_below {own : Nat → Tag} {w w' : World} (h : Below w.heap.size w w') : Step own w own w' := ⟨h.os, h.tape, h.output, h.size, fun b hb _ => h.block b hb, fun _ _ _ => rfl⟩

section
variable {own own' : Nat → Tag} {w w' : World} {g mb : Nat} {Ps : List (PA × PG)}
theorem own_lt (hf : ∀ b, w.heap.size ≤ b → own b = .no) {b : Nat} {t : PT} (h : own b = .p t) : b < w.heap.size := by
  rcases Nat.lt_or_ge b w.heap.size with h' | h'
  · exact h'
  · rw [hf b h'] at h; cases h
theorem Owns.keptO {v : Value} {l : List UInt8} (h : Owns w 0 v l) (hk : ∀ b, v.ownBlock = some b → w'.heap[b]? = w.heap[b]?) : Owns w' 0 v l := h.keptB fun b hb _ => hk b hb
theorem row_kept {e : TypeId} {s : Nat} {v : Value} {n : Nat} {xs : List Value} (h : w.ownsRow 0 e s v n xs) (hk : ∀ b, v.ownBlock = some b → w'.heap[b]? = w.heap[b]?) : w'.ownsRow 0 e s v n xs := by
  refine ⟨h.1, ?_⟩
  rcases h.2 with hn | ⟨g, cap, cur, rfl, h1, h2, h3⟩
  · exact Or.inl hn
  · exact Or.inr ⟨g, cap, cur, rfl, h1, by rw [hk g rfl]; exact h2, h3⟩
theorem PipeAt.kept {i : Nat} {p : PA × PG} (h : PipeAt own w i p) (hk : ∀ b t, own b = .p t → t.of = some i → own' b = .p t ∧ w'.heap[b]? = w.heap[b]?) : PipeAt own' w' i p :=
  ⟨by rw [(hk _ _ h.boxOwn rfl).2]; exact h.box, (hk _ _ h.boxOwn rfl).1, row_kept h.row fun b hb => (hk _ _ (h.rowOwn b hb) rfl).2, fun b hb => (hk _ _ (h.rowOwn b hb) rfl).1, h.len,
   fun j v l h1 h2 => ⟨Owns.keptO (h.msgs j v l h1 h2).1 fun b hb => (hk _ _ ((h.msgs j v l h1 h2).2 b hb) rfl).2, fun b hb => (hk _ _ ((h.msgs j v l h1 h2).2 b hb) rfl).1⟩,
   h.most1, h.most2, h.fits, h.short, h.fsz, h.tsz⟩
/-- The pipes stand while what is not theirs is written and new blocks are made. -/
theorem Holds.kept (h : Holds own w g mb Ps) (hk : ∀ b t, own b = .p t → own' b = .p t ∧ w'.heap[b]? = w.heap[b]?) (hf : ∀ b, w'.heap.size ≤ b → own' b = .no) : Holds own' w' g mb Ps :=
  ⟨by rw [(hk _ _ h.rootOwn).2]; exact h.root, (hk _ _ h.rootOwn).1, h.map.kept (hk _ _ h.mapOwn).2, (hk _ _ h.mapOwn).1, fun i p hp => (h.pipes i p hp).kept (fun b t ht _ => hk b t ht), hf⟩
/-- One pipe has turned. -/
theorem Holds.turned (h : Holds own w g mb Ps) {i : Nat} {p p' : PA × PG} (hp : Ps[i]? = some p) (he : entry p' = entry p) (hk : ∀ b t, own b = .p t → t.of ≠ some i → own' b = .p t ∧ w'.heap[b]? = w.heap[b]?) (hP : PipeAt own' w' i p') (hf : ∀ b, w'.heap.size ≤ b → own' b = .no) :
    Holds own' w' g mb (Ps.set i p') := by
  have hil : i < Ps.length := (List.getElem?_eq_some_iff.1 hp).1
  refine ⟨by rw [(hk _ _ h.rootOwn (by simp [PT.of])).2]; exact h.root, (hk _ _ h.rootOwn (by simp [PT.of])).1, ?_, (hk _ _ h.mapOwn (by simp [PT.of])).1, fun j q hq => ?_, hf⟩
  · have e : (Ps.set i p').map entry = Ps.map entry := by
      rw [List.map_set, he]
      refine List.ext_getElem? fun j => ?_
      rw [List.getElem?_set]
      split
      · rename_i hij; subst hij; rw [List.length_map, if_pos hil, List.getElem?_map, hp]; rfl
      · rfl
    rw [e]
    exact h.map.kept (hk _ _ h.mapOwn (by simp [PT.of])).2
  · rw [List.getElem?_set] at hq
    by_cases hij : i = j
    · subst hij
      rw [if_pos rfl, if_pos hil] at hq
      cases hq
      exact hP
    · rw [if_neg hij] at hq
      exact (h.pipes j q hq).kept fun b t ht hof => hk b t ht (fun e => by rw [hof] at e; cases e; exact hij rfl)
theorem Holds.on (h : Holds own w g mb Ps) (hb : Below w.heap.size w w') : Holds own w' g mb Ps :=
  h.kept (fun b _ ht => ⟨ht, hb.block b (own_lt h.fresh ht)⟩) fun b hle => h.fresh b (Nat.le_trans hb.size hle)
theorem Holds.cell (h : Holds own w g mb Ps) : w.cell? ⟨g, 0, none⟩ = some (.map (some mb)) := cell_of_row w g 0 _ _ _ h.root

/-- Which pipe it is. -/
theorem Holds.find (h : Holds own w g mb Ps) {i : Nat} {p : PA × PG} (hp : Ps[i]? = some p) : (Instr.lookup 42 (.map (some mb)) (.agg #[.string p.1.f, .string p.1.t]) false).run Try.prog w = .ok (.pointer (some ⟨p.2.pb, 0, none⟩)) w :=
  h.map.hit false klaw Try.underlying42 (Try.zeroValue54 w) (List.mem_map.2 ⟨p, List.mem_of_getElem? hp, rfl⟩)
theorem Holds.none (h : Holds own w g mb Ps) {f t : ByteArray} (hf : f.size ≤ maxLen) (ht : t.size ≤ maxLen) (hn : ∀ p ∈ Ps, ¬ (p.1.f = f ∧ p.1.t = t)) :
    (Instr.lookup 42 (.map (some mb)) (.agg #[.string f, .string t]) false).run Try.prog w = .ok (.pointer none) w :=
  h.map.miss false klaw Try.underlying42 (Try.zeroValue54 w) (key_some f t hf ht) fun x hx => by
    obtain ⟨p, hp, rfl⟩ := List.mem_map.1 hx
    intro e
    simp [entry] at e
    exact hn p hp e
theorem PipeAt.cells {i : Nat} {p : PA × PG} (h : PipeAt own w i p) : w.cell? ⟨p.2.pb, 0, none⟩ = some (.int .i64 (p.1.most : Int)) ∧ w.cell? ⟨p.2.pb, 1, none⟩ = some p.2.sv ∧ w.frozen? ⟨p.2.pb, 1, none⟩ = false :=
  ⟨cell_of_row w _ 0 _ _ _ h.box, cell_of_row w _ 1 _ _ _ h.box, by simp [World.frozen?, h.box]⟩
theorem row_form {e : TypeId} {s B : Nat} {v : Value} {n : Nat} {xs : List Value} (h : w.ownsRow B e s v n xs) : ∃ a c, v = .slice a n c ∧ n ≤ c := by
  rcases h.2 with ⟨rfl, hn⟩ | ⟨g, cap, cur, rfl, h1, h2, h3, h4, _⟩
  · exact ⟨none, 0, by rw [hn], by omega⟩
  · exact ⟨_, cap, rfl, h3⟩
end

/-- A pipe of those ports, or none. -/
def Is (f t : ByteArray) (p : PA × PG) : Prop := p.1.f = f ∧ p.1.t = t
theorem find_cases (Ps : List (PA × PG)) (f t : ByteArray) : (∃ (i : Nat) (p : PA × PG), Ps[i]? = some p ∧ p.1.f = f ∧ p.1.t = t) ∨ ∀ p ∈ Ps, ¬ (p.1.f = f ∧ p.1.t = t) := by
  by_cases h : ∃ p ∈ Ps, p.1.f = f ∧ p.1.t = t
  · obtain ⟨p, hp, h⟩ := h
    obtain ⟨i, hi⟩ := List.getElem?_of_mem hp
    exact Or.inl ⟨i, p, hi, h⟩
  · exact Or.inr fun p hp hx => h ⟨p, hp, hx⟩
end Go.Proofs.Ytfmphhcdbocgnaa.Pipe
