/-
  REPLY: reading: a reply that grows in a box of the call's own; how a step goes on.
-/
import Derived.Test.YthkabehojmncmaaDoorRepPrintR
import Derived.Test.YthkabehojmncmaaDoorRepLine
namespace Go.Proofs.YthkabehojmncmaaDoor.Reply
open Go.RowKit Base
/-- Strings laid to a row of the call's own. -/
theorem wp_addW {wr : World} {B : Nat} {v : Value} {ws : List (List UInt8)} {ops : Array Oper} {rest : List Oper} {o : Oper} {a : Act} {Q : Exit → Act → World → Prop} (hgd : o.guard = none) (s y : Operand) (ho : o.op = .call { callee := .builtin .append, args := #[s, y], argTypes := #[22, 22] })
    (h : OwnsS wr B v ws) (hn : ws.length ≤ 1000000000001) (hB : B ≤ wr.heap.size) (p : ByteArray) (hs : a.eval s = v) (hx : a.eval y = .slice (some ⟨wr.heap.size, 0, none⟩) 1 1)
    (hK : ∀ v' w', OwnsS w' B v' (ws ++ [p.data.toList]) → Below B wr w' → (∀ k, k < wr.heap.size → v.ownBlock ≠ some k → w'.heap[k]? = wr.heap[k]?) → wpList Tryd.prog ops Q rest (a.put o.dst v') w') :
    wpList Tryd.prog ops Q (o :: rest) a (wr.alloc (.cells #[.string p] 9)) := by
  obtain ⟨i0, hi, hz0, hz1, hz2⟩ := info_parts info9
  have h1 := h.on (Below.alloc1 wr (.cells #[.string p] 9))
  have hB1 : B ≤ (wr.alloc (.cells #[.string p] 9)).heap.size := Nat.le_trans hB (Below.alloc1 wr _).size
  refine wpList_append_row _ hgd s y 22 ho B 9 i0 (.string ⟨#[]⟩) 16 Tryd.underlying22 hi hz0 hz1 hz2 rfl v _ ws.length (ws.map S) [.string p] hs hx h1 (vreads_one _ _ _) (one_str _) (by rw [List.length_singleton]; omega) (by rw [List.length_singleton]; omega) hB1 (fun v' w' o2 g2 a2 => ?_)
  refine hK v' w' ?_ (((Below.alloc1 wr _).mono hB).trans ((Below.refl _ _).grown g2 hB1 (fun k hk => (World.ownsRow.lt h1 k hk).1))) (fun k hk hv => ?_)
  rotate_left
  · exact (g2.5 k (Nat.lt_of_lt_of_le hk (Below.alloc1 wr _).size) (Ne.symm hv)).trans ((Below.alloc1 wr _).block k hk)
  unfold OwnsS
  rw [List.length_append, List.map_append]
  exact o2
/-- What a reading answers. -/
def ReadEnd (r : Res) (w : World) (e : Ending) (w' : World) : Prop :=
  ∃ lv, e = .returned (.tuple #[replyV (r.1 : Int) lv, .int .i64 (r.2.2.1 : Int), .int .i64 (r.2.2.2 : Int)]) ∧ VReads w' lv (r.2.1.map S) ∧ Below w.heap.size w w'
theorem read_err {z : Nat} {w w' : World} (hb : Below w.heap.size w w') : ReadEnd (0, [], 0, z) w (.returned (.tuple #[replyV 0 (.slice none 0 0), .int .i64 0, .int .i64 (z : Int)])) w' :=
  ⟨_, rfl, Or.inl ⟨rfl, none, 0, rfl, fun _ => rfl⟩, hb⟩
/-- The reply so far, in a box. -/
structure RdSt (wB : World) (g : Nat) (wr : World) (c : Nat) (lv : Value) (ls : List (List UInt8)) : Prop where
  lt : g < wB.heap.size
  keep : KeepX g wB wr
  own : OwnsS wr wB.heap.size lv ls
  box : BoxR wr g (c : Int) lv
section
variable {wB wr : World} {g c : Nat} {lv : Value} {ls : List (List UInt8)}
theorem RdSt.on {w' : World} (h : RdSt wB g wr c lv ls) (hb : Below wr.heap.size wr w') : RdSt wB g w' c lv ls :=
  ⟨h.lt, h.keep.trans (KeepX.of_below hb), h.own.on hb, h.box.on hb⟩
theorem own_ge {w : World} {B : Nat} {v : Value} {ls : List (List UInt8)} (h : OwnsS w B v ls) : ∀ b, v.ownBlock = some b → B ≤ b := by
  intro b hb
  rcases h.2 with ⟨rfl, _⟩ | ⟨g, cap, cur, rfl, h1, _⟩
  · simp [Value.ownBlock] at hb
  · have : g = b := by simpa [Value.ownBlock] using hb
    omega
theorem own_kept {w w' : World} {B : Nat} {v : Value} {ls : List (List UInt8)} (h : OwnsS w B v ls) (hk : ∀ b, B ≤ b → b < w.heap.size → w'.heap[b]? = w.heap[b]?) : OwnsS w' B v ls := by
  refine ⟨h.1, ?_⟩
  rcases h.2 with hn | ⟨g, cap, cur, rfl, h1, h2, h3⟩
  · exact Or.inl hn
  · exact Or.inr ⟨g, cap, cur, rfl, h1, by rw [hk g h1 (heap_lt h2)]; exact h2, h3⟩
theorem RdSt.cells (h : RdSt wB g wr c lv ls) : wr.cell? ⟨g, 0, none⟩ = some (.int .i64 (c : Int)) ∧ wr.cell? ⟨g, 1, none⟩ = some lv ∧ wr.frozen? ⟨g, 0, none⟩ = false ∧ wr.frozen? ⟨g, 1, none⟩ = false := two_cells h.box
theorem RdSt.setCode (h : RdSt wB g wr c lv ls) (k : Nat) : RdSt wB g (wr.setCell ⟨g, 0, none⟩ (.int .i64 (k : Int))) k lv ls := by
  have hlt := h.lt
  refine ⟨h.lt, h.keep.trans (KeepX.set g wr 0 _), own_kept h.own fun b hb hb2 => (KeepX.set g wr 0 _).block b hb2 (by omega), ?_⟩
  unfold BoxR
  rw [heap_setCell_any wr g 0 _ _ _ _ h.box]; rfl
theorem RdSt.setLines {w' : World} {v' : Value} {ks : List (List UInt8)} (h : RdSt wB g wr c lv ls) (hb : Below wB.heap.size wr w') (ho : OwnsS w' wB.heap.size v' ks) : RdSt wB g (w'.setCell ⟨g, 1, none⟩ v') c v' ks := by
  have hlt := h.lt
  have hbox : BoxR w' g (c : Int) lv := by unfold BoxR; rw [hb.block g h.lt]; exact h.box
  have hk : KeepX g wB w' := ⟨hb.os.trans h.keep.os, hb.tape.trans h.keep.tape, hb.output.trans h.keep.output, Nat.le_trans h.keep.size hb.size, fun k hk hg => (hb.block k hk).trans (h.keep.block k hk hg)⟩
  refine ⟨h.lt, hk.trans (KeepX.set g w' 1 _), own_kept ho fun b hb hb2 => (KeepX.set g w' 1 _).block b hb2 (by omega), ?_⟩
  unfold BoxR
  rw [heap_setCell_any w' g 1 _ _ _ _ hbox]; rfl
theorem RdSt.below {w : World} (h : RdSt wB g wr c lv ls) (hb : Below w.heap.size w wB) (hg : w.heap.size ≤ g) : Below w.heap.size w wr :=
  hb.trans (h.keep.below hg h.lt)
end
/-- Another type's block is not the row's. -/
theorem own_other {w : World} {B k : Nat} {v : Value} {ls : List (List UInt8)} {cs : Array Value} {t : TypeId} {fz : Nat × Nat} (h : OwnsS w B v ls) (hk : w.heap[k]? = some (.cells cs t fz)) (ht : t ≠ 9) : v.ownBlock ≠ some k := by
  intro e
  rcases h.2 with ⟨rfl, _⟩ | ⟨g, cap, cur, rfl, _, h2, _⟩
  · simp [Value.ownBlock] at e
  · have : g = k := by simpa [Value.ownBlock] using e
    subst this
    rw [hk] at h2
    injection h2 with h2
    injection h2 with _ h3
    exact ht h3
theorem old_of {w : World} {v : Value} {l : List UInt8} (h : Reads w v l) : l ≠ [] → Old w.heap.size v := by
  intro hne a ha
  rcases h with ⟨h0, _⟩ | ⟨b, o, c, rfl, hc, hcell⟩
  · exact (hne h0).elim
  · have : b = a := by simpa [Value.ownBlock] using ha
    subst this
    exact cell_lt (hcell 0 (by cases l with | nil => exact (hne rfl).elim | cons => simp))
/-- How a step goes on. -/
theorem step_none {f at_ c : Nat} {l : List UInt8} {ls : List (List UInt8)} (h : firstT l 512 = none) : readK (f + 1) l at_ c ls = (0, [], 0, if 512 ≤ l.length then 142 else 140) := by rw [readK, h]
theorem step_bad {f at_ c i : Nat} {l : List UInt8} {ls : List (List UInt8)} (h : firstT l 512 = some i) (h2 : lineR (l.take (i + 1)) = none) : readK (f + 1) l at_ c ls = (0, [], 0, 141) := by
  rw [readK, h]; dsimp only; rw [h2]
theorem step_other {f at_ c i : Nat} {l : List UInt8} {ls : List (List UInt8)} {p : Nat × Bool × List UInt8} (h : firstT l 512 = some i) (h2 : lineR (l.take (i + 1)) = some p) (h3 : ls ≠ []) (h4 : p.1 ≠ c) : readK (f + 1) l at_ c ls = (0, [], 0, 141) := by
  rw [readK, h]; dsimp only; rw [h2]; dsimp only; rw [if_pos ⟨h3, h4⟩]
theorem step_many {f at_ c i : Nat} {l : List UInt8} {ls : List (List UInt8)} {p : Nat × Bool × List UInt8} (h : firstT l 512 = some i) (h2 : lineR (l.take (i + 1)) = some p) (h3 : ls = [] ∨ p.1 = c) (h4 : ls.length = 50) : readK (f + 1) l at_ c ls = (0, [], 0, 142) := by
  rw [readK, h]; dsimp only; rw [h2]; dsimp only
  rw [if_neg (fun x => by rcases h3 with h3 | h3; exact x.1 h3; exact x.2 h3), if_pos h4]
theorem step_more {f at_ c i : Nat} {l : List UInt8} {ls : List (List UInt8)} {k : Nat} {t : List UInt8} (h : firstT l 512 = some i) (h2 : lineR (l.take (i + 1)) = some (k, true, t)) (h3 : ls = [] ∨ k = c) (h4 : ls.length ≠ 50) : readK (f + 1) l at_ c ls = readK f (l.drop (i + 1)) (at_ + i + 1) k (ls ++ [t]) := by
  rw [readK, h]; dsimp only; rw [h2]; dsimp only
  rw [if_neg (fun x => by rcases h3 with h3 | h3; exact x.1 h3; exact x.2 h3), if_neg h4, if_pos rfl]
theorem step_last {f at_ c i : Nat} {l : List UInt8} {ls : List (List UInt8)} {k : Nat} {t : List UInt8} (h : firstT l 512 = some i) (h2 : lineR (l.take (i + 1)) = some (k, false, t)) (h3 : ls = [] ∨ k = c) (h4 : ls.length ≠ 50) : readK (f + 1) l at_ c ls = (k, ls ++ [t], at_ + i + 1, 0) := by
  rw [readK, h]; dsimp only; rw [h2]; dsimp only
  rw [if_neg (fun x => by rcases h3 with h3 | h3; exact x.1 h3; exact x.2 h3), if_neg h4, if_neg (by decide)]
end Go.Proofs.YthkabehojmncmaaDoor.Reply
