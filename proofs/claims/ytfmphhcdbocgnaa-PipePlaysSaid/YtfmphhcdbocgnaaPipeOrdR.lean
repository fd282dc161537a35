/-
  What holds at each turn's beginning: what was sent, what was taken, what lies between.
-/
import Derived.Test.YtfmphhcdbocgnaaPipeShown
namespace Go.Proofs.Ytfmphhcdbocgnaa.Pipe
open Go.RowKit Base
def AA : ByteArray := ⟨#[97]⟩
def BB : ByteArray := ⟨#[98]⟩
/-- A slice of slices of bytes that came in. -/
def Rows2 (w : World) (A : Option Addr) (ls : List (List UInt8)) : Prop :=
  ∀ i l, ls[i]? = some l → ∃ b o xa xc, A = some ⟨b, o, none⟩ ∧ w.cell? ⟨b, o + i, none⟩ = some (.slice xa l.length xc) ∧ Reads w (.slice xa l.length xc) l
def Bools (w : World) (A : Option Addr) (bs : List Bool) : Prop :=
  ∀ i x, bs[i]? = some x → ∃ b o, A = some ⟨b, o, none⟩ ∧ w.cell? ⟨b, o + i, none⟩ = some (.bool x)
theorem Rows2.on {w w' : World} {A : Option Addr} {ls : List (List UInt8)} (h : Rows2 w A ls) (hb : Below w.heap.size w w') : Rows2 w' A ls := fun i l hi => by
  obtain ⟨b, o, xa, xc, rfl, h1, h2⟩ := h i l hi
  exact ⟨b, o, xa, xc, rfl, (hb.cell (p := ⟨b, o + i, none⟩) (cell_lt h1)).trans h1, h2.on hb⟩
theorem Bools.on {w w' : World} {A : Option Addr} {bs : List Bool} (h : Bools w A bs) (hb : Below w.heap.size w w') : Bools w' A bs := fun i l hi => by
  obtain ⟨b, o, rfl, h1⟩ := h i l hi
  exact ⟨b, o, rfl, (hb.cell (p := ⟨b, o + i, none⟩) (cell_lt h1)).trans h1⟩
/-- The two pipes. -/
def two (most : Nat) (q q2 : List (List UInt8)) (G G2 : PG) : List (PA × PG) := [(⟨AA, BB, most, q⟩, G), (⟨BB, AA, 64, q2⟩, G2)]
structure OrdR (w wr : World) (own : Nat → Tag) (sv : Value) (sent : List (List UInt8)) (svs : List Value) : Prop where
  below : Below w.heap.size w wr
  old : ∀ b, b < w.heap.size → own b = .no
  row : wr.ownsRow w.heap.size 29 1 sv sent.length svs
  rowNo : ∀ b, sv.ownBlock = some b → own b = .no
  fresh : ∀ b, wr.heap.size ≤ b → own b = .no
  reads : ∀ (i : Nat) (x : Value) (l : List UInt8), svs[i]? = some x → sent[i]? = some l → ∃ xa xc, x = .slice xa l.length xc ∧ Reads w x l
section
variable {w wr w' : World} {g mb : Nat} {own own' : Nat → Tag} {most : Nat} {q q2 : List (List UInt8)} {G G2 : PG} {sv : Value} {sent : List (List UInt8)} {svs : List Value}
theorem Step.below2 {B : Nat} (hs : Step own wr own' w') (h : ∀ b, b < B → own b = .no) (hB : B ≤ wr.heap.size) : Below B wr w' :=
  ⟨hs.os, hs.tape, hs.output, hs.size, fun b hb => hs.block b (Nat.lt_of_lt_of_le hb hB) (fun t e => by rw [h b hb] at e; cases e)⟩
/-- A step of the pipes. -/
theorem OrdR.step (h : OrdR w wr own sv sent svs) (hs : Step own wr own' w') (hf : ∀ b, w'.heap.size ≤ b → own' b = .no) : OrdR w w' own' sv sent svs :=
  ⟨h.below.trans (hs.below2 h.old h.below.size), fun b hb => by
      rw [hs.tags b (Nat.lt_of_lt_of_le hb h.below.size) (fun t e => by rw [h.old b hb] at e; cases e)]; exact h.old b hb,
    row_kept2 h.row fun b hb => hs.block b (row_lt h.row hb) (fun t e => by rw [h.rowNo b hb] at e; cases e),
    fun b hb => by rw [hs.tags b (row_lt h.row hb) (fun t e => by rw [h.rowNo b hb] at e; cases e)]; exact h.rowNo b hb, hf, h.reads⟩
/-- New blocks. -/
theorem OrdR.on (h : OrdR w wr own sv sent svs) (hb : Below wr.heap.size wr w') : OrdR w w' own sv sent svs :=
  h.step (Step.of_below hb) fun b hle => h.fresh b (Nat.le_trans hb.size hle)
theorem append_blk {o : Obj} (hg : (wr.alloc o).grownBy w' sv.ownBlock) : ∀ b, b < wr.heap.size → sv.ownBlock ≠ some b → w'.heap[b]? = wr.heap[b]? := fun b hb hn => by
  rw [hg.block b (by simp; omega) (fun e => hn e.symm)]
  exact (MapKept.heap_alloc wr _).2 b hb
theorem Holds.more {Ps : List (PA × PG)} {o : Obj} (hh : Holds own wr g mb Ps) (hg : (wr.alloc o).grownBy w' sv.ownBlock) (hn : ∀ b, sv.ownBlock = some b → own b = .no) : Holds own w' g mb Ps :=
  hh.kept (fun b t ht => ⟨ht, append_blk hg b (own_lt hh.fresh ht) (fun e => by rw [hn b e] at ht; cases ht)⟩) (fun b hb => hh.fresh b (by have := hg.size; simp at this; omega))
/-- One more was sent: the list grows. -/
theorem OrdR.more {l : List UInt8} {xa : Option Addr} {xc g2 cap2 : Nat} {o : Obj} (h : OrdR w wr own sv sent svs) (hr : Reads w (.slice xa l.length xc) l)
    (hown : w'.ownsRow w.heap.size 29 1 (.slice (some ⟨g2, 0, none⟩) (sent.length + 1) cap2) (sent.length + 1) (svs ++ [.slice xa l.length xc])) (hg : (wr.alloc o).grownBy w' sv.ownBlock)
    (hat : sv.ownBlock = some g2 ∨ g2 = wr.heap.size + 1) : OrdR w w' own (.slice (some ⟨g2, 0, none⟩) (sent.length + 1) cap2) (sent ++ [l]) (svs ++ [.slice xa l.length xc]) := by
  have hsz : wr.heap.size + 1 ≤ w'.heap.size := by have := hg.size; simpa using this
  have blk := append_blk hg
  refine ⟨?_, h.old, ?_, ?_, fun b hb => h.fresh b (by omega), ?_⟩
  · refine ⟨hg.os.trans h.below.os, hg.tape.trans h.below.tape, hg.output.trans h.below.output, Nat.le_trans h.below.size (by omega), fun b hb => ?_⟩
    rw [blk b (Nat.lt_of_lt_of_le hb h.below.size) (fun e => by have := (h.row.lt b e).1; omega), h.below.block b hb]
  · rw [List.length_append]; exact hown
  · intro b hb
    cases hb
    rcases hat with h' | h'
    · exact h.rowNo g2 h'
    · exact h.fresh g2 (by omega)
  · intro i x l' hx hl'
    have hlen : svs.length = sent.length := by have := h.row.1; omega
    by_cases hi : i < svs.length
    · rw [List.getElem?_append_left hi] at hx
      rw [List.getElem?_append_left (by omega)] at hl'
      exact h.reads i x l' hx hl'
    · have hi2 : i = svs.length := by
        have := (List.getElem?_eq_some_iff.1 hx).1
        simp at this; omega
      subst hi2
      rw [List.getElem?_append_right (Nat.le_refl _), Nat.sub_self] at hx
      rw [hlen, List.getElem?_append_right (Nat.le_refl _), Nat.sub_self] at hl'
      cases hx; cases hl'
      exact ⟨xa, xc, rfl, hr⟩
theorem set_a (p : PA × PG) : (two most q q2 G G2).set 0 p = [p, (⟨BB, AA, 64, q2⟩, G2)] := rfl
end
/-- A send of which nobody asks what came of it. -/
def SentAny (own : Nat → Tag) (w : World) (g mb : Nat) (most : Nat) (q : List (List UInt8)) (G : PG) (e : Ending) (w' : World) : Prop :=
  ∃ (n : Int) (own' : Nat → Tag) (q2' : List (List UInt8)) (G2' : PG), e = .returned (.int .i64 n) ∧ Holds own' w' g mb (two most q q2' G G2') ∧ Step own w own' w'
theorem cSendOther {own : Nat → Tag} {w : World} {g mb most : Nat} {q q2 : List (List UInt8)} {G G2 : PG} (h : Holds own w g mb (two most q q2 G G2)) {v : Value} {l : List UInt8} (hr : Reads w v l) (hl : l.length ≤ 65536) :
    Calls Try.prog 11 #[.pointer (some ⟨g, 0, none⟩), .string BB, .string AA, v] w (SentAny own w g mb most q G) := by
  have hp : (two most q q2 G G2)[1]? = some (⟨BB, AA, 64, q2⟩, G2) := rfl
  have hf := (h.pipes 1 _ hp).fits
  by_cases hroom : q2.length < 64
  · refine (cSendOk h hp hr hl hroom).mono ?_
    rintro e w1 ⟨rfl, own', G', h1, s1⟩
    exact ⟨0, own', _, G', rfl, h1, s1⟩
  · refine (cSendFull h hp hr hl (by simp at hf ⊢; omega)).mono ?_
    rintro e w1 ⟨rfl, b1⟩
    exact ⟨51, own, q2, G2, rfl, h.on b1, Step.of_below b1⟩
end Go.Proofs.Ytfmphhcdbocgnaa.Pipe
