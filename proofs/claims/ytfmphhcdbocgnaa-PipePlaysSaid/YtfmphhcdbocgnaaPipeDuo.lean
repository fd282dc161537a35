/-
  Both sides at once: the program's pipes and the given answers' pipes, as lists.
-/
import Derived.Test.YtfmphhcdbocgnaaPipeBoth2
namespace Go.Proofs.Ytfmphhcdbocgnaa.Pipe
open Go.RowKit Base
open Go.Proofs (encStr)
structure Duo (w0 w : World) (own : Nat → Tag) (g mb gr : Nat) (LP LR : List PA) (Ps : List (PA × PG)) (rv : Value) (Rs : List (PA × RG)) : Prop where
  p : Holds own w g mb Ps
  pe : Ps.map Prod.fst = LP
  r : RHolds own w gr rv Rs
  re : Rs.map Prod.fst = LR
  below : Below w0.heap.size w0 w
  old : ∀ b, b < w0.heap.size → own b = .no
/-- All that is nobody's stands, and is nobody's still. -/
structure Away (own : Nat → Tag) (w : World) (own' : Nat → Tag) (w' : World) : Prop where
  size : w.heap.size ≤ w'.heap.size
  no : ∀ b, b < w.heap.size → own b = .no → own' b = .no
  block : ∀ b, b < w.heap.size → own b = .no → w'.heap[b]? = w.heap[b]?
theorem Away.refl (own : Nat → Tag) (w : World) : Away own w own w := ⟨Nat.le_refl _, fun _ _ h => h, fun _ _ _ => rfl⟩
theorem Away.trans {o1 o2 o3 : Nat → Tag} {w1 w2 w3 : World} (h : Away o1 w1 o2 w2) (k : Away o2 w2 o3 w3) : Away o1 w1 o3 w3 :=
  ⟨Nat.le_trans h.size k.size, fun b hb hn => k.no b (Nat.lt_of_lt_of_le hb h.size) (h.no b hb hn), fun b hb hn => (k.block b (Nat.lt_of_lt_of_le hb h.size) (h.no b hb hn)).trans (h.block b hb hn)⟩
theorem Away.of_below {own : Nat → Tag} {w w' : World} (h : Below w.heap.size w w') : Away own w own w' := ⟨h.size, fun _ _ h => h, fun b hb _ => h.block b hb⟩
theorem Step.away {own own' : Nat → Tag} {w w' : World} (h : Step own w own' w') : Away own w own' w' :=
  ⟨h.size, fun b hb hn => by rw [h.tags b hb (fun t e => by rw [hn] at e; cases e)]; exact hn, fun b hb hn => h.block b hb (fun t e => by rw [hn] at e; cases e)⟩
theorem StepR.away {own own' : Nat → Tag} {w w' : World} (h : StepR own w own' w') : Away own w own' w' :=
  ⟨h.size, fun b hb hn => by rw [h.tags b hb (fun t e => by rw [hn] at e; cases e)]; exact hn, fun b hb hn => h.block b hb (fun t e => by rw [hn] at e; cases e)⟩
section
variable {w0 w w' : World} {own own' : Nat → Tag} {g mb gr : Nat} {LP LR LP' LR' : List PA} {Ps Ps' : List (PA × PG)} {rv rv' : Value} {Rs Rs' : List (PA × RG)} {f t : ByteArray}
theorem Step.belowD (hs : Step own w own' w') (h : ∀ b, b < w0.heap.size → own b = .no) (hB : w0.heap.size ≤ w.heap.size) : Below w0.heap.size w w' :=
  ⟨hs.os, hs.tape, hs.output, hs.size, fun b hb => hs.block b (Nat.lt_of_lt_of_le hb hB) (fun t e => by rw [h b hb] at e; cases e)⟩
theorem StepR.belowD (hs : StepR own w own' w') (h : ∀ b, b < w0.heap.size → own b = .no) (hB : w0.heap.size ≤ w.heap.size) : Below w0.heap.size w w' :=
  ⟨hs.os, hs.tape, hs.output, hs.size, fun b hb => hs.block b (Nat.lt_of_lt_of_le hb hB) (fun t e => by rw [h b hb] at e; cases e)⟩
theorem Duo.stepP (h : Duo w0 w own g mb gr LP LR Ps rv Rs) (hh : Holds own' w' g mb Ps') (he : Ps'.map Prod.fst = LP') (hs : Step own w own' w') : Duo w0 w' own' g mb gr LP' LR Ps' rv Rs :=
  ⟨hh, he, h.r.stepP hs hh.fresh, h.re, h.below.trans (hs.belowD h.old h.below.size), fun b hb => by
    rw [hs.tags b (Nat.lt_of_lt_of_le hb h.below.size) (fun t e => by rw [h.old b hb] at e; cases e)]; exact h.old b hb⟩
theorem Duo.stepR (h : Duo w0 w own g mb gr LP LR Ps rv Rs) (hh : RHolds own' w' gr rv' Rs') (he : Rs'.map Prod.fst = LR') (hs : StepR own w own' w') : Duo w0 w' own' g mb gr LP LR' Ps rv' Rs' :=
  ⟨h.p.stepR hs hh.fresh, h.pe, hh, he, h.below.trans (hs.belowD h.old h.below.size), fun b hb => by
    rw [hs.tags b (Nat.lt_of_lt_of_le hb h.below.size) (fun t e => by rw [h.old b hb] at e; cases e)]; exact h.old b hb⟩
theorem Duo.on (h : Duo w0 w own g mb gr LP LR Ps rv Rs) (hb : Below w.heap.size w w') : Duo w0 w' own g mb gr LP LR Ps rv Rs :=
  ⟨h.p.on hb, h.pe, h.r.on hb, h.re, h.below.trans (hb.mono h.below.size), h.old⟩
/-- A block that is nobody's is written over. -/
theorem Duo.spoil (h : Duo w0 w own g mb gr LP LR Ps rv Rs) {b : Nat} (hk : KeepX b w w') (hz : w'.heap.size = w.heap.size) (hb : own b = .no) (hge : w0.heap.size ≤ b) : Duo w0 w' own g mb gr LP LR Ps rv Rs :=
  ⟨h.p.kept (fun c t hc => ⟨hc, hk.block c (own_lt h.p.fresh hc) (fun e => by rw [e, hb] at hc; cases hc)⟩) (fun c hc => h.p.fresh c (by omega)), h.pe,
   h.r.kept (fun c t hc => ⟨hc, hk.block c (own_ltR h.p.fresh hc) (fun e => by rw [e, hb] at hc; cases hc)⟩) (fun c hc => h.p.fresh c (by omega)), h.re,
   ⟨hk.os.trans h.below.os, hk.tape.trans h.below.tape, hk.output.trans h.below.output, by rw [hz]; exact h.below.size, fun c hc => (hk.block c (Nat.lt_of_lt_of_le hc h.below.size) (by omega)).trans (h.below.block c hc)⟩, h.old⟩
theorem Duo.keysP (h : Duo w0 w own g mb gr LP LR Ps rv Rs) : KeysApart LP := by rw [← h.pe]; exact h.p.apart
theorem Duo.fineP (h : Duo w0 w own g mb gr LP LR Ps rv Rs) : Fine LP := by rw [← h.pe]; exact h.p.fine
theorem Duo.lenP (h : Duo w0 w own g mb gr LP LR Ps rv Rs) : Ps.length = LP.length := by rw [← h.pe, List.length_map]
theorem Duo.lenR (h : Duo w0 w own g mb gr LP LR Ps rv Rs) : Rs.length = LR.length := by rw [← h.re, List.length_map]
/-- An answer that changed the program's side. -/
def PE (own : Nat → Tag) (w w0 : World) (g mb gr : Nat) (LR : List PA) (rv : Value) (Rs : List (PA × RG)) (E : Ending) (LP' : List PA) (e : Ending) (w' : World) : Prop :=
  ∃ own' Ps', e = E ∧ Duo w0 w' own' g mb gr LP' LR Ps' rv Rs ∧ Away own w own' w'
def RE (own : Nat → Tag) (w w0 : World) (g mb gr : Nat) (LP : List PA) (Ps : List (PA × PG)) (E : Ending) (LR' : List PA) (e : Ending) (w' : World) : Prop :=
  ∃ own' rv' Rs', e = E ∧ Duo w0 w' own' g mb gr LP LR' Ps rv' Rs' ∧ Away own w own' w'
theorem duoOpenP (h : Duo w0 w own g mb gr LP LR Ps rv Rs) (hn : LP.length ≤ 1000000) (most : Int) (hf : f.size ≤ maxLen) (ht : t.size ≤ maxLen) :
    Calls Try.prog 10 #[.pointer (some ⟨g, 0, none⟩), .string f, .string t, .int .i64 most] w (PE own w w0 g mb gr LR rv Rs (.returned (.int .i64 (openCode LP f t most))) (openL LP f t most)) :=
  (pOpen h.p (by rw [h.lenP]; exact hn) f t most hf ht).mono fun e w' ⟨own', Ps', he, hh, hl, hs⟩ => ⟨own', Ps', by rw [← h.pe]; exact he, h.stepP hh (by rw [hl, h.pe]) hs, hs.away⟩
theorem duoOpenR (h : Duo w0 w own g mb gr LP LR Ps rv Rs) (hk : KeysApart LR) (hn : LR.length ≤ 1000000) (most : Int) (hf : f.size ≤ maxLen) (ht : t.size ≤ maxLen) :
    Calls Try.prog 15 #[.pointer (some ⟨gr, 0, none⟩), .string f, .string t, .int .i64 most] w (RE own w w0 g mb gr LP Ps (.returned (.int .i64 (openCode LR f t most))) (openL LR f t most)) :=
  (rOpen h.r (by rw [h.re]; exact hk) (by rw [h.lenR]; exact hn) f t most hf ht).mono fun e w' ⟨own', rv', Rs', he, hh, hl, hs⟩ => ⟨own', rv', Rs', by rw [← h.re]; exact he, h.stepR hh (by rw [hl, h.re]) hs, hs.away⟩
theorem duoSendP (h : Duo w0 w own g mb gr LP LR Ps rv Rs) {v : Value} {l : List UInt8} (hf : f.size ≤ maxLen) (ht : t.size ≤ maxLen) (hr : Reads w v l) :
    Calls Try.prog 11 #[.pointer (some ⟨g, 0, none⟩), .string f, .string t, v] w (fun e w' => ∃ own' Ps', e = .returned (.int .i64 (sendCode LP f t l.length)) ∧ Duo w0 w' own' g mb gr (sendL LP f t l) LR Ps' rv Rs ∧ Away own w own' w') :=
  (pSend h.p hf ht hr).mono fun e w' ⟨own', Ps', he, hh, hl, hs⟩ => ⟨own', Ps', by rw [← h.pe]; exact he, h.stepP hh (by rw [hl, h.pe]) hs, hs.away⟩
theorem duoSendR (h : Duo w0 w own g mb gr LP LR Ps rv Rs) (hk : KeysApart LR) (hF : Fine LR) (hn : LR.length ≤ 1000000) {v : Value} {l : List UInt8} (hr : Reads w v l) :
    Calls Try.prog 16 #[.pointer (some ⟨gr, 0, none⟩), .string f, .string t, v] w (fun e w' => ∃ own' rv' Rs', e = .returned (.int .i64 (sendCode LR f t l.length)) ∧ Duo w0 w' own' g mb gr LP (sendL LR f t l) Ps rv' Rs' ∧ Away own w own' w') :=
  (qSend h.r (by rw [h.re]; exact hk) (by rw [h.lenR]; exact hn) (by rw [h.re]; exact hF) hr).mono fun e w' ⟨own', rv', Rs', he, hh, hl, hs⟩ => ⟨own', rv', Rs', by rw [← h.re]; exact he, h.stepR hh (by rw [hl, h.re]) hs, hs.away⟩
theorem duoTakeP (h : Duo w0 w own g mb gr LP LR Ps rv Rs) (hf : f.size ≤ maxLen) (ht : t.size ≤ maxLen) :
    Calls Try.prog 12 #[.pointer (some ⟨g, 0, none⟩), .string f, .string t] w (fun e w' => ∃ v own' Ps', e = .returned (.tuple #[v, .int .i64 (takeCode LP f t)]) ∧ Duo w0 w' own' g mb gr (takeL LP f t) LR Ps' rv Rs ∧ Owns w' 0 v (takeB LP f t) ∧ (∀ x, v.ownBlock = some x → own' x = .no ∧ w0.heap.size ≤ x) ∧ Away own w own' w') :=
  (pTake h.p hf ht).mono fun e w' ⟨v, own', Ps', he, hh, hl, hs, ho, hx⟩ => ⟨v, own', Ps', by rw [← h.pe]; exact he, h.stepP hh (by rw [hl, h.pe]) hs, by rw [← h.pe]; exact ho, fun x hv => ⟨(hx x hv).1, by
    obtain ⟨_, tg, htg⟩ := hx x hv
    rcases Nat.lt_or_ge x w0.heap.size with hlt | hge
    · rw [h.old x hlt] at htg; cases htg
    · exact hge⟩, hs.away⟩
theorem duoTakeR (h : Duo w0 w own g mb gr LP LR Ps rv Rs) (hk : KeysApart LR) (hF : Fine LR) (hn : LR.length ≤ 1000000) :
    Calls Try.prog 17 #[.pointer (some ⟨gr, 0, none⟩), .string f, .string t] w (fun e w' => ∃ v own' rv' Rs', e = .returned (.tuple #[v, .int .i64 (takeCode LR f t)]) ∧ Duo w0 w' own' g mb gr LP (takeL LR f t) Ps rv' Rs' ∧ Owns w' 0 v (takeB LR f t) ∧ Away own w own' w') :=
  (qTake h.r (by rw [h.re]; exact hk) (by rw [h.lenR]; exact hn) (by rw [h.re]; exact hF)).mono fun e w' ⟨v, own', rv', Rs', he, hh, hl, hs, ho, hx⟩ => ⟨v, own', rv', Rs', by rw [← h.re]; exact he, h.stepR hh (by rw [hl, h.re]) hs, by rw [← h.re]; exact ho, hs.away⟩
theorem duoClearP (h : Duo w0 w own g mb gr LP LR Ps rv Rs) (hn : LP.length ≤ 1000000) (s : ByteArray) :
    Calls Try.prog 18 #[.pointer (some ⟨g, 0, none⟩), .string s] w (PE own w w0 g mb gr LR rv Rs (.returned (.int .i64 (clearN s LP : Int))) (LP.map (clrA s))) :=
  (cClear h.p (by rw [h.lenP]; exact hn) s).mono fun e w' ⟨own', Ps', he, hh, hl, hs⟩ => ⟨own', Ps', by rw [← h.pe]; exact he, h.stepP hh (by rw [hl, h.pe]) hs, hs.away⟩
theorem duoClearR (h : Duo w0 w own g mb gr LP LR Ps rv Rs) (hF : Fine LR) (hn : LR.length ≤ 1000000) (s : ByteArray) :
    Calls Try.prog 19 #[.pointer (some ⟨gr, 0, none⟩), .string s] w (RE own w w0 g mb gr LP Ps (.returned (.int .i64 (clearN s LR : Int))) (LR.map (clrA s))) :=
  (rClear h.r (by rw [h.lenR]; exact hn) (fun p hp => by
    have := hF p.1 (by rw [← h.re]; exact List.mem_map.2 ⟨p, hp, rfl⟩)
    omega) s).mono fun e w' ⟨own', rv', Rs', he, hh, hl, hs⟩ => ⟨own', rv', Rs', by rw [← h.re]; exact he, h.stepR hh (by rw [hl, h.re]) hs, hs.away⟩
theorem duoWaitP (h : Duo w0 w own g mb gr LP LR Ps rv Rs) (hn : LP.length ≤ 1000000) : Calls Try.prog 20 #[.pointer (some ⟨g, 0, none⟩)] w (WaitEnd (waitA LP) w) := by
  have := cWaiting h.p (by rw [h.lenP]; exact hn)
  rw [waitL_eq, h.pe] at this
  exact this
theorem duoWaitR (h : Duo w0 w own g mb gr LP LR Ps rv Rs) (hn : LR.length ≤ 1000000) : Calls Try.prog 21 #[.pointer (some ⟨gr, 0, none⟩)] w (WaitEnd (waitA LR) w) := by
  have := rWaiting h.r (by rw [h.lenR]; exact hn)
  rw [h.re] at this
  exact this
theorem duoLenP (h : Duo w0 w own g mb gr LP LR Ps rv Rs) (hf : f.size ≤ maxLen) (ht : t.size ≤ maxLen) : Calls Try.prog 13 #[.pointer (some ⟨g, 0, none⟩), .string f, .string t] w (AnsEnd (lenA LP f t) w) := by
  have := pLen h.p hf ht
  rw [h.pe] at this
  exact this
theorem duoRoomP (h : Duo w0 w own g mb gr LP LR Ps rv Rs) (hf : f.size ≤ maxLen) (ht : t.size ≤ maxLen) : Calls Try.prog 14 #[.pointer (some ⟨g, 0, none⟩), .string f, .string t] w (AnsEnd (roomA LP f t) w) := by
  have := pRoom h.p hf ht
  rw [h.pe] at this
  exact this
theorem duoLenR (h : Duo w0 w own g mb gr LP LR Ps rv Rs) (hk : KeysApart LR) (hn : LR.length ≤ 1000000) (f t : ByteArray) : Calls Try.prog 22 #[.pointer (some ⟨gr, 0, none⟩), .string f, .string t] w (AnsEnd (lenA LR f t) w) := by
  have := qLen (f := f) (t := t) h.r (by rw [h.re]; exact hk) (by rw [h.lenR]; exact hn)
  rw [h.re] at this
  exact this
theorem duoRoomR (h : Duo w0 w own g mb gr LP LR Ps rv Rs) (hk : KeysApart LR) (hF : Fine LR) (hn : LR.length ≤ 1000000) (f t : ByteArray) : Calls Try.prog 23 #[.pointer (some ⟨gr, 0, none⟩), .string f, .string t] w (AnsEnd (roomA LR f t) w) := by
  have := qRoom (f := f) (t := t) h.r (by rw [h.re]; exact hk) (by rw [h.lenR]; exact hn) (by rw [h.re]; exact hF)
  rw [h.re] at this
  exact this
end
end Go.Proofs.Ytfmphhcdbocgnaa.Pipe
