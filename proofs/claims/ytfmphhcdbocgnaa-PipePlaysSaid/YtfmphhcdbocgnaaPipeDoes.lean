/-
  One deed, on both sides.
-/
import Derived.Test.YtfmphhcdbocgnaaPipeDuo
namespace Go.Proofs.Ytfmphhcdbocgnaa.Pipe
open Go.RowKit Base
attribute [local go_sem ↓] Go.wp_at_zero Go.wp_at_succ
section
variable {w0 w w' : World} {own own' : Nat → Tag} {g mb gr : Nat} {L : List PA} {Ps : List (PA × PG)} {rv : Value} {Rs : List (PA × RG)} {f t : ByteArray}
def stepL (L : List PA) (k : Int) (f t : ByteArray) (most : Int) (l : List UInt8) : List PA :=
  if k = 0 then openL L f t most else if k = 1 then sendL L f t l else if k = 2 then takeL L f t else if k = 3 then L.map (clrA f) else L
def DoesEnd (w0 : World) (g mb gr : Nat) (L : List PA) (e : Ending) (w' : World) : Prop :=
  ∃ own' Ps' rv' Rs', e = .returned (.bool true) ∧ Duo w0 w' own' g mb gr L L Ps' rv' Rs'
/-- The copy that is made at first. -/
theorem copy_own (w : World) (cs : Array Value) : Owns ((w.alloc (.cells cs 31)).alloc (.cells #[] 5)) (w.heap.size + 1) (.slice (some ⟨w.heap.size + 1, 0, none⟩) 0 0) [] := by
  have hsz : (w.alloc (.cells cs 31)).heap.size = w.heap.size + 1 := by simp
  rw [← hsz]; exact owns_new _
theorem copy_reads {w : World} (cs : Array Value) {v : Value} {l : List UInt8} (hr : Reads w v l) : Reads ((w.alloc (.cells cs 31)).alloc (.cells #[] 5)) v l := (hr.on (Below.alloc1 _ _)).on (Below.alloc1 _ _)
theorem copied {w w1 : World} {cs : Array Value} (hb : Below (w.heap.size + 1) ((w.alloc (.cells cs 31)).alloc (.cells #[] 5)) w1) : Below w.heap.size w w1 ∧ w1.heap[w.heap.size]? = some (.cells cs 31 (0, 0)) ∧ w.heap.size < w1.heap.size := by
  have hsz : (w.alloc (.cells cs 31)).heap.size = w.heap.size + 1 := by simp
  have h1 : Below (w.heap.size + 1) (w.alloc (.cells cs 31)) w1 := by rw [← hsz]; exact (Below.alloc1 _ _).trans (by rw [hsz]; exact hb)
  refine ⟨(Below.alloc1 _ _).trans (h1.mono (by simp)), (h1.block w.heap.size (by omega)).trans (MapKept.heap_alloc w _).1, ?_⟩
  have := h1.size
  rw [hsz] at this
  omega
theorem box5 {w : World} {b : Nat} {v0 v1 v2 v3 v4 : Value} {ty : TypeId} (h : w.heap[b]? = some (.cells #[v0, v1, v2, v3, v4] ty (0, 0))) :
    w.cell? ⟨b, 0, none⟩ = some v0 ∧ w.cell? ⟨b, 1, none⟩ = some v1 ∧ w.cell? ⟨b, 2, none⟩ = some v2 ∧ w.cell? ⟨b, 3, none⟩ = some v3 ∧ w.cell? ⟨b, 4, none⟩ = some v4 :=
  ⟨cell_of_row w b 0 _ _ _ h, cell_of_row w b 1 _ _ _ h, cell_of_row w b 2 _ _ _ h, cell_of_row w b 3 _ _ _ h, cell_of_row w b 4 _ _ _ h⟩
/-- A block of nobody's that is written over, cell by cell. -/
structure Spoilt (b n : Nat) (ty : TypeId) (w wr : World) : Prop where
  keep : KeepX b w wr
  size : wr.heap.size = w.heap.size
  cells : ∃ cur, wr.heap[b]? = some (.cells cur ty (0, 0)) ∧ n ≤ cur.size
theorem Spoilt.cell {b n k : Nat} {ty : TypeId} {w wr : World} (h : Spoilt b n ty w wr) (hk : k < n) : ∃ v, wr.cell? ⟨b, k, none⟩ = some v ∧ wr.frozen? ⟨b, k, none⟩ = false := by
  obtain ⟨cur, h1, h2⟩ := h.cells
  exact ⟨cur[k]'(by omega), cell_of_row wr b k _ _ _ h1 |>.trans (Array.getElem?_eq_getElem (by omega)), by simp [World.frozen?, h1]⟩
theorem Spoilt.set {b n k : Nat} {ty : TypeId} {w wr : World} (h : Spoilt b n ty w wr) (u : Value) : Spoilt b n ty w (wr.setCell ⟨b, k, none⟩ u) := by
  obtain ⟨cur, h1, h2⟩ := h.cells
  exact ⟨h.keep.trans (KeepX.set b wr k u), (by simp [World.setCell, h.size]), cur.setIfInBounds k u, heap_setCell_any wr b k cur ty _ u h1, by simpa using h2⟩
def SpR (own : Nat → Tag) (B : Nat) (A : Option Addr) (n : Nat) (ty : TypeId) (w wr : World) : Prop :=
  (n = 0 ∧ wr = w) ∨ ∃ b, A = some ⟨b, 0, none⟩ ∧ Spoilt b n ty w wr ∧ own b = .no ∧ B ≤ b
theorem sp_start {w1 w3 : World} {own own' : Nat → Tag} {B n : Nat} {ty : TypeId} {A : Option Addr} {c : Nat} {xs : List Value} (ho : w1.ownsRow B ty 1 (.slice A n c) n xs) (hno : ∀ b, A = some ⟨b, 0, none⟩ → own b = .no) (ha : Away own w1 own' w3) : SpR own' B A n ty w3 w3 := by
  rcases ho.2 with ⟨_, hn⟩ | ⟨g, cap, cur, he, hB, hh, hc, _, hs, _⟩
  · exact Or.inl ⟨hn, rfl⟩
  · cases he
    have hlt : g < w1.heap.size := by
      rcases Nat.lt_or_ge g w1.heap.size with h | h
      · exact h
      · rw [Array.getElem?_eq_none h] at hh; cases hh
    exact Or.inr ⟨g, rfl, ⟨KeepX.refl _ _, rfl, cur, (ha.block g hlt (hno g rfl)).trans hh, by omega⟩, ha.no g hlt (hno g rfl), hB⟩
theorem SpR.duo {A : Option Addr} {n B : Nat} {ty : TypeId} {LP LR : List PA} (h : Duo w0 w own g mb gr LP LR Ps rv Rs) (hs : SpR own B A n ty w w') (hB : w0.heap.size ≤ B) : Duo w0 w' own g mb gr LP LR Ps rv Rs := by
  rcases hs with ⟨_, rfl⟩ | ⟨b, _, h1, h2, h3⟩
  · exact h
  · exact h.spoil h1.keep h1.size h2 (Nat.le_trans hB h3)
set_option maxHeartbeats 4000000 in
set_option maxRecDepth 100000 in
theorem does0 (h : Duo w0 w own g mb gr L L Ps rv Rs) (hn : L.length ≤ 1000000) {most : Int} {va : Option Addr} {vc : Nat} {l : List UInt8} (hf : f.size ≤ maxLen) (ht : t.size ≤ maxLen) (hl : l.length ≤ 200000000000000) (hr : Reads w0 (.slice va l.length vc) l) :
    Calls Try.prog 8 #[.pointer (some ⟨g, 0, none⟩), .pointer (some ⟨gr, 0, none⟩), .agg #[.int .i64 0, .string f, .string t, .int .i64 most, .slice va l.length vc]] w (DoesEnd w0 g mb gr (openL L f t most)) := by
  have HO := Lib.hid (copy_own w #[.int .i64 0, .string f, .string t, .int .i64 most, .slice va l.length vc])
  have HRD := Lib.hid (copy_reads #[.int .i64 0, .string f, .string t, .int .i64 most, .slice va l.length vc] (hr.on h.below))
  have HL := Lib.hid hn
  have H := Lib.hid h
  have HHL := Lib.hid hl
  clear h hn hr hl
  go_enter Try.func8, Try.ntmps8
  go_wp2_with (at_builtin; go_must (refine wp_append_reads _ rfl _ _ rfl (w.heap.size + 1) (.slice (some ⟨w.heap.size + 1, 0, none⟩) 0 0) (.slice va l.length vc) [] l rfl rfl HO.out HRD.out (by simpa using HHL.out) (by simp) ?_); intro v' w1 ho hb; refine Hid.out ?_)
  refine Lib.hid ?_
  obtain ⟨A, c, rfl⟩ := ho.reads.form
  obtain ⟨hw1, hbox, hblt⟩ := copied hb
  have H1 := Lib.hid (H.out.on hw1)
  have hbn := Lib.hid (H.out.p.fresh w.heap.size (Nat.le_refl _))
  obtain ⟨e0, e1, e2, e3, e4⟩ := box5 hbox
  have HB := Lib.hid hbox
  have HLT := Lib.hid hblt
  clear hbox hblt hw1 hb ho
  go_wp2_with (go_at_call 10; refine (duoOpenP H1.out HL.out most hf ht).mono ?_; rintro e w2 ⟨own2, Ps2, rfl, h2, a2⟩; refine Hid.out ?_)
  refine Lib.hid ?_
  obtain ⟨f0, f1, f2, f3, f4⟩ := box5 ((a2.block _ HLT.out hbn.out).trans HB.out)
  have H2 := Lib.hid h2
  have A2 := Lib.hid a2
  clear h2 a2 e0 e1 e2 e3 e4
  go_wp2_with (go_at_call 15; refine (duoOpenR H2.out H.out.keysP HL.out most hf ht).mono ?_; rintro e w3 ⟨own3, rv3, Rs3, rfl, h3, a3⟩; refine Hid.out ?_)
  refine Lib.hid ?_
  have H3 := Lib.hid h3
  clear h3 a3
  go_wp2
  go_ret
  exact ⟨own3, Ps2, rv3, Rs3, rfl, H3.out⟩
set_option maxHeartbeats 4000000 in
set_option maxRecDepth 100000 in
theorem does3 (h : Duo w0 w own g mb gr L L Ps rv Rs) (hn : L.length ≤ 1000000) {most : Int} {va : Option Addr} {vc : Nat} {l : List UInt8} (hl : l.length ≤ 200000000000000) (hr : Reads w0 (.slice va l.length vc) l) :
    Calls Try.prog 8 #[.pointer (some ⟨g, 0, none⟩), .pointer (some ⟨gr, 0, none⟩), .agg #[.int .i64 3, .string f, .string t, .int .i64 most, .slice va l.length vc]] w (DoesEnd w0 g mb gr (L.map (clrA f))) := by
  have HO := Lib.hid (copy_own w #[.int .i64 3, .string f, .string t, .int .i64 most, .slice va l.length vc])
  have HRD := Lib.hid (copy_reads #[.int .i64 3, .string f, .string t, .int .i64 most, .slice va l.length vc] (hr.on h.below))
  have HL := Lib.hid hn
  have H := Lib.hid h
  have HHL := Lib.hid hl
  clear h hn hr hl
  go_enter Try.func8, Try.ntmps8
  go_wp2_with (at_builtin; go_must (refine wp_append_reads _ rfl _ _ rfl (w.heap.size + 1) (.slice (some ⟨w.heap.size + 1, 0, none⟩) 0 0) (.slice va l.length vc) [] l rfl rfl HO.out HRD.out (by simpa using HHL.out) (by simp) ?_); intro v' w1 ho hb; refine Hid.out ?_)
  refine Lib.hid ?_
  obtain ⟨A, c, rfl⟩ := ho.reads.form
  obtain ⟨hw1, hbox, hblt⟩ := copied hb
  have H1 := Lib.hid (H.out.on hw1)
  have hbn := Lib.hid (H.out.p.fresh w.heap.size (Nat.le_refl _))
  obtain ⟨e0, e1, e2, e3, e4⟩ := box5 hbox
  have HB := Lib.hid hbox
  have HLT := Lib.hid hblt
  clear hbox hblt hw1 hb ho
  go_wp2_with (go_at_call 18; refine (duoClearP H1.out HL.out f).mono ?_; rintro e w2 ⟨own2, Ps2, rfl, h2, a2⟩; refine Hid.out ?_)
  refine Lib.hid ?_
  obtain ⟨f0, f1, f2, f3, f4⟩ := box5 ((a2.block _ HLT.out hbn.out).trans HB.out)
  have H2 := Lib.hid h2
  have A2 := Lib.hid a2
  clear h2 a2 e0 e1 e2 e3 e4
  go_wp2_with (go_at_call 19; refine (duoClearR H2.out H.out.fineP HL.out f).mono ?_; rintro e w3 ⟨own3, rv3, Rs3, rfl, h3, a3⟩; refine Hid.out ?_)
  refine Lib.hid ?_
  have H3 := Lib.hid h3
  clear h3 a3
  go_wp2
  go_ret
  exact ⟨own3, Ps2, rv3, Rs3, rfl, H3.out⟩
set_option maxHeartbeats 4000000 in
set_option maxRecDepth 100000 in
theorem doesE (h : Duo w0 w own g mb gr L L Ps rv Rs) (hn : L.length ≤ 1000000) {k most : Int} (k0 : (k == 0) = false) (k1 : (k == 1) = false) (k2 : (k == 2) = false) (k3 : (k == 3) = false) {va : Option Addr} {vc : Nat} {l : List UInt8} (hl : l.length ≤ 200000000000000) (hr : Reads w0 (.slice va l.length vc) l) :
    Calls Try.prog 8 #[.pointer (some ⟨g, 0, none⟩), .pointer (some ⟨gr, 0, none⟩), .agg #[.int .i64 k, .string f, .string t, .int .i64 most, .slice va l.length vc]] w (DoesEnd w0 g mb gr L) := by
  have HO := Lib.hid (copy_own w #[.int .i64 k, .string f, .string t, .int .i64 most, .slice va l.length vc])
  have HRD := Lib.hid (copy_reads #[.int .i64 k, .string f, .string t, .int .i64 most, .slice va l.length vc] (hr.on h.below))
  have HL := Lib.hid hn
  have H := Lib.hid h
  have HHL := Lib.hid hl
  clear h hn hr hl
  go_enter Try.func8, Try.ntmps8
  go_wp2_with (at_builtin; go_must (refine wp_append_reads _ rfl _ _ rfl (w.heap.size + 1) (.slice (some ⟨w.heap.size + 1, 0, none⟩) 0 0) (.slice va l.length vc) [] l rfl rfl HO.out HRD.out (by simpa using HHL.out) (by simp) ?_); intro v' w1 ho hb; refine Hid.out ?_)
  refine Lib.hid ?_
  obtain ⟨A, c, rfl⟩ := ho.reads.form
  obtain ⟨hw1, hbox, hblt⟩ := copied hb
  have H1 := Lib.hid (H.out.on hw1)
  have hbn := Lib.hid (H.out.p.fresh w.heap.size (Nat.le_refl _))
  obtain ⟨e0, e1, e2, e3, e4⟩ := box5 hbox
  have HB := Lib.hid hbox
  have HLT := Lib.hid hblt
  clear hbox hblt hw1 hb ho
  go_wp2
  go_ret
  exact ⟨own, Ps, rv, Rs, rfl, H1.out⟩
set_option maxHeartbeats 4000000 in
set_option maxRecDepth 100000 in
theorem does1 (h : Duo w0 w own g mb gr L L Ps rv Rs) (hn : L.length ≤ 1000000) {most : Int} {va : Option Addr} {vc : Nat} {l : List UInt8} (hf : f.size ≤ maxLen) (ht : t.size ≤ maxLen) (hl : l.length ≤ 200000000000000) (hr : Reads w0 (.slice va l.length vc) l) :
    Calls Try.prog 8 #[.pointer (some ⟨g, 0, none⟩), .pointer (some ⟨gr, 0, none⟩), .agg #[.int .i64 1, .string f, .string t, .int .i64 most, .slice va l.length vc]] w (DoesEnd w0 g mb gr (sendL L f t l)) := by
  have HO := Lib.hid (copy_own w #[.int .i64 1, .string f, .string t, .int .i64 most, .slice va l.length vc])
  have HRD := Lib.hid (copy_reads #[.int .i64 1, .string f, .string t, .int .i64 most, .slice va l.length vc] (hr.on h.below))
  have HL := Lib.hid hn
  have H := Lib.hid h
  have HHL := Lib.hid hl
  clear hn hl
  go_enter Try.func8, Try.ntmps8
  go_wp2_with (at_builtin; go_must (refine wp_append_reads _ rfl _ _ rfl (w.heap.size + 1) (.slice (some ⟨w.heap.size + 1, 0, none⟩) 0 0) (.slice va l.length vc) [] l rfl rfl HO.out HRD.out (by simpa using HHL.out) (by simp) ?_); intro v' w1 ho hb; refine Hid.out ?_)
  refine Lib.hid ?_
  obtain ⟨A, c, rfl⟩ := ho.reads.form
  obtain ⟨hw1, hbox, hblt⟩ := copied hb
  have H1 := Lib.hid (H.out.on hw1)
  have hbn := Lib.hid (H.out.p.fresh w.heap.size (Nat.le_refl _))
  obtain ⟨e0, e1, e2, e3, e4⟩ := box5 hbox
  have HB := Lib.hid hbox
  have HLT := Lib.hid hblt
  have HRW := Lib.hid (show Reads w1 (.slice A l.length c) l from ho.reads)
  have HOW := Lib.hid (show w1.ownsRow (w.heap.size + 1) 5 1 (.slice A l.length c) l.length _ from ho)
  have HRD2 := Lib.hid hr
  clear hbox hblt hw1 hb ho h hr
  have HNO : Hid (∀ b, A = some ⟨b, 0, none⟩ → own b = .no) := fun b hb => H.out.p.fresh b (by
    subst hb
    have := (World.ownsRow.lt HOW.out b rfl).1
    omega)
  have hl63 : (l.length : Int) ≤ 200000000000000 := by have := HHL.out; omega
  go_wp2_with (go_at_call 11; refine (duoSendP H1.out hf ht HRW.out).mono ?_; rintro e w2 ⟨own2, Ps2, rfl, h2, a2⟩; refine Hid.out ?_)
  refine Lib.hid ?_
  obtain ⟨f0, f1, f2, f3, f4⟩ := box5 ((a2.block _ HLT.out hbn.out).trans HB.out)
  have HX2 := Lib.hid (HRD2.out.on h2.below)
  have H2 := Lib.hid h2
  have A2 := Lib.hid a2
  clear h2 a2 e0 e1 e2 e3 e4
  go_wp2_with (go_at_call 16; refine (duoSendR H2.out H.out.keysP H.out.fineP HL.out HX2.out).mono ?_; rintro e w3 ⟨own3, rv3, Rs3, rfl, h3, a3⟩; refine Hid.out ?_)
  refine Lib.hid ?_
  have HSP := Lib.hid (sp_start HOW.out HNO.out (A2.out.trans a3))
  have H3 := Lib.hid h3
  clear h3 a3 f0 f1 f2 f3 f4
  obtain ⟨R, hR⟩ : ∃ R : Value → World → Prop, R = fun i wr => ∃ k : Nat, k ≤ l.length ∧ i = .int .i64 k ∧ SpR own3 (w.heap.size + 1) A l.length 5 w3 wr := ⟨_, rfl⟩
  have HR := Lib.hid hR
  clear hR
  go_wp2
  go_loopw [11] (fun i wr => R i wr) (fun i _ => l.length - (intOf i).toNat)
  case atStart => rw [HR.out]; exact ⟨0, Nat.zero_le _, rfl, HSP.out⟩
  case round =>
    rw [HR.out] at hrel
    obtain ⟨k, hk, rfl, hs⟩ := hrel
    by_cases hlt : k < l.length
    · rcases hs with ⟨h0, _⟩ | ⟨b, rfl, hs, hb1, hb2⟩
      · omega
      obtain ⟨v, hc, hz⟩ := hs.cell hlt
      have HS := Lib.hid (hs.set (k := k) (.int .u8 77))
      have i1 : (k : Int) < (l.length : Int) := by omega
      have i0 : (0 : Int) ≤ (k : Int) := by omega
      clear hs
      go_wp2
      go_roundw
      case rel => rw [HR.out]; exact ⟨k + 1, by omega, by go_num, Or.inr ⟨b, rfl, HS.out, hb1, hb2⟩⟩
      case measure => simp [intOf]; omega
    · have i1 : ¬ (k : Int) < (l.length : Int) := by omega
      have HD := Lib.hid (SpR.duo H3.out hs (by have := H.out.below.size; omega))
      clear hs
      go_wp2
      go_ret
      exact ⟨own3, Ps2, rv3, Rs3, rfl, HD.out⟩
end
end Go.Proofs.Ytfmphhcdbocgnaa.Pipe
