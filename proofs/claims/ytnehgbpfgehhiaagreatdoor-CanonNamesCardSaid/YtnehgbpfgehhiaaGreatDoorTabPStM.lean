/-
  MERGED by mergefill.py: TabPSt, TabPAdd.
-/
import Derived.Test.YtnehgbpfgehhiaaGreatDoorTabParMM
import Derived.Test.YtnehgbpfgehhiaaGreatDoorMapBase
import Derived.DeepKeys5
/-
  TABLE, the program: how far a text was read: where that lies; a piece is added.
-/
namespace Go.Proofs.YtnehgbpfgehhiaaGreatDoor.Table
open Go.RowKit Base
open Go.Maps (Keyed)
theorem klaw : Keyed Tryz.prog 9 := Go.Maps.string_keyed Tryz.underlying9
def entM (p : KV) : Value × Value := (S p.1, .int .i64 1)
/-- How far a text was read. -/
structure RStX (B : Nat) (w : World) (rb mb : Nat) (E : List KV) (o : Bool) (s : Int) (key val : List UInt8) (ev vv : Value) : Prop where
  box : w.heap[rb]? = some (.cells #[ev, .map (some mb), .bool o, .int .i64 s, S key, vv] 89 (0, 0))
  row : w.ownsRow B 133 2 ev E.length (E.flatMap enc2)
  val : Owns w B vv val
  map : MapIs Tryz.prog 9 w mb (E.map entM)
  rge : B ≤ rb
  mge : B ≤ mb
  bge : B ≤ w.heap.size
def RSt (B : Nat) (w : World) (rb mb : Nat) (E : List KV) (o : Bool) (s : Int) (key val : List UInt8) : Prop := ∃ ev vv, RStX B w rb mb E o s key val ev vv
/-- Boxes and rows of other types stand. -/
def KeepTy (w w' : World) : Prop := ∀ (k : Nat) (cs : Array Value) (t : TypeId) (fz : Nat × Nat), w.heap[k]? = some (.cells cs t fz) → t ≠ 89 → t ≠ 133 → t ≠ 5 → w'.heap[k]? = some (.cells cs t fz)
theorem KeepTy.refl (w : World) : KeepTy w w := fun _ _ _ _ h _ _ _ => h
theorem KeepTy.trans {w w1 w2 : World} (h : KeepTy w w1) (h2 : KeepTy w1 w2) : KeepTy w w2 := fun k cs t fz hk a b c => h2 k cs t fz (h k cs t fz hk a b c) a b c
theorem KeepTy.of_below {w w' : World} (h : Below w.heap.size w w') : KeepTy w w' := fun k _ _ _ hk _ _ _ => (h.block k (heap_lt hk)).trans hk
/-- What a step leaves. -/
structure PStep (B : Nat) (w w' : World) : Prop where
  below : Below B w w'
  keep : KeepTy w w'
theorem PStep.trans {B : Nat} {w w1 w2 : World} (h : PStep B w w1) (h2 : PStep B w1 w2) : PStep B w w2 := ⟨h.below.trans h2.below, h.keep.trans h2.keep⟩
theorem PStep.of_below {B : Nat} {w w' : World} (h : Below w.heap.size w w') (hB : B ≤ w.heap.size) : PStep B w w' := ⟨h.mono hB, KeepTy.of_below h⟩
theorem row_block {w : World} {B : Nat} {e : TypeId} {s n : Nat} {v : Value} {xs : List Value} (h : w.ownsRow B e s v n xs) {b : Nat} (hb : v.ownBlock = some b) : ∃ cs, w.heap[b]? = some (.cells cs e (0, 0)) ∨ ∃ fz, w.heap[b]? = some (.cells cs e fz) := by
  rcases h.2 with ⟨rfl, _⟩ | ⟨g, cap, cur, rfl, _, h2, _⟩
  · cases hb
  · cases hb
    exact ⟨cur, Or.inr ⟨_, h2⟩⟩
theorem row_type {w : World} {B : Nat} {e : TypeId} {s n : Nat} {v : Value} {xs : List Value} (h : w.ownsRow B e s v n xs) {b : Nat} (hb : v.ownBlock = some b) : ∃ cs fz, w.heap[b]? = some (.cells cs e fz) := by
  obtain ⟨cs, h | ⟨fz, h⟩⟩ := row_block h hb
  · exact ⟨cs, _, h⟩
  · exact ⟨cs, fz, h⟩
section
variable {B : Nat} {w w' : World} {rb mb : Nat} {E : List KV} {o : Bool} {s : Int} {key val : List UInt8} {ev vv : Value}
theorem RStX.on (h : RStX B w rb mb E o s key val ev vv) (hb : Below w.heap.size w w') : RStX B w' rb mb E o s key val ev vv :=
  ⟨(hb.block rb (heap_lt h.box)).trans h.box, row_kept h.row fun b hx => hb.block b (World.ownsRow.lt h.row b hx).2, h.val.on hb, h.map.kept (hb.block mb h.map.lt), h.rge, h.mge, Nat.le_trans h.bge hb.size⟩
theorem RSt.on (h : RSt B w rb mb E o s key val) (hb : Below w.heap.size w w') : RSt B w' rb mb E o s key val := by
  obtain ⟨ev, vv, h⟩ := h
  exact ⟨ev, vv, h.on hb⟩
theorem RStX.cells (h : RStX B w rb mb E o s key val ev vv) :
    w.cell? ⟨rb, 0, none⟩ = some ev ∧ w.cell? ⟨rb, 1, none⟩ = some (.map (some mb)) ∧ w.cell? ⟨rb, 2, none⟩ = some (.bool o) ∧ w.cell? ⟨rb, 3, none⟩ = some (.int .i64 s) ∧ w.cell? ⟨rb, 4, none⟩ = some (S key) ∧ w.cell? ⟨rb, 5, none⟩ = some vv ∧
    (∀ j, w.frozen? ⟨rb, j, none⟩ = false) :=
  ⟨cell_of_row w rb 0 _ _ _ h.box, cell_of_row w rb 1 _ _ _ h.box, cell_of_row w rb 2 _ _ _ h.box, cell_of_row w rb 3 _ _ _ h.box, cell_of_row w rb 4 _ _ _ h.box, cell_of_row w rb 5 _ _ _ h.box, fun j => by simp [World.frozen?, h.box]⟩
theorem RStX.evne (h : RStX B w rb mb E o s key val ev vv) : ev.ownBlock ≠ some rb ∧ ev.ownBlock ≠ some mb ∧ vv.ownBlock ≠ some rb ∧ vv.ownBlock ≠ some mb ∧ rb ≠ mb ∧ ∀ b, ev.ownBlock = some b → vv.ownBlock ≠ some b := by
  have hm : ∀ cs t fz, w.heap[mb]? ≠ some (.cells cs t fz) := fun cs t fz e => by
    obtain ⟨es, clock, h1, _⟩ := h.map
    rw [h1] at e; cases e
  refine ⟨fun e => ?_, fun e => ?_, fun e => ?_, fun e => ?_, fun e => ?_, fun b e1 e2 => ?_⟩
  · obtain ⟨cs, fz, h1⟩ := row_type h.row e
    rw [h.box] at h1; cases h1
  · obtain ⟨cs, fz, h1⟩ := row_type h.row e
    exact hm _ _ _ h1
  · obtain ⟨cs, fz, h1⟩ := row_type h.val e
    rw [h.box] at h1; cases h1
  · obtain ⟨cs, fz, h1⟩ := row_type h.val e
    exact hm _ _ _ h1
  · exact hm _ _ _ (by rw [← e]; exact h.box)
  · obtain ⟨cs, fz, h1⟩ := row_type h.row e1
    obtain ⟨cs2, fz2, h2⟩ := row_type h.val e2
    rw [h1] at h2; cases h2
/-- A cell of the box is written. -/
theorem RStX.setBox (h : RStX B w rb mb E o s key val ev vv) (i : Nat) (u : Value) {o' : Bool} {s' : Int} {key' : List UInt8} {ev' vv' : Value} {E' : List KV} {val' : List UInt8}
    (hc : (#[ev, .map (some mb), .bool o, .int .i64 s, S key, vv] : Array Value).setIfInBounds i u = #[ev', .map (some mb), .bool o', .int .i64 s', S key', vv'])
    (hr : w.ownsRow B 133 2 ev' E'.length (E'.flatMap enc2)) (hv : Owns w B vv' val') (hm : MapIs Tryz.prog 9 w mb (E'.map entM)) : RStX B (w.setCell ⟨rb, i, none⟩ u) rb mb E' o' s' key' val' ev' vv' ∧ PStep B w (w.setCell ⟨rb, i, none⟩ u) := by
  have hne : ∀ b, b ≠ rb → (w.setCell ⟨rb, i, none⟩ u).heap[b]? = w.heap[b]? := fun b hb => Below.heap_setCell _ _ _ _ hb
  refine ⟨⟨by rw [heap_setCell_same w rb i _ _ _ h.box, hc], row_kept hr fun b hb => hne b (fun e => ?_), row_kept hv fun b hb => hne b (fun e => ?_), hm.kept (hne mb (fun e => h.evne.2.2.2.2.1 e.symm)), h.rge, h.mge, by simpa using h.bge⟩, ⟨(Below.refl _ _).setCell h.rge u, fun k cs t fz hk a b c => ?_⟩⟩
  · subst e
    obtain ⟨cs, fz, h1⟩ := row_type hr hb
    rw [h.box] at h1; cases h1
  · subst e
    obtain ⟨cs, fz, h1⟩ := row_type hv hb
    rw [h.box] at h1; cases h1
  · rw [hne k (fun e => by subst e; rw [h.box] at hk; cases hk; exact a rfl)]; exact hk
/-- The value's row has grown. -/
theorem RStX.grown (h : RStX B w rb mb E o s key val ev vv) (hg : w.grownBy w' vv.ownBlock) :
    (w'.heap[rb]? = some (.cells #[ev, .map (some mb), .bool o, .int .i64 s, S key, vv] 89 (0, 0)) ∧ w'.ownsRow B 133 2 ev E.length (E.flatMap enc2) ∧ MapIs Tryz.prog 9 w' mb (E.map entM)) ∧ PStep B w w' := by
  obtain ⟨e1, e2, e3, e4, e5, e6⟩ := h.evne
  have hbl : Below B w w' := (Below.refl _ _).grown hg h.bge (fun j hj => (World.ownsRow.lt h.val j hj).1)
  obtain ⟨_, _, _, hs, hbk⟩ := hg
  refine ⟨⟨?_, row_kept h.row fun b hb => ?_, h.map.kept ?_⟩, hbl, fun k cs t fz hk a b c => ?_⟩
  · rw [hbk rb (heap_lt h.box) (fun e => e3 e.symm)]; exact h.box
  · exact hbk b (World.ownsRow.lt h.row b hb).2 (fun e => e6 b hb e.symm)
  · exact hbk mb h.map.lt (fun e => e4 e.symm)
  · rw [hbk k (heap_lt hk) (fun e => ?_)]
    · exact hk
    · obtain ⟨cs2, fz2, h2⟩ := row_type h.val e.symm
      rw [hk] at h2; cases h2; exact c rfl
/-- .. and is laid into the box. -/
theorem RStX.putVal (h : RStX B w rb mb E o s key val ev vv) (hg : w.grownBy w' vv.ownBlock) {v' : Value} {val' : List UInt8} (ho : Owns w' B v' val') :
    RStX B (w'.setCell ⟨rb, 5, none⟩ v') rb mb E o s key val' ev v' ∧ PStep B w (w'.setCell ⟨rb, 5, none⟩ v') ∧ w'.cell? ⟨rb, 5, none⟩ = some vv ∧ w'.frozen? ⟨rb, 5, none⟩ = false := by
  obtain ⟨⟨h1, h2, h3⟩, h4⟩ := h.grown hg
  have hne : ∀ b, b ≠ rb → (w'.setCell ⟨rb, 5, none⟩ v').heap[b]? = w'.heap[b]? := fun b hb => Below.heap_setCell _ _ _ _ hb
  have hs : w.heap.size ≤ w'.heap.size := h4.below.size
  refine ⟨⟨by rw [heap_setCell_same w' rb 5 _ _ _ h1]; rfl, row_kept h2 fun b hb => hne b (fun e => ?_), row_kept ho fun b hb => hne b (fun e => ?_), h3.kept (hne mb (fun e => h.evne.2.2.2.2.1 e.symm)), h.rge, h.mge, by have := h.bge; simp; omega⟩, h4.trans ⟨(Below.refl _ _).setCell h.rge v', fun k cs t fz hk a b c => ?_⟩, cell_of_row w' rb 5 _ _ _ h1, by simp [World.frozen?, h1]⟩
  · subst e
    obtain ⟨cs, fz, h1'⟩ := row_type h2 hb
    rw [h1] at h1'; cases h1'
  · subst e
    obtain ⟨cs, fz, h1'⟩ := row_type ho hb
    rw [h1] at h1'; cases h1'
  · rw [hne k (fun e => by subst e; rw [h1] at hk; cases hk; exact a rfl)]; exact hk
end
/-- What a method leaves. -/
def UnitEnd (B : Nat) (w : World) (rb mb : Nat) (E : List KV) (o : Bool) (s : Int) (key val : List UInt8) (e : Ending) (w' : World) : Prop := e = .returned (.tuple #[]) ∧ RSt B w' rb mb E o s key val ∧ PStep B w w'
end Go.Proofs.YtnehgbpfgehhiaaGreatDoor.Table
/-
  TABLE, the program: a piece is added to the value.
-/
namespace Go.Proofs.YtnehgbpfgehhiaaGreatDoor.Table
open Go.RowKit Base
theorem owns_one {w : World} {B : Nat} {v : Value} {l : List UInt8} {x : UInt8} {n : Nat} (h : w.ownsRow B 5 1 v n (Lib.byteCells l ++ [.int .u8 (x.toNat : Int)])) (hn : n = l.length + 1) : Owns w B v (l ++ [x]) := by
  unfold Owns
  rw [Lib.byteCells_append, List.length_append]
  subst hn
  exact h
theorem owns_str {w : World} {B : Nat} {v : Value} {l : List UInt8} {q : ByteArray} (h : w.ownsRow B 5 1 v (l.length + q.size) (Lib.byteCells l ++ Lib.byteCells q.data.toList)) : Owns w B v (l ++ q.data.toList) := by
  unfold Owns
  rw [List.length_append, Lib.byteCells_append, str_len]; exact h
set_option maxHeartbeats 4000000 in
set_option maxRecDepth 100000 in
theorem pAdd (B : Nat) (w : World) (rb mb : Nat) (E : List KV) (o : Bool) (s : Int) (key val : List UInt8) (piece : ByteArray) (h : RSt B w rb mb E o s key val) (hv : val.length ≤ 1000000) (hp : piece.size ≤ 1000000) :
    Calls Tryz.prog 42 #[.pointer (some ⟨rb, 0, none⟩), .string piece] w (UnitEnd B w rb mb E o s key (joinP val (trim piece.data.toList))) := by
  have HT := pTrim piece w (by omega)
  obtain ⟨q, hq⟩ : ∃ q : ByteArray, q.data.toList = trim piece.data.toList := ⟨⟨(trim piece.data.toList).toArray⟩, rfl⟩
  have hql : q.size ≤ 1000000 := by rw [← str_len, hq]; have := trim_len piece.data.toList; rw [str_len] at this; omega
  have HTR : Hid (Calls Tryz.prog 74 #[.string piece, .string ⟨#[32, 9]⟩] w fun e w' => e = .returned (.string q) ∧ Below w.heap.size w w') := by
    rw [← hq] at HT; exact HT
  rw [← hq]
  clear HT hq
  obtain ⟨i0, hi0, hz0, hz1, hz2⟩ := info_parts info5
  have H := Lib.hid h
  clear h
  by_cases h0 : val = []
  · subst h0
    have HJ : Hid (joinP [] q.data.toList = [] ++ q.data.toList) := rfl
    go_enter Tryz.func42, Tryz.ntmps42
    go_wp2_with (first | (go_at_call 74; (with_reducible refine HTR.out.mono ?_); rintro e w1 ⟨rfl, hb1⟩; refine Hid.out ?_) | fail)
    refine Lib.hid ?_
    obtain ⟨ev, vv, hx⟩ := H.out.on hb1
    have HST : Hid (PStep B w w1) := PStep.of_below hb1 (by obtain ⟨_, _, h9⟩ := H.out; exact h9.bge)
    obtain ⟨va, vc, rfl, hvc⟩ := row_form hx.val
    clear hb1
    obtain ⟨c0, c1, c2, c3, c4, c5, c6⟩ := hx.cells
    have HX := Lib.hid hx
    have f5 := c6 5
    clear hx c0 c1 c2 c3 c4 c6
    go_wp2_with (at_builtin; go_must (refine Lib.wpList_append_own_string _ rfl _ _ 87 9 rfl B 5 i0 Tryz.underlying87 Tryz.underlying9 hi0 hz0 hz1 hz2 _ _ _ rfl HX.out.val q rfl (by unfold maxLen; first | omega | (simp; omega)) (by first | omega | (simp; omega)) HX.out.bge ?_); intro v2 w2 o2 g2 a2; refine Hid.out ?_)
    refine Lib.hid ?_
    have ho2 := owns_str o2
    obtain ⟨va2, vc2, rfl, _⟩ := row_form ho2
    obtain ⟨r1, r2, r3, r4⟩ := HX.out.putVal g2 ho2
    have HF1 : RSt B _ rb mb E o s key (([] : List UInt8) ++ q.data.toList) := ⟨_, _, r1⟩
    have HF := Lib.hid (And.intro HF1 (HST.out.trans r2))
    clear HF1
    clear o2 g2 a2 ho2 r1 r2
    go_wp2
    go_end0
    exact ⟨rfl, by rw [HJ.out]; exact HF.out.1, HF.out.2⟩
  · have HJ : Hid (joinP val q.data.toList = (val ++ [32]) ++ q.data.toList) := by show _ = _; unfold joinP; rw [if_neg h0]
    have hvl : 0 < val.length := List.length_pos_iff.2 h0
    have i1 : (0 : Int) < (val.length : Int) := by omega
    clear h0
    go_enter Tryz.func42, Tryz.ntmps42
    go_wp2_with (first | (go_at_call 74; (with_reducible refine HTR.out.mono ?_); rintro e w1 ⟨rfl, hb1⟩; refine Hid.out ?_) | fail)
    refine Lib.hid ?_
    obtain ⟨ev, vv, hx⟩ := H.out.on hb1
    have HST0 : Hid (PStep B w w1) := PStep.of_below hb1 (by obtain ⟨_, _, h9⟩ := H.out; exact h9.bge)
    obtain ⟨va, vc, rfl, hvc⟩ := row_form hx.val
    clear hb1
    obtain ⟨c0, c1, c2, c3, c4, c5, c6⟩ := hx.cells
    have HX0 := Lib.hid (hx.on (Below.alloc1 w1 (.cells #[.int .u8 32] 5)))
    have HST1 : Hid (PStep B w (w1.alloc (.cells #[.int .u8 32] 5))) := HST0.out.trans (PStep.of_below (Below.alloc1 _ _) hx.bge)
    have f5 := c6 5
    clear hx c0 c1 c2 c3 c4 c6
    go_wp2_with (at_builtin; go_must (refine wpList_append_row _ rfl _ _ 87 rfl B 5 i0 (.int .u8 0) 1 Tryz.underlying87 hi0 hz0 hz1 hz2 rfl _ _ _ _ [.int .u8 32] rfl rfl HX0.out.val (vreads_one _ _ _) (fun u hu => by rw [List.mem_singleton.1 hu]; rfl) (by simp; omega) (by simp; omega) HX0.out.bge ?_); intro v3 w3 o3 g3 a3; refine Hid.out ?_)
    refine Lib.hid ?_
    have ho3 : Owns w3 B v3 (val ++ [32]) := owns_one o3 rfl
    obtain ⟨va3, vc3, rfl, _⟩ := row_form ho3
    obtain ⟨r1, r2, r3, r4⟩ := HX0.out.putVal g3 ho3
    have hx := r1
    have HST := Lib.hid (HST1.out.trans r2)
    have hvl3 : (val ++ [32]).length ≤ 1000001 := by simp; omega
    generalize val ++ [32] = vn at *
    clear o3 g3 a3 ho3 r1 r2 f5 c5
    obtain ⟨c0, c1, c2, c3, c4, c5, c6⟩ := hx.cells
    have HX := Lib.hid hx
    have f5 := c6 5
    clear hx c0 c1 c2 c3 c4 c6
    go_wp2_with (at_builtin; go_must (refine Lib.wpList_append_own_string _ rfl _ _ 87 9 rfl B 5 i0 Tryz.underlying87 Tryz.underlying9 hi0 hz0 hz1 hz2 _ _ _ rfl HX.out.val q rfl (by unfold maxLen; first | omega | (simp; omega)) (by first | omega | (simp; omega)) HX.out.bge ?_); intro v2 w2 o2 g2 a2; refine Hid.out ?_)
    refine Lib.hid ?_
    have ho2 := owns_str o2
    obtain ⟨va2, vc2, rfl, _⟩ := row_form o2
    obtain ⟨r1, r2, r3, r4⟩ := HX.out.putVal g2 ho2
    have HF1 : RSt B _ rb mb E o s key (vn ++ q.data.toList) := ⟨_, _, r1⟩
    have HF := Lib.hid (And.intro HF1 (HST.out.trans r2))
    clear HF1
    clear o2 g2 a2 ho2 r1 r2
    go_wp2
    go_end0
    exact ⟨rfl, by rw [HJ.out]; exact HF.out.1, HF.out.2⟩
end Go.Proofs.YtnehgbpfgehhiaaGreatDoor.Table
