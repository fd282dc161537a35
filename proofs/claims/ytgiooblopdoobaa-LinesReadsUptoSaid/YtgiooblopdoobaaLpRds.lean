/-
  LINES, LinesReads: the program's reader and the given answers' one, side by side; how pieces and turns are opened.
-/
import Derived.Test.YtgiooblopdoobaaLpPcsW
namespace Go.Proofs.Ytgiooblopdoobaa.Lines
open Go.RowKit Base
structure RdPd (w W : World) (g : Nat) (vr : Value) (g2 : Nat) (vs : Value) (m sr : Nat) (l : List UInt8) : Prop where
  r : PdAt W g vr m sr l
  s : RdAt W g2 vs (m : Int) l
  below : Below w.heap.size w W
  g0 : w.heap.size ≤ g
  g20 : w.heap.size ≤ g2
  v0 : NewV w.heap.size vr
  v20 : NewV w.heap.size vs
  ne : g ≠ g2
  rs : vr.ownBlock ≠ some g2
  sr : vs.ownBlock ≠ some g
  vv : ∀ b, vr.ownBlock = some b → vs.ownBlock ≠ some b
/-- Two readers whose bytes may differ for a moment. -/
structure RdPd2 (w W : World) (g : Nat) (vr : Value) (g2 : Nat) (vs : Value) (m sr : Nat) (l l2 : List UInt8) : Prop where
  r : PdAt W g vr m sr l
  s : RdAt W g2 vs (m : Int) l2
  below : Below w.heap.size w W
  g0 : w.heap.size ≤ g
  g20 : w.heap.size ≤ g2
  v0 : NewV w.heap.size vr
  v20 : NewV w.heap.size vs
  ne : g ≠ g2
  rs : vr.ownBlock ≠ some g2
  sr : vs.ownBlock ≠ some g
  vv : ∀ b, vr.ownBlock = some b → vs.ownBlock ≠ some b
theorem RdPd2.one {w W : World} {g g2 m sr : Nat} {vr vs : Value} {l : List UInt8} (h : RdPd2 w W g vr g2 vs m sr l l) : RdPd w W g vr g2 vs m sr l := ⟨h.r, h.s, h.below, h.g0, h.g20, h.v0, h.v20, h.ne, h.rs, h.sr, h.vv⟩
theorem RdPd.two {w W : World} {g g2 m sr : Nat} {vr vs : Value} {l : List UInt8} (h : RdPd w W g vr g2 vs m sr l) : RdPd2 w W g vr g2 vs m sr l l := ⟨h.r, h.s, h.below, h.g0, h.g20, h.v0, h.v20, h.ne, h.rs, h.sr, h.vv⟩
theorem RdAt.old {w : World} {g : Nat} {v : Value} {m : Int} {l : List UInt8} (h : RdAt w g v m l) : ∀ b, v.ownBlock = some b → b < w.heap.size := fun b hb => (h.2.1.ge b hb).2
theorem PdAt.old {w : World} {g m s : Nat} {v : Value} {l : List UInt8} (h : PdAt w g v m s l) : ∀ b, v.ownBlock = some b → b < w.heap.size := fun b hb => (h.2.1.ge b hb).2
theorem RdAt.keptR {A B : World} {g g2 : Nat} {m : Int} {v v2 : Value} {l : List UInt8} (h : RdAt A g v m l) (hk : KeepR g2 v2 A B) (h1 : g ≠ g2) (h2 : v2.ownBlock ≠ some g) (h3 : v.ownBlock ≠ some g2) (h4 : ∀ b, v.ownBlock = some b → v2.ownBlock ≠ some b) : RdAt B g v m l :=
  h.on (hk.block g (heap_lt h.1) h1 h2) fun b hb => hk.block b (h.old b hb) (fun e => h3 (by rw [hb, e])) (h4 b hb)
section
variable {w W W' : World} {g g2 m sr : Nat} {vr vs : Value} {l l2 : List UInt8}
theorem RdPd2.stepR (h : RdPd2 w W g vr g2 vs m sr l l2) {vr' : Value} {sr' : Nat} {l' : List UInt8} (hk : KeepR g vr W W') (hp : PdAt W' g vr' m sr' l') (hs : SameOrNew vr vr' W.heap.size) : RdPd2 w W' g vr' g2 vs m sr' l' l2 :=
  ⟨hp, h.s.keptR hk h.ne.symm h.rs h.sr (fun b hb e => h.vv b e hb), h.below.trans (hk.below h.g0 h.v0 h.below.size), h.g0, h.g20, h.v0.next hs h.below.size, h.v20, h.ne, fun e => by
    rcases hs with x | x
    · exact h.rs (by rw [← x]; exact e)
    · have := x g2 e; have := heap_lt h.s.1; omega, h.sr, fun b hb e => by
    rcases hs with x | x
    · exact h.vv b (by rw [← x]; exact hb) e
    · have := x b hb; have := h.s.old b e; omega⟩
theorem RdPd2.stepS (h : RdPd2 w W g vr g2 vs m sr l l2) {vs' : Value} {l' : List UInt8} (hk : KeepR g2 vs W W') (hp : RdAt W' g2 vs' (m : Int) l') (hs : SameOrNew vs vs' W.heap.size) : RdPd2 w W' g vr g2 vs' m sr l l' :=
  ⟨h.r.keptR hk h.ne h.sr h.rs h.vv, hp, h.below.trans (hk.below h.g20 h.v20 h.below.size), h.g0, h.g20, h.v0, h.v20.next hs h.below.size, h.ne, h.rs, fun e => by
    rcases hs with x | x
    · exact h.sr (by rw [← x]; exact e)
    · have := x g e; have := heap_lt h.r.1; omega, fun b hb e => by
    rcases hs with x | x
    · exact h.vv b hb (by rw [← x]; exact e)
    · have := x b e; have := h.r.old b hb; omega⟩
/-- What is done to a block that is neither's. -/
theorem RdPd.grown (h : RdPd w W g vr g2 vs m sr l) {row : Option Nat} (hg : W.grownBy W' row) (hr : ∀ b, row = some b → w.heap.size ≤ b ∧ b ≠ g ∧ b ≠ g2 ∧ vr.ownBlock ≠ some b ∧ vs.ownBlock ≠ some b) : RdPd w W' g vr g2 vs m sr l :=
  ⟨h.r.on hg.size (hg.block g (heap_lt h.r.1) (fun e => (hr g e.symm).2.1 rfl)) (fun b hb => hg.block b (h.r.old b hb) (fun e => (hr b e.symm).2.2.2.1 hb)),
   h.s.on (hg.block g2 (heap_lt h.s.1) (fun e => (hr g2 e.symm).2.2.1 rfl)) (fun b hb => hg.block b (h.s.old b hb) (fun e => (hr b e.symm).2.2.2.2 hb)),
   h.below.trans (grown_below hg (fun b hb => (hr b hb).1) h.below.size), h.g0, h.g20, h.v0, h.v20, h.ne, h.rs, h.sr, h.vv⟩
theorem RdPd.on (h : RdPd w W g vr g2 vs m sr l) (hb : Below W.heap.size W W') : RdPd w W' g vr g2 vs m sr l :=
  ⟨h.r.on hb.size (hb.block g (heap_lt h.r.1)) (fun b x => hb.block b (h.r.old b x)), h.s.on (hb.block g2 (heap_lt h.s.1)) (fun b x => hb.block b (h.s.old b x)), h.below.trans (hb.mono h.below.size), h.g0, h.g20, h.v0, h.v20, h.ne, h.rs, h.sr, h.vv⟩
end
theorem rNewYes (most : Nat) (w : World) (h1 : 1 ≤ most) (h2 : most ≤ 65536) : Calls Try.prog 9 #[.int .i64 (most : Int)] w fun e w' => ∃ g, e = .returned (.tuple #[.pointer (some ⟨g, 0, none⟩), .int .i64 0]) ∧ Below w.heap.size w w' ∧ w.heap.size ≤ g ∧ g < w'.heap.size ∧ RdAt w' g (.slice none 0 0) (most : Int) [] := by
  refine (rNew most w).mono fun e w' h => ?_
  obtain ⟨hb, h | ⟨_, he, hlt, hp⟩⟩ := h
  · omega
  · exact ⟨_, he, hb, Nat.le_refl _, hlt, hp⟩
theorem rNewNo (most : Int) (w : World) (h : most < 1 ∨ 65536 < most) : Calls Try.prog 9 #[.int .i64 most] w fun e w' => e = .returned (.tuple #[.pointer none, .int .i64 1]) ∧ Below w.heap.size w w' := by
  refine (rNew most w).mono fun e w' h2 => ?_
  obtain ⟨hb, h3 | h3⟩ := h2
  · exact ⟨h3.2, hb⟩
  · have := h3.1; omega
/-- What Next tells, and what waits behind it. -/
def stepOf (m : Nat) (l : List UInt8) : (List UInt8 × Nat) × Bool × List UInt8 :=
  if endOf l < l.length then (lineTold m (l.take (endOf l)), true, l.drop (endOf l + 1)) else (([], 0), false, l)
theorem step_len (m : Nat) (l : List UInt8) : (stepOf m l).2.2.length ≤ l.length := by
  unfold stepOf
  split
  · show (l.drop _).length ≤ _; rw [List.length_drop]; omega
  · exact Nat.le_refl _
theorem pNextU {g : Nat} {v : Value} {m s : Nat} {l : List UInt8} {w : World} (h : PdAt w g v m s l) (hl : l.length ≤ 100000000000000) (hs : s ≤ endOf l) :
    Calls Try.prog 12 #[.pointer (some ⟨g, 0, none⟩)] w fun e w' => ∃ u v' s', e = .returned (.tuple #[u, .int .i64 ((stepOf m l).1.2 : Int), .bool (stepOf m l).2.1]) ∧ Owns w' w.heap.size u (stepOf m l).1.1 ∧ KeepR g v w w' ∧ PdAt w' g v' m s' (stepOf m l).2.2 ∧ s' ≤ endOf (stepOf m l).2.2 ∧ v'.ownBlock = v.ownBlock := by
  refine (pNext g v m s l w (by omega) h hs).mono fun e w' h => ?_
  unfold PNextEnd at h
  unfold stepOf
  split at h
  · rename_i hf
    rw [if_pos hf]
    obtain ⟨u, v', a1, a2, a3, a4, a5⟩ := h
    exact ⟨u, v', 0, a1, a2, a3, a4, Nat.zero_le _, a5⟩
  · rename_i hf
    rw [if_neg hf]
    obtain ⟨a1, a2, a3⟩ := h
    exact ⟨_, v, _, a1, owns_nil _ _, a2, a3, by show l.length ≤ endOf l; omega, rfl⟩
theorem rNextU {g : Nat} {v : Value} {m : Nat} {l : List UInt8} {w : World} (h : RdAt w g v (m : Int) l) (hl : l.length ≤ 100000000000000) :
    Calls Try.prog 13 #[.pointer (some ⟨g, 0, none⟩)] w fun e w' => ∃ u v', e = .returned (.tuple #[u, .int .i64 ((stepOf m l).1.2 : Int), .bool (stepOf m l).2.1]) ∧ Reads w' u (stepOf m l).1.1 ∧ KeepR g v w w' ∧ RdAt w' g v' (m : Int) (stepOf m l).2.2 ∧ SameOrNew v v' w.heap.size := by
  refine (rNext g v m l w hl h).mono fun e w' h2 => ?_
  unfold NextEnd at h2
  unfold stepOf
  split at h2
  · rename_i hf
    rw [if_pos hf]
    obtain ⟨u, v', a1, a2, _, a4, a5, a6⟩ := h2
    exact ⟨u, v', a1, a2, a4, a5, a6⟩
  · rename_i hf
    rw [if_neg hf]
    obtain ⟨a1, rfl⟩ := h2
    exact ⟨_, v, a1, Or.inl ⟨rfl, none, 0, rfl, fun _ => rfl⟩, KeepR.refl g v w, h, Or.inl rfl⟩
/-! ### The arguments -/
open Go.ChangeShapes Go.WideShapes Go.ChangeAt
/-- A slice of slices of bytes that came in. -/
def Rows2 (w : World) (A : Option Addr) (ls : List (List UInt8)) : Prop :=
  ∀ i l, ls[i]? = some l → ∃ b o xa xc, A = some ⟨b, o, none⟩ ∧ w.cell? ⟨b, o + i, none⟩ = some (.slice xa l.length xc) ∧ Reads w (.slice xa l.length xc) l
def Bools (w : World) (A : Option Addr) (bs : List Bool) : Prop :=
  ∀ i x, bs[i]? = some x → ∃ b o, A = some ⟨b, o, none⟩ ∧ w.cell? ⟨b, o + i, none⟩ = some (.bool x)
theorem cellsRow : Try.prog.cellsOf 32 = 1 := by kernel_rfl
theorem cellsBool : Try.prog.cellsOf 4 = 1 := by kernel_rfl
theorem add_none {a : Addr} {w : World} {v : Value} (h : w.cell? (a.add 0) = some v) : ∃ b o, a = ⟨b, o, none⟩ := by
  obtain ⟨b, o, s⟩ := a
  have : s = none := by simpa [Addr.add] using World.cell?_spot h
  subst this
  exact ⟨b, o, rfl⟩
theorem reads_of_cells {W : World} {a : Option Addr} {n c : Nat} {zs : List Int} (hl : n ≤ c) (hz : zs.length = c) (hw : ∀ x ∈ zs, (Lit.int .u8 x).wf = true) (hn : a = none → c = 0)
    (hc : ∀ a', a = some a' → ∀ i, i < c → W.cell? (a'.add i) = some (.int .u8 (zs.getD i 0))) : ∃ l : List UInt8, l.length = n ∧ Reads W (.slice a n c) l := by
  have hlen : ((zs.take n).map fun x => UInt8.ofNat x.toNat).length = n := by simp; omega
  by_cases h0 : n = 0
  · subst h0
    exact ⟨[], rfl, Or.inl ⟨rfl, a, c, rfl, hn⟩⟩
  · refine ⟨(zs.take n).map fun x => UInt8.ofNat x.toNat, hlen, ?_⟩
    cases a with
    | none => have := hn rfl; omega
    | some a' =>
      obtain ⟨b, o, rfl⟩ := add_none (hc a' rfl 0 (by omega))
      refine Or.inr ⟨b, o, c, by rw [hlen], by omega, fun i hi => ?_⟩
      rw [hlen] at hi
      have hcj := hc _ rfl i (by omega)
      rw [Addr.add_lit] at hcj
      rw [hcj]
      have hr := range_u8 hw i
      have hi2 : i < ((zs.take n).map fun x => UInt8.ofNat x.toNat).length := by rw [hlen]; exact hi
      have e : zs.getD i 0 = zs[i]'(by omega) := by simp [List.getD, List.getElem?_eq_getElem (show i < zs.length by omega)]
      have e2 : ((zs.take n).map fun x => UInt8.ofNat x.toNat).getD i 0 = UInt8.ofNat (zs[i]'(by omega)).toNat := by
        rw [List.getD_eq_getElem?_getD, List.getElem?_eq_getElem hi2]
        simp
      rw [e2, e]
      rw [List.getD_eq_getElem?_getD] at e
      rw [e] at hr
      congr 2
      simp only [UInt8.toNat_ofNat']
      omega
theorem bulk_lits {H : Type} (k : IntKind) : ∀ (xs : List Int), Rows.uptoBulkAll (lits (H := H) k xs) = xs.length
  | [] => rfl
  | x :: r => by
    have h := bulk_lits (H := H) k r
    show Rows.uptoBulk (DataW.lit (H := H) (.int k x)) + Rows.uptoBulkAll (lits (H := H) k r) = _
    rw [h]
    show 1 + r.length = r.length + 1
    omega
theorem bulk_mem {H : Type} : ∀ (ds : List (DataW H)) (d : DataW H), d ∈ ds → Rows.uptoBulk d ≤ Rows.uptoBulkAll ds
  | [], d, h => by cases h
  | x :: r, d, h => by
    show _ ≤ Rows.uptoBulk x + Rows.uptoBulkAll r
    rcases List.mem_cons.1 h with rfl | h
    · omega
    · have := bulk_mem r d h; omega
theorem open_rowsU {H : Type} {enc : TypeId × Value → H} {W : World} {v : Value} {d : DataW H} {p : List MemPlace} {base : Nat} (hval : Value.okWide Try.prog W .any base 22 v)
    (h : DataW.Trod enc Try.prog W 0 (fun _ => true) true 22 v d p) : ∃ A c ls, v = .slice A (List.length ls) c ∧ Rows2 W A ls ∧ ls.length ≤ 9223372036854775807 ∧ ∀ x ∈ ls, x.length ≤ Rows.uptoBulk d := by
  obtain ⟨a1, len, cap, rfl⟩ := okWide_slice Try.underlying22 hval
  obtain ⟨fuel, hf⟩ := h
  rcases Go.Deep.open_int_rows Try.underlying22 Try.underlying32 Try.underlying5 cellsRow cells5 hf with ⟨hcs, _⟩ | ⟨a, len', cap', A, L, C, Z, hcs, _, hl, hm, hx, hr⟩
  · simp [Value.cells] at hcs
    obtain ⟨rfl, rfl, rfl⟩ := hcs
    exact ⟨none, 0, [], rfl, (fun i l hi => by simp at hi), Nat.zero_le _, fun x hx => by cases hx⟩
  · simp [Value.cells] at hcs
    obtain ⟨rfl, rfl, rfl⟩ := hcs
    simp only [Prod.mk.injEq] at hx
    obtain ⟨rfl, _⟩ := hx
    have each : ∀ r, r < len → ∃ l : List UInt8, l.length = L r ∧ Reads W (.slice (A r) (L r) (C r)) l := fun r hrl => by
      obtain ⟨_, k2, _, k4, k5, k6, k7⟩ := hr r (by omega)
      exact reads_of_cells k2 k4 k5 k6 (fun a' ha => (k7 a' ha).2)
    obtain ⟨F, hF⟩ := Go.Deep.choose_lt (α := List UInt8) each
    refine ⟨some a, cap, (List.range len).map F, by simp, fun i l hi => ?_, by unfold maxLen at hm; simp; omega, fun x hx => ?_⟩
    · have hil : i < len := by simpa using (List.getElem?_eq_some_iff.1 hi).1
      simp [hil] at hi
      subst hi
      obtain ⟨k1, _⟩ := hr i (by omega)
      obtain ⟨b, o, rfl⟩ := add_none (hr 0 (by omega)).1
      rw [Addr.add_lit] at k1
      refine ⟨b, o, A i, C i, rfl, ?_, ?_⟩
      · rw [(hF i hil).1]; exact k1
      · rw [(hF i hil).1]; exact (hF i hil).2
    · obtain ⟨i, hi, rfl⟩ := List.mem_map.1 hx
      have hil : i < len := List.mem_range.1 hi
      rw [(hF i hil).1]
      have hb := bulk_mem (H := H) _ _ (List.mem_map_of_mem (f := fun r => Go.Deep.intRow (H := H) .u8 (A r) (L r) (Z r)) hi)
      obtain ⟨_, k2, _, k4, _, k6, _⟩ := hr i (by omega)
      have hrow : L i ≤ Rows.uptoBulk (Go.Deep.intRow (H := H) .u8 (A i) (L i) (Z i)) := by
        unfold Go.Deep.intRow
        cases hA : A i with
        | none => have := k6 hA; show L i ≤ 1; omega
        | some a' =>
          show L i ≤ Rows.uptoBulkAll (lits (H := H) .u8 ((Z i).take (L i))) + Rows.uptoBulkAll (lits (H := H) .u8 ((Z i).drop (L i))) + 1
          rw [bulk_lits, List.length_take]
          omega
      show L i ≤ Rows.uptoBulkAll _ + Rows.uptoBulkAll _ + 1
      omega
theorem open_bools2 {H : Type} {enc : TypeId × Value → H} {W : World} {v : Value} {d : DataW H} {p : List MemPlace} {base : Nat} (hval : Value.okWide Try.prog W .any base 23 v)
    (h : DataW.Trod enc Try.prog W 0 (fun _ => true) true 23 v d p) : ∃ A c bs, v = .slice A (List.length bs) c ∧ Bools W A bs ∧ bs.length ≤ 9223372036854775807 := by
  obtain ⟨a1, len, cap, rfl⟩ := okWide_slice Try.underlying23 hval
  obtain ⟨fuel, hf⟩ := h
  rcases Go.Deep.open_bools Try.underlying23 Try.underlying4 cellsBool hf with ⟨hcs, _⟩ | ⟨a, len', cap', B, hcs, _, hl, hm, _, hr⟩
  · simp [Value.cells] at hcs
    obtain ⟨rfl, rfl, rfl⟩ := hcs
    exact ⟨none, 0, [], rfl, (fun i l hi => by simp at hi), Nat.zero_le _⟩
  · simp [Value.cells] at hcs
    obtain ⟨rfl, rfl, rfl⟩ := hcs
    refine ⟨some a, cap, (List.range len).map B, by simp, fun i l hi => ?_, by unfold maxLen at hm; simp; omega⟩
    have hil : i < len := by simpa using (List.getElem?_eq_some_iff.1 hi).1
    simp [hil] at hi
    subst hi
    have k1 := hr i (by omega)
    obtain ⟨b, o, rfl⟩ := add_none (hr 0 (by omega))
    rw [Addr.add_lit] at k1
    exact ⟨b, o, rfl, k1⟩
end Go.Proofs.Ytgiooblopdoobaa.Lines
