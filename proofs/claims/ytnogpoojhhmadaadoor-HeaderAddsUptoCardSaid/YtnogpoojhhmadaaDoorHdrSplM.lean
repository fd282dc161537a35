/-
  HEADER, the given answers: a content is cut into fields: plain; what a row of fields is behind a step.
-/
import Derived.Test.YtnogpoojhhmadaaDoorHdrRow
namespace Go.Proofs.YtnogpoojhhmadaaDoor.Header
open Go.RowKit Base
/-- The last field goes on. -/
def contF (l : List UInt8) (e x : Nat) : List Fld → List Fld
  | [] => []
  | [f] => [⟨f.nm, (l.take e).drop (f.fr + f.nm.length + 1), f.fr, x⟩]
  | f :: g :: r => f :: contF l e x (g :: r)
theorem contF_snoc (l : List UInt8) (e x : Nat) (f : Fld) : ∀ (T : List Fld), contF l e x (T ++ [f]) = T ++ [⟨f.nm, (l.take e).drop (f.fr + f.nm.length + 1), f.fr, x⟩]
  | [] => rfl
  | [g] => rfl
  | g :: h :: r => by
    have := contF_snoc l e x f (h :: r)
    rw [List.cons_append, List.cons_append, contF, ← List.cons_append, this]; rfl
def splitF (l : List UInt8) : Nat → Nat → List Fld → List Fld × Nat
  | 0, a, T => (T, a)
  | n + 1, a, T =>
    if a < l.length then
      if a < (lineOf l a).1 ∧ isBl (l.getD a 0) = true ∧ T ≠ [] then splitF l n (lineOf l a).2 (contF l (lineOf l a).1 (lineOf l a).2 T)
      else match colonOf ((l.take (lineOf l a).1).drop a) with
        | some c => splitF l n (lineOf l a).2 (T ++ [⟨(l.take (a + c)).drop a, (l.take (lineOf l a).1).drop (a + c + 1), a, (lineOf l a).2⟩])
        | none => (T, if (lineOf l a).1 = a then (lineOf l a).2 else a)
    else (T, a)
/-- A content's fields, and where its body begins. -/
def splitOf (l : List UInt8) : List Fld × Nat := splitF l l.length 0 []
theorem colon_pos {s : List UInt8} {c : Nat} (h : colonOf s = some c) : 0 < c ∧ c < s.length ∧ nameB (s.take c) = true := by
  unfold colonOf at h
  split at h
  · rename_i hh
    have he := Option.some.inj h
    refine ⟨?_, by omega, ?_⟩
    · have := hh.2
      unfold nameB at this
      simp at this
      omega
    · have : s.take c = s.takeWhile notColon := by
        rw [← he]
        exact List.prefix_iff_eq_take.1 (List.takeWhile_prefix _) |>.symm
      rw [this]; exact hh.2
  · cases h
theorem set4 (T0 : List Fld) (f f' : Fld) (k : Nat) (u : Value) (hk : k < 4) (h : (cells4 f).set k u = cells4 f') : ((T0 ++ [f]).flatMap cells4).set (T0.length * 4 + k) u = (T0 ++ [f']).flatMap cells4 := by
  rw [List.flatMap_append, List.flatMap_append, List.set_append_right _ _ (by rw [flat4_len]; omega), flat4_len, show T0.length * 4 + k - T0.length * 4 = k by omega]
  simp [h]
/-- While a content is cut. -/
structure SpI (l : List UInt8) (w wr : World) (ov : Value) (T : List Fld) (a : Nat) : Prop where
  below : Below w.heap.size w wr
  row : wr.ownsRow w.heap.size 30 4 ov T.length (T.flatMap cells4)
  fits : ∀ f ∈ T, f.fr + f.nm.length + 1 ≤ a ∧ f.en ≤ a ∧ f.bd.length ≤ l.length
  few : T.length ≤ a
theorem SpI.start (l : List UInt8) (w : World) : SpI l w w (.slice none 0 0) [] 0 := ⟨Below.refl _ _, World.ownsRow_nil _ _ _ _, fun f h => by simp at h, Nat.le_refl _⟩
theorem SpI.form {l : List UInt8} {w wr : World} {ov : Value} {T : List Fld} {a : Nat} (h : SpI l w wr ov T a) : ∃ A c, ov = .slice A T.length c := by
  obtain ⟨A, c, e, _⟩ := row_form h.row
  exact ⟨A, c, e⟩
theorem snoc_of {T : List Fld} (h : T ≠ []) : ∃ T0 f, T = T0 ++ [f] := ⟨T.dropLast, T.getLast h, (List.dropLast_concat_getLast h).symm⟩
/-- The facts of a field that goes on. -/
structure ContF (l : List UInt8) (w wr : World) (A : Option Addr) (c : Nat) (T0 : List Fld) (f : Fld) (e x : Nat) (g : Nat) : Prop where
  at_ : A = some ⟨g, 0, none⟩
  c3 : ∃ u, wr.cell? ⟨g, T0.length * 4 + 3, none⟩ = some u
  z : ∀ j, wr.frozen? ⟨g, j, none⟩ = false
  d0 : (wr.setCell ⟨g, T0.length * 4 + 3, none⟩ (.int .i64 (x : Int))).cell? ⟨g, T0.length * 4, none⟩ = some (S f.nm)
  d1 : (wr.setCell ⟨g, T0.length * 4 + 3, none⟩ (.int .i64 (x : Int))).cell? ⟨g, T0.length * 4 + 1, none⟩ = some (S f.bd)
  d2 : (wr.setCell ⟨g, T0.length * 4 + 3, none⟩ (.int .i64 (x : Int))).cell? ⟨g, T0.length * 4 + 2, none⟩ = some (.int .i64 (f.fr : Int))
  dz : ∀ j, (wr.setCell ⟨g, T0.length * 4 + 3, none⟩ (.int .i64 (x : Int))).frozen? ⟨g, j, none⟩ = false
  bel : Below w.heap.size w (wr.setCell ⟨g, T0.length * 4 + 3, none⟩ (.int .i64 (x : Int)))
  fin : ∀ w2, w2 = (wr.setCell ⟨g, T0.length * 4 + 3, none⟩ (.int .i64 (x : Int))) ∨ w2 = (wr.setCell ⟨g, T0.length * 4 + 3, none⟩ (.int .i64 (x : Int))).drew → SpI l w (w2.setCell ⟨g, T0.length * 4 + 1, none⟩ (S ((l.take e).drop (f.fr + f.nm.length + 1)))) (.slice A (T0.length + 1) c) (T0 ++ [⟨f.nm, (l.take e).drop (f.fr + f.nm.length + 1), f.fr, x⟩]) x
theorem SpI.cont {l : List UInt8} {w wr : World} {A : Option Addr} {c a e x : Nat} {T0 : List Fld} {f : Fld} (h : SpI l w wr (.slice A (T0.length + 1) c) (T0 ++ [f]) a) (hx : a ≤ x) : ∃ g, ContF l w wr A c T0 f e x g := by
  have hr := h.row
  have hlen : (T0 ++ [f]).length = T0.length + 1 := by simp
  rw [hlen] at hr
  rcases hr.2 with ⟨_, hn⟩ | ⟨g, cap, cur, he, hg, hb, hcap, _⟩
  · omega
  · cases he
    have hget : (T0 ++ [f])[T0.length]? = some f := by simp
    have ce : ∀ k, k < 4 → wr.cell? ⟨g, T0.length * 4 + k, none⟩ = (cells4 f)[k]? := fun k hk => by
      rw [World.ownsRow.cellAt hr (T0.length * 4 + k) (by omega), flat4 _ _ k f hget hk]
    have r3 := (World.ownsRow.stored hr (T0.length * 4 + 3) (.int .i64 (x : Int))).1
    rw [set4 T0 f ⟨f.nm, f.bd, f.fr, x⟩ 3 (.int .i64 (x : Int)) (by omega) rfl] at r3
    have hget3 : (T0 ++ [(⟨f.nm, f.bd, f.fr, x⟩ : Fld)])[T0.length]? = some ⟨f.nm, f.bd, f.fr, x⟩ := by simp
    have ce3 : ∀ k, k < 4 → (wr.setCell ⟨g, T0.length * 4 + 3, none⟩ (.int .i64 (x : Int))).cell? ⟨g, T0.length * 4 + k, none⟩ = (cells4 ⟨f.nm, f.bd, f.fr, x⟩)[k]? := fun k hk => by
      rw [World.ownsRow.cellAt r3 (T0.length * 4 + k) (by omega), flat4 _ _ k _ hget3 hk]
    have bel : Below w.heap.size w (wr.setCell ⟨g, T0.length * 4 + 3, none⟩ (.int .i64 (x : Int))) := h.below.setCell hg _
    refine ⟨g, rfl, ⟨_, ce 3 (by omega)⟩, fun j => World.ownsRow.frozenAt hr j, ce3 0 (by omega), ce3 1 (by omega), ce3 2 (by omega), fun j => World.ownsRow.frozenAt r3 j, bel, fun w2 h2 => ?_⟩
    have r3' : w2.ownsRow w.heap.size 30 4 (.slice (some ⟨g, 0, none⟩) (T0.length + 1) c) (T0.length + 1) ((T0 ++ [(⟨f.nm, f.bd, f.fr, x⟩ : Fld)]).flatMap cells4) := by
      rcases h2 with rfl | rfl
      · exact r3
      · exact r3
    have b2 : Below w.heap.size w w2 := by
      rcases h2 with rfl | rfl
      · exact bel
      · exact bel.trans (Below.mono (Below.refl _ _).drew bel.size)
    have r4 := (World.ownsRow.stored r3' (T0.length * 4 + 1) (S ((l.take e).drop (f.fr + f.nm.length + 1)))).1
    rw [set4 T0 ⟨f.nm, f.bd, f.fr, x⟩ ⟨f.nm, (l.take e).drop (f.fr + f.nm.length + 1), f.fr, x⟩ 1 _ (by omega) rfl] at r4
    refine ⟨b2.setCell hg _, by rw [List.length_append]; exact r4, fun y hy => ?_, ?_⟩
    · rcases List.mem_append.1 hy with hy | hy
      · have := h.fits y (List.mem_append_left _ hy)
        exact ⟨by omega, by omega, this.2.2⟩
      · rw [List.mem_singleton.1 hy]
        have := h.fits f (by simp)
        refine ⟨by show f.fr + f.nm.length + 1 ≤ x; omega, Nat.le_refl _, ?_⟩
        show ((l.take e).drop _).length ≤ _
        rw [List.length_drop, List.length_take]; omega
    · have := h.few
      rw [List.length_append] at this ⊢
      simp at this ⊢; omega
theorem infoF : (Tryd.prog.info? 30).map (fun i => (i.zero, i.size, i.bytes)) = some (some (.agg #[.string ⟨#[]⟩, .string ⟨#[]⟩, .int .i64 0, .int .i64 0]), 4, 48) := by kernel_rfl
/-- A field more. -/
structure AddF (l : List UInt8) (w wr : World) (A : Option Addr) (n c : Nat) (T : List Fld) (f : Fld) (na : Option Addr) (nc : Nat) (w3 : World) : Prop where
  run : (Builtin.append_ #[24, 24] 24 #[.slice A n c, .slice (some ⟨wr.heap.size, 0, none⟩) 1 1]).run Tryd.prog (wr.drew.alloc (.cells (cells4 f).toArray 30)) = .ok (.slice na (n + 1) nc) w3
  fin : SpI l w w3 (.slice na (n + 1) nc) (T ++ [f]) f.en
theorem SpI.add {l : List UInt8} {w wr : World} {A : Option Addr} {c a : Nat} {T : List Fld} {f : Fld} (h : SpI l w wr (.slice A T.length c) T a) (ha : a < f.en) (hf : f.fr + f.nm.length + 1 ≤ f.en ∧ f.bd.length ≤ l.length) (hn : T.length ≤ 1000000000000) : ∃ na nc w3, AddF l w wr A T.length c T f na nc w3 := by
  obtain ⟨i0, hi, hz0, hz1, hz2⟩ := info_parts infoF
  have bd : Below w.heap.size w wr.drew := h.below.trans (Below.mono (Below.refl _ _).drew h.below.size)
  have ba : Below w.heap.size w (wr.drew.alloc (.cells (cells4 f).toArray 30)) := bd.trans ((Below.alloc1 wr.drew _).mono bd.size)
  have rd : wr.drew.ownsRow w.heap.size 30 4 (.slice A T.length c) T.length (T.flatMap cells4) := h.row
  have ra : (wr.drew.alloc (.cells (cells4 f).toArray 30)).ownsRow w.heap.size 30 4 (.slice A T.length c) T.length (T.flatMap cells4) := rd.alloc _
  have hnb := (MapKept.heap_alloc wr.drew (.cells (cells4 f).toArray 30)).1
  obtain ⟨v', w3, e1, e2, e3, _, _⟩ := run_append_own_at (P := Tryd.prog) (wr.drew.alloc (.cells (cells4 f).toArray 30)) w.heap.size 24 24 30 i0 (.agg #[.string ⟨#[]⟩, .string ⟨#[]⟩, .int .i64 0, .int .i64 0]) 4 48 Tryd.underlying24 hi hz0 hz1 hz2 rfl (by decide) (.slice A T.length c) T.length (T.flatMap cells4) ra ⟨wr.heap.size, 0, none⟩ 1 1 (cells4 f) rfl
    (fun j u hu => by
      rw [Addr.add_lit, Nat.zero_add]
      exact (cell_of_row _ _ j _ _ _ hnb).trans (by simpa using hu))
    (fun u hu => by simp [cells4] at hu; rcases hu with rfl | rfl | rfl | rfl <;> rfl) (by unfold maxLen; omega) (by omega) ba.size
  obtain ⟨na, nc, rfl, _⟩ := row_form e2
  have b3 : Below w.heap.size w w3 := ba.grown e3 ba.size (fun j hj => (World.ownsRow.lt ra j hj).1)
  refine ⟨na, nc, w3, e1, b3, ?_, fun y hy => ?_, ?_⟩
  · rw [List.length_append, List.flatMap_append]
    simpa using e2
  · rcases List.mem_append.1 hy with hy | hy
    · have := h.fits y hy
      exact ⟨by omega, by omega, this.2.2⟩
    · rw [List.mem_singleton.1 hy]
      exact ⟨hf.1, Nat.le_refl _, hf.2⟩
  · have := h.few
    rw [List.length_append]
    simp; omega
end Go.Proofs.YtnogpoojhhmadaaDoor.Header
