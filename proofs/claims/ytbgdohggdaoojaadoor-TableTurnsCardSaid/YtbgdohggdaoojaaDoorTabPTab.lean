/-
  TABLE, the program: the entries sorted.
-/
import Derived.Test.YtbgdohggdaoojaaDoorTabPEnd
import Derived.Shelf.SlSortCmp.NoneTotal
namespace Go.Proofs.YtbgdohggdaoojaaDoor.Table
open Go.RowKit Base
open Go.Sort (grow)
def cfK (a b : KV) : Int := Lib.compareBytes a.1 b.1
theorem ltK (a b : KV) : ltOf cfK a b = decide (a.1 < b.1) := by
  unfold ltOf cfK
  exact decide_eq_decide.2 (by rw [cmp_less])
theorem irrK (a : List UInt8) : ¬ a < a := by
  rw [← cmp_less a a]
  have : Lib.compareBytes a a = 0 := (cmp_same a a).mpr rfl
  omega
theorem swoK : Go.Sort.SWO (ltOf cfK) where
  irrefl x := by rw [ltK]; exact decide_eq_false (irrK _)
  trans x y z h1 h2 := by
    rw [ltK] at *
    exact decide_eq_true (bytes_trans (of_decide_eq_true h1) (of_decide_eq_true h2))
  ntrans x y z h1 h2 := by
    rw [ltK] at *
    have h1 := of_decide_eq_false h1
    have h2 := of_decide_eq_false h2
    refine decide_eq_false (fun h => ?_)
    rcases bytes_total x.1 y.1 with h3 | h3 | h3
    · exact h1 h3
    · rw [h3] at h; exact h2 h
    · exact h2 (bytes_trans h3 h)
set_option maxHeartbeats 1000000 in
theorem pCmpK (x y : KV) (w : World) : Calls Tryd.prog 54 #[.agg #[S x.1, S x.2], .agg #[S y.1, S y.2]] w fun e w' => e = .returned (.int .i64 (cfK x y)) ∧ ∃ q os', w' = grow (w.drewN q) os' := by
  have HC := Lib.hid (fun w => Tryd.strings_Compare ⟨x.1.toArray⟩ ⟨y.1.toArray⟩ w)
  have HK : Hid (Lib.compareBytes x.1 y.1 = cfK x y) := rfl
  go_enter Tryd.func54, Tryd.ntmps54
  go_wp2_with (first | (go_at_call 45; refine (HC.out _).mono ?_; rintro e w' ⟨rfl, rfl⟩; refine Hid.out ?_) | fail)
  refine Lib.hid ?_
  go_wp2
  go_ret
  exact ⟨by rw [← HK.out]; rfl, 0, _, by rw [Go.Sort.alloc_eq_grow, Go.Sort.alloc_eq_grow, Go.Sort.grow_grow]; rfl⟩
theorem grownBy_K {w : World} {g off n : Nat} {os : Array Obj} (d : Array KV) : w.grownBy (sortWorldK enc2 2 w g off n d os) (some g) := by
  unfold sortWorldK Go.Sort.putRowK
  refine ⟨rfl, rfl, rfl, by simp, fun k hk hne => ?_⟩
  rw [Go.Sort.heap_grow_old _ _ (by simpa using hk)]
  have : g ≠ k := fun e => hne (by rw [e])
  simp [Go.Sort.putRow, Go.Sort.mapBlock, Go.Sort.ahead, Array.getElem?_modify, this]
theorem holds_row {w : World} {B g cap n : Nat} {E : List KV} (h : w.ownsRow B 84 2 (.slice (some ⟨g, 0, none⟩) n cap) n (E.flatMap enc2)) (hn : n = E.length) : Go.Sort.HoldsK enc2 2 w g 0 E.toArray := by
  subst hn
  intro j hj
  rw [Go.Sort.size_flatK] at hj
  have hj2 : j < E.length * 2 := by simpa using hj
  rw [Go.Sort.get_flatK _ _ _ _ hj]
  obtain ⟨p, hp⟩ : ∃ p, E[j / 2]? = some p := ⟨E[j / 2], List.getElem?_eq_getElem (by omega)⟩
  have hd : E.toArray[j / 2]! = p := by
    have hl : j / 2 < E.length := by omega
    rw [getElem!_pos E.toArray (j / 2) (by simpa using hl)]
    have := (List.getElem?_eq_some_iff.1 hp).2
    simpa using this
  have h2 := flat2 E (j / 2) (j % 2) p hp (by omega)
  rw [show j / 2 * 2 + j % 2 = j by omega] at h2
  refine ⟨?_, World.ownsRow.frozenAt h _⟩
  rw [Nat.zero_add, World.ownsRow.cellAt h j (by omega), h2, hd]
  have hm : j % 2 < (enc2 p).length := by simp [enc2]; omega
  show (enc2 p)[j % 2]? = some (enc2 p)[j % 2]!
  rw [List.getElem?_eq_getElem hm, getElem!_pos (enc2 p) (j % 2) hm]
theorem rows_sorted {w : World} {g cap : Nat} {d : Array KV} (h : Go.Sort.HoldsK enc2 2 w g 0 d) (hc : d.size ≤ cap) : Rows2 w (.slice (some ⟨g, 0, none⟩) d.size cap) d.toList := by
  refine Or.inr ⟨g, 0, cap, by simp, by simpa using hc, fun i p hp => ?_⟩
  have hi : i < d.size := by have := (List.getElem?_eq_some_iff.1 hp).1; simpa using this
  have hd : d[i]! = p := by
    rw [getElem!_pos d i hi]
    have := (List.getElem?_eq_some_iff.1 hp).2
    simpa using this
  have c0 := (h.cell hi (c := 0) (by omega)).1
  have c1 := (h.cell hi (c := 1) (by omega)).1
  rw [hd] at c0 c1
  exact ⟨c0, c1⟩
def SortedK (T : List KV) : Prop := T.Pairwise fun p q => ¬ q.1 < p.1
theorem sorted_of {d : Array KV} (h : Go.Sort.SortedIn (ltOf cfK) 0 d.size d) : SortedK d.toList := by
  unfold SortedK
  rw [List.pairwise_iff_getElem]
  intro i j hi hj hij
  have hi' : i < d.size := by simpa using hi
  have hj' : j < d.size := by simpa using hj
  have := h i j (Nat.zero_le _) hij hj'
  rw [ltK, getElem!_pos d i hi', getElem!_pos d j hj'] at this
  simpa using of_decide_eq_false this
theorem perm_of {d d' : Array KV} (h : Go.Sort.PermIn 0 d.size d d') : d'.size = d.size ∧ d'.toList.Perm d.toList := by
  obtain ⟨h1, _, h3⟩ := h
  refine ⟨h1, ?_⟩
  have e1 : d'.extract 0 d.size = d' := by rw [← h1]; simp
  have e2 : d.extract 0 d.size = d := by simp
  rwa [e1, e2] at h3
/-- What the table of the entries is. -/
def TableEnd (B : Nat) (w : World) (E : List KV) (e : Ending) (w' : World) : Prop := ∃ b T sv, e = .returned (.pointer (some ⟨b, 0, none⟩)) ∧ T.Perm E ∧ SortedK T ∧ w'.heap[b]? = some (.cells #[sv] 82 (0, 0)) ∧ Rows2 w' sv T ∧ (∀ (q : Nat) (cs : Array Value) (t : TypeId) (fz : Nat × Nat), w.heap[q]? = some (.cells cs t fz) → t ≠ 84 → sv.ownBlock ≠ some q) ∧ w.heap.size ≤ b ∧ PStep B w w'
theorem table_end {B : Nat} {w w2 : World} {E T : List KV} {sv : Value} (h1 : T.Perm E) (h2 : SortedK T) (h3 : Rows2 w2 sv T) (h4 : PStep B w w2) (hB : B ≤ w2.heap.size) (h5 : ∀ (q : Nat) (cs : Array Value) (t : TypeId) (fz : Nat × Nat), w.heap[q]? = some (.cells cs t fz) → t ≠ 84 → sv.ownBlock ≠ some q) : TableEnd B w E (.returned (.pointer (some ⟨w2.heap.size, 0, none⟩))) (w2.alloc (.cells #[sv] 82)) :=
  ⟨_, T, sv, rfl, h1, h2, (MapKept.heap_alloc w2 _).1, h3.on (Below.alloc1 _ _), h5, h4.below.size, h4.trans (PStep.of_below (Below.alloc1 _ _) hB)⟩
set_option maxHeartbeats 4000000 in
set_option maxRecDepth 100000 in
theorem pTable (B : Nat) (w : World) (rb mb : Nat) (E : List KV) (o : Bool) (s : Int) (key val : List UInt8) (h : RSt B w rb mb E o s key val) (he : E.length ≤ 1000000) :
    Calls Tryd.prog 32 #[.pointer (some ⟨rb, 0, none⟩)] w (TableEnd B w E) := by
  obtain ⟨ev, vv, hx⟩ := h
  obtain ⟨c0, c1, c2, c3, c4, c5, c6⟩ := hx.cells
  have HX := Lib.hid hx
  rcases hx.row.2 with ⟨rfl, hn⟩ | ⟨g, cap, cur, rfl, hBg, hb, hcap, _⟩
  · obtain rfl : E = [] := List.eq_nil_of_length_eq_zero hn
    have HS : Hid (Calls Tryd.prog 53 #[.slice none 0 0, .func (.func 54) #[] #[]] w fun e w' => e = .returned (.tuple #[]) ∧ w = w') := (AnyF.slices_SortFunc_none (P := Tryd.prog) { Tryd.sortE with } none 0 (.func (.func 54) #[] #[]) w).mono fun e w' h => ⟨h.1, h.2.symm⟩
    have HE : Hid (TableEnd B w [] (.returned (.pointer (some ⟨w.heap.size, 0, none⟩))) (w.alloc (.cells #[.slice none 0 0] 82))) := table_end (T := []) (List.Perm.refl _) List.Pairwise.nil (Or.inl ⟨rfl, none, 0, rfl, fun _ => rfl⟩) ⟨Below.refl _ _, KeepTy.refl _⟩ HX.out.bge (fun q cs t fz _ _ e => by cases e)
    clear hx c1 c2 c3 c4 c5 c6
    go_enter Tryd.func32, Tryd.ntmps32
    go_wp2_with (first | (go_at_call 53; (with_reducible refine HS.out.mono ?_); rintro e w1 ⟨rfl, rfl⟩; refine Hid.out ?_) | fail)
    refine Lib.hid ?_
    go_wp2
    go_ret
    exact HE.out
  · have eg : ∀ args w, (callFunc 54 args).run Tryd.prog w = .ok (.enter 54 args) w := enters_of Tryd.func54 (by kernel_rfl) rfl
    have hH := holds_row hx.row rfl
    have hS := AnyQ.slices_SortFunc (P := Tryd.prog) Tryd.sortE 2 Tryd.isAgg84 Tryd.sizeOf84 enc2 (fun _ => rfl) (fun x v hv => by simp [enc2] at hv; rcases hv with rfl | rfl <;> rfl) cfK swoK 54 #[] g 0 cap E.toArray w eg (fun m os dk _ x y => pCmpK x y _) hH (heap_lt hb) (by simp; omega)
    have HS : Hid (Calls Tryd.prog 53 #[.slice (some ⟨g, 0, none⟩) E.length cap, .func (.func 54) #[] #[]] w fun e w' => e = .returned (.tuple #[]) ∧ w.grownBy w' (some g) ∧ ∃ T : List KV, T.Perm E ∧ SortedK T ∧ T.length = E.length ∧ Rows2 w' (.slice (some ⟨g, 0, none⟩) E.length cap) T) := by
      have hsz : E.toArray.size = E.length := by simp
      rw [hsz] at hS
      refine hS.mono fun e w' ⟨h1, d', n, os, h2, h3, h4⟩ => ?_
      have hp := perm_of (d := E.toArray) (by rw [hsz]; exact h2)
      subst h4
      refine ⟨h1, grownBy_K d', d'.toList, by simpa using hp.2, ?_, by simpa using hp.1, ?_⟩
      · refine sorted_of ?_
        rw [hp.1, hsz]; exact h3
      · have hh := holdsK_sortWorldK_c enc2 2 w g 0 E.toArray d' n os hH (heap_lt hb) hp.1
        have := rows_sorted hh (cap := cap) (by rw [hp.1, hsz]; exact hcap)
        rw [hp.1, hsz] at this
        exact this
    have hne : rb ≠ g := fun e => by have := hx.box; rw [e, hb] at this; cases this
    have HFX : Hid (∀ w1, w.grownBy w1 (some g) → PStep B w w1 ∧ w1.cell? ⟨rb, 0, none⟩ = some (.slice (some ⟨g, 0, none⟩) E.length cap)) := fun w1 hg => by
      have hbl : Below B w w1 := (Below.refl _ _).grown hg hx.bge (fun j hj => by cases hj; exact hBg)
      obtain ⟨_, _, _, _, hbk⟩ := hg
      refine ⟨⟨hbl, fun k cs t fz hk _ h84 _ => ?_⟩, ?_⟩
      · rw [hbk k (heap_lt hk) (fun e => by cases e; rw [hb] at hk; cases hk; exact h84 rfl)]; exact hk
      · exact cell_of_row w1 rb 0 _ _ _ ((hbk rb (heap_lt hx.box) (fun e => hne (by cases e; rfl))).trans hx.box)
    have HQ : Hid (∀ (q : Nat) (cs : Array Value) (t : TypeId) (fz : Nat × Nat), w.heap[q]? = some (.cells cs t fz) → t ≠ 84 → (Value.slice (some ⟨g, 0, none⟩) E.length cap).ownBlock ≠ some q) := fun q cs t fz hq ht e => by cases e; rw [hb] at hq; cases hq; exact ht rfl
    clear hx c1 c2 c3 c4 c5 c6 eg hH hS hb hne
    go_enter Tryd.func32, Tryd.ntmps32
    go_wp2_with (first | (go_at_call 53; (with_reducible refine HS.out.mono ?_); rintro e w1 ⟨rfl, hg, T, t1, t2, t3, t4⟩; refine Hid.out ?_) | fail)
    refine Lib.hid ?_
    obtain ⟨p1, d1⟩ := HFX.out w1 hg
    have HE := Lib.hid (table_end t1 t2 t4 p1 (Nat.le_trans HX.out.bge p1.below.size) HQ.out)
    clear hg t1 t2 t3 t4 p1
    go_wp2
    go_ret
    exact HE.out
end Go.Proofs.YtbgdohggdaoojaaDoor.Table
