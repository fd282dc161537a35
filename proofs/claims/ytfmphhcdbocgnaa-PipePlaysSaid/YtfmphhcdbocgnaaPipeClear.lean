/-
  All pipes of a port are emptied.
-/
import Derived.Test.YtfmphhcdbocgnaaPipeWait
import Derived.Test.YtfmphhcdbocgnaaPipeOpen
namespace Go.Proofs.Ytfmphhcdbocgnaa.Pipe
open Go.RowKit Base
/-- Is it a port of that pipe? -/
def ofPort (s : ByteArray) (p : PA) : Bool := decide (p.f = s) || decide (p.t = s)
def clrA (s : ByteArray) (p : PA) : PA := if ofPort s p then { p with q := [] } else p
/-- The pipe, emptied. -/
def clrG (p : PA × PG) : PA × PG := ({ p.1 with q := [] }, ⟨p.2.pb, .slice none 0 0, [], p.2.done + p.1.q.length⟩)
noncomputable def clrIn (dn : List (PA × PG)) (s : ByteArray) (p : PA × PG) : PA × PG := @ite _ (p ∈ dn ∧ ofPort s p.1 = true) (Classical.propDecidable _) (clrG p) p
def clearN (s : ByteArray) (L : List PA) : Nat := ((L.filter (ofPort s)).map fun p => p.q.length).sum
theorem clrIn_entry (dn : List (PA × PG)) (s : ByteArray) (p : PA × PG) : entry (clrIn dn s p) = entry p := by
  unfold clrIn
  by_cases h : p ∈ dn ∧ ofPort s p.1 = true
  · rw [if_pos h]; rfl
  · rw [if_neg h]
theorem clrIn_yes {dn : List (PA × PG)} {s : ByteArray} {p : PA × PG} (h : p ∈ dn ∧ ofPort s p.1 = true) : clrIn dn s p = clrG p := by unfold clrIn; rw [if_pos h]
theorem clrIn_no {dn : List (PA × PG)} {s : ByteArray} {p : PA × PG} (h : ¬ (p ∈ dn ∧ ofPort s p.1 = true)) : clrIn dn s p = p := by unfold clrIn; rw [if_neg h]
theorem clrIn_all {dn Ps : List (PA × PG)} {s : ByteArray} (h : dn.Perm Ps) : (Ps.map (clrIn dn s)).map Prod.fst = (Ps.map Prod.fst).map (clrA s) := by
  rw [List.map_map, List.map_map]
  refine List.map_congr_left fun p hp => ?_
  show (clrIn dn s p).1 = clrA s p.1
  by_cases hm : ofPort s p.1 = true
  · rw [clrIn_yes ⟨h.mem_iff.2 hp, hm⟩]
    unfold clrA; rw [if_pos hm]; rfl
  · rw [clrIn_no (fun e => hm e.2)]
    unfold clrA; rw [if_neg hm]
theorem clrIn_map_entry (dn Ps : List (PA × PG)) (s : ByteArray) : (Ps.map (clrIn dn s)).map entry = Ps.map entry := by
  rw [List.map_map]
  exact List.map_congr_left fun p _ => clrIn_entry dn s p
theorem clearN_perm {a b : List PA} (s : ByteArray) (h : a.Perm b) : clearN s a = clearN s b := by
  unfold clearN
  exact ((h.filter _).map _).sum_nat
theorem clearN_snoc (s : ByteArray) (a : List PA) (p : PA) : clearN s (a ++ [p]) = clearN s a + if ofPort s p then p.q.length else 0 := by
  unfold clearN
  rw [List.filter_append]
  by_cases h : ofPort s p = true
  · rw [List.filter_cons_of_pos h, if_pos h, List.map_append, List.sum_append]; simp
  · rw [List.filter_cons_of_neg h, if_neg h]; simp
theorem clearN_le (s : ByteArray) : ∀ (a : List PA), (∀ p ∈ a, p.q.length ≤ 64) → clearN s a ≤ 64 * a.length := by
  intro a
  induction a with
  | nil => intro _; simp [clearN]
  | cons p r ih =>
    intro h
    have h1 := ih fun x hx => h x (List.mem_cons_of_mem _ hx)
    have h2 := h p (by simp)
    unfold clearN at h1 ⊢
    by_cases hp : ofPort s p = true
    · rw [List.filter_cons_of_pos hp]; simp; omega
    · rw [List.filter_cons_of_neg hp]; simp; omega
section
variable {own : Nat → Tag} {w : World} {g mb : Nat} {Ps : List (PA × PG)}
theorem Holds.nodup (h : Holds own w g mb Ps) : Ps.Nodup := by
  have := h.map.apart
  rw [List.pairwise_map] at this
  exact this.imp fun {a b} hne e => hne (by rw [e])
/-- One more is emptied. -/
theorem clear_step {dn : List (PA × PG)} {s : ByteArray} {w' : World} (h : Holds own w g mb (Ps.map (clrIn dn s))) (hnd : Ps.Nodup) {i : Nat} {p : PA × PG} (hp : Ps[i]? = some p) (hnew : p ∉ dn) (hm : ofPort s p.1 = true)
    (hw : w' = w.setCell ⟨p.2.pb, 1, none⟩ (.slice none 0 0)) : Holds own w' g mb (Ps.map (clrIn (dn ++ [p]) s)) ∧ Step own w own w' := by
  have hil := (List.getElem?_eq_some_iff.1 hp).1
  have hq : (Ps.map (clrIn dn s))[i]? = some p := by rw [List.getElem?_map, hp]; show some (clrIn dn s p) = _; rw [clrIn_no (fun e => hnew e.1)]
  have hP := h.pipes i p hq
  have hset : Ps.map (clrIn (dn ++ [p]) s) = (Ps.map (clrIn dn s)).set i (clrG p) := by
    refine List.ext_getElem? fun j => ?_
    rw [List.getElem?_set, List.getElem?_map, List.length_map]
    by_cases hij : i = j
    · subst hij
      rw [if_pos rfl, if_pos hil, hp]
      show some (clrIn (dn ++ [p]) s p) = _
      rw [clrIn_yes ⟨by simp, hm⟩]
    · rw [if_neg hij, List.getElem?_map]
      cases hj : Ps[j]? with
      | none => rfl
      | some x =>
        have hx : x ≠ p := fun e => by
          subst e
          have hjl := (List.getElem?_eq_some_iff.1 hj).1
          refine absurd (List.pairwise_iff_getElem.1 hnd) (fun hpw => ?_)
          rcases Nat.lt_or_gt_of_ne hij with hlt | hlt
          · exact hpw i j hil hjl hlt (by rw [(List.getElem?_eq_some_iff.1 hp).2, (List.getElem?_eq_some_iff.1 hj).2])
          · exact hpw j i hjl hil hlt (by rw [(List.getElem?_eq_some_iff.1 hp).2, (List.getElem?_eq_some_iff.1 hj).2])
        show some (clrIn (dn ++ [p]) s x) = some (clrIn dn s x)
        by_cases hxd : x ∈ dn ∧ ofPort s x.1 = true
        · rw [clrIn_yes hxd, clrIn_yes ⟨by simp [hxd.1], hxd.2⟩]
        · rw [clrIn_no hxd, clrIn_no (fun e => hxd ⟨by have := e.1; simp [hx] at this; exact this, e.2⟩)]
  have hother : ∀ b t, own b = .p t → t.of ≠ some i → own b = .p t ∧ w'.heap[b]? = w.heap[b]? := fun b t ht hof => by
    refine ⟨ht, ?_⟩
    rw [hw]
    refine Below.heap_setCell _ _ _ _ (fun e => hof ?_)
    have : own b = .p (.pipe i) := by have := hP.boxOwn; rw [show b = p.2.pb from e]; exact this
    rw [ht] at this; cases this; rfl
  have hsz : w'.heap.size = w.heap.size := by rw [hw]; simp [World.setCell]
  have hkx : KeepX p.2.pb w w' := by rw [hw]; exact KeepX.set _ _ _ _
  refine ⟨?_, ⟨hkx.os, hkx.tape, hkx.output, hkx.size, fun b hb hn => hkx.block b hb (fun e => hn (.pipe i) (by rw [e]; exact hP.boxOwn)), fun _ _ _ => rfl⟩⟩
  rw [hset]
  refine h.turned hq rfl hother ?_ (fun b hb => h.fresh b (by rw [← hsz]; exact hb))
  refine ⟨?_, hP.boxOwn, ⟨rfl, Or.inl ⟨rfl, rfl⟩⟩, (fun b hb => by cases hb), rfl, (fun j v l hj => by simp [clrG] at hj), hP.most1, hP.most2, Nat.zero_le _, (fun l hl => by cases hl), hP.fsz, hP.tsz⟩
  rw [hw]
  exact (heap_setCell_any w _ 1 _ _ _ _ hP.box).trans rfl
theorem clear_skip {dn : List (PA × PG)} {s : ByteArray} {p : PA × PG} (hm : ¬ ofPort s p.1 = true) : Ps.map (clrIn (dn ++ [p]) s) = Ps.map (clrIn dn s) := by
  refine List.map_congr_left fun x _ => ?_
  by_cases hxd : x ∈ dn ∧ ofPort s x.1 = true
  · rw [clrIn_yes hxd, clrIn_yes ⟨by simp [hxd.1], hxd.2⟩]
  · rw [clrIn_no hxd, clrIn_no (fun e => ?_)]
    rcases List.mem_append.1 e.1 with h | h
    · exact hxd ⟨h, e.2⟩
    · rw [List.mem_singleton.1 h] at e; exact hm e.2
theorem step_grown {wr w1 : World} {r : Nat} (h : Step own w own wr) (hg : wr.grownBy w1 (some r)) (hr : w.heap.size ≤ r) : Step own w own w1 :=
  ⟨hg.os.trans h.os, hg.tape.trans h.tape, hg.output.trans h.output, Nat.le_trans h.size hg.size, fun b hb hn => (hg.block b (Nat.lt_of_lt_of_le hb h.size) (fun e => by cases e; omega)).trans (h.block b hb hn), h.tags⟩
theorem str_eq_b {f t : ByteArray} (h : f = t) : (f.toList == t.toList) = true := by subst h; simp
def ClearEnd (own : Nat → Tag) (w : World) (g mb : Nat) (Ps : List (PA × PG)) (s : ByteArray) (e : Ending) (w' : World) : Prop :=
  ∃ own' Ps', e = .returned (.int .i64 (clearN s (Ps.map Prod.fst) : Int)) ∧ Holds own' w' g mb Ps' ∧ Ps'.map Prod.fst = (Ps.map Prod.fst).map (clrA s) ∧ Step own w own' w'
set_option maxHeartbeats 1000000 in
theorem cClear (h : Holds own w g mb Ps) (hn : Ps.length ≤ 1000000) (s : ByteArray) : Calls Try.prog 18 #[.pointer (some ⟨g, 0, none⟩), .string s] w (ClearEnd own w g mb Ps s) := by
  have hc := h.cell
  have hnd := Lib.hid h.nodup
  have H := Lib.hid h
  have hmap : Hid (MapIs Try.prog 52 w mb (Ps.map entry)) := h.map
  clear h
  obtain ⟨R, hR⟩ : ∃ R : Value → World → Prop, R = fun v wr => ∃ dn Rs : List (PA × PG), (dn ++ Rs).Perm Ps ∧ RangeIs Try.prog 52 wr mb w.heap.size (Ps.map entry) (Rs.map entry) ∧ Holds own wr g mb (Ps.map (clrIn dn s)) ∧ Step own w own wr ∧
    w.heap.size + 1 ≤ wr.heap.size ∧ v = .int .i64 (clearN s (dn.map Prod.fst) : Int) := ⟨_, rfl⟩
  have HR := Lib.hid hR
  clear hR
  go_enter Try.func18, Try.ntmps18
  go_wp2_with (first
    | (at_range; refine wpList_range_is _ rfl _ 42 rfl 52 54 Try.underlying42 mb _ rfl hmap.out w.heap.size (by simp) ?_; intro w0 hrg hgr hsz; go_frame)
    | fail)
  go_loopw [5] (fun v wr => R v wr) (fun _ wr => wr.rangeLeft mb w.heap.size)
  case atStart =>
    rw [HR.out]
    have hb : Below w.heap.size w w0 := (Below.refl _ _).grown hgr (Nat.le_refl _) (fun k hk => by cases hk)
    have e : Ps.map (clrIn [] s) = Ps := by
      refine (List.map_congr_left (g := id) fun p _ => ?_).trans (List.map_id _)
      exact clrIn_no (fun e => by simp at e)
    exact ⟨[], Ps, by simp, hrg, by rw [e]; exact H.out.on hb, Step.of_below hb, by omega, rfl⟩
  case round =>
    rw [HR.out] at hrel
    obtain ⟨dn, Rs, hperm, hrg, hh, hst, hsz2, rfl⟩ := hrel
    have HP := Lib.hid hperm
    clear hperm
    go_wp2_with (first
      | (at_next; refine wpList_next_ty _ (fun p : PA × PG => .agg #[.string p.1.f, .string p.1.t]) (fun p => .pointer (some ⟨p.2.pb, 0, none⟩)) Ps Rs rfl _ rfl 52 mb w.heap.size rfl hrg ?_ ?_)
      | fail)
    · intro hrem
      have hperm : Hid (dn.Perm Ps) := by
        have := HP.out
        rwa [hrem, List.append_nil] at this
      clear hrem
      go_wp2
      go_ret
      exact ⟨own, _, ret_int (by rw [clearN_perm s (hperm.out.map Prod.fst)]), hh, clrIn_all hperm.out, hst⟩
    · intro A B pa pg w1 hA hrg1 hg1 hs1 hen
      have hmem : (pa, pg) ∈ Ps := by
        have := HP.out.mem_iff (a := (pa, pg))
        rw [hA] at this
        exact this.1 (by simp)
      replace hrg1 : RangeIs Try.prog 52 w1 mb w.heap.size (Ps.map entry) ((A ++ B).map entry) := by rw [List.map_append]; exact hrg1
      have hnew : (pa, pg) ∉ dn := fun e => by
        have hd : (dn ++ Rs).Nodup := (HP.out.nodup_iff).2 hnd.out
        rw [hA] at hd
        exact (List.nodup_append.1 hd).2.2 _ e _ (by simp) rfl
      obtain ⟨i, hi⟩ := List.getElem?_of_mem hmem
      have HA := Lib.hid hA
      have HS1 := Lib.hid hs1
      have HI := Lib.hid hi
      clear hA hs1 hi
      have hh1 : Holds own w1 g mb (Ps.map (clrIn dn s)) := hh.kept (fun b t ht => ⟨ht, hg1.block b (own_lt hh.fresh ht) (fun e => by cases e; rw [H.out.fresh _ (Nat.le_refl _)] at ht; cases ht)⟩) (fun b hb => hh.fresh b (by have := HS1.out; omega))
      have hst1 := step_grown hst hg1 (Nat.le_refl _)
      have hP := hh1.pipes i (pa, pg) (by rw [List.getElem?_map, HI.out]; show some (clrIn dn s (pa, pg)) = _; rw [clrIn_no (fun e => hnew e.1)])
      obtain ⟨sa, sc, hsv, _⟩ := row_form hP.row
      obtain ⟨_, pc1, pf1⟩ := hP.cells
      rw [hsv] at pc1
      have pb1 : pg.pb < w1.heap.size := own_lt hh1.fresh hP.boxOwn
      clear hsv
      have hq64 : pa.q.length ≤ 64 := Nat.le_trans hP.fits hP.most2
      have hcb : clearN s (dn.map Prod.fst) ≤ 64000000 := by
        have h1 := clearN_le s (dn.map Prod.fst) (fun x hx => by
          obtain ⟨p, hp, rfl⟩ := List.mem_map.1 hx
          obtain ⟨j, hj⟩ := List.getElem?_of_mem (HP.out.mem_iff.1 (List.mem_append_left _ hp))
          have hP' := H.out.pipes j p hj
          exact Nat.le_trans hP'.fits hP'.most2)
        have h2 := HP.out.length_eq
        rw [List.length_append] at h2
        rw [List.length_map] at h1
        omega
      have hperm2 : Hid ((dn ++ [(pa, pg)] ++ (A ++ B)).Perm Ps) := by
        refine List.Perm.trans ?_ HP.out
        rw [HA.out, List.append_assoc]
        refine List.Perm.append_left _ ?_
        show ((pa, pg) :: (A ++ B)).Perm (A ++ (pa, pg) :: B)
        exact List.perm_middle.symm
      have hmlt := hrg1.map.lt
      have hrlt := hrg1.lt
      have HLEN := Lib.hid hrg.left_eq
      have hh2 : Hid (Holds own (w1.alloc (.cells #[.string pa.f, .string pa.t] 52)) g mb (Ps.map (clrIn dn s))) := hh1.on (Below.alloc1 _ _)
      have hst2 : Hid (Step own w own (w1.alloc (.cells #[.string pa.f, .string pa.t] 52))) := hst1.trans (Step.of_below (Below.alloc1 _ _))
      have hrg2 : Hid (RangeIs Try.prog 52 (w1.alloc (.cells #[.string pa.f, .string pa.t] 52)) mb w.heap.size (Ps.map entry) ((A ++ B).map entry)) := hrg1.kept ((MapKept.heap_alloc _ _).2 _ hmlt) ((MapKept.heap_alloc _ _).2 _ hrlt)
      have hmbpb : mb ≠ pg.pb := fun e => by have h1 := hh1.mapOwn; have h2 := hP.boxOwn; rw [e] at h1; rw [h1] at h2; cases h2
      have hrpb : w.heap.size ≠ pg.pb := fun e => by have h1 := H.out.fresh _ (Nat.le_refl _); have h2 := hP.boxOwn; rw [e] at h1; rw [h1] at h2; cases h2
      clear hst hst1 hh hh1 hP hrg hrg1
      have hyes : ∀ (_ : ofPort s pa = true) (w3 : World), w3 = (w1.setCell ⟨pg.pb, 1, none⟩ (.slice none 0 0)).alloc (.cells #[.string pa.f, .string pa.t] 52) → ∀ v, v = .int .i64 ((clearN s (dn.map Prod.fst) : Int) + (pa.q.length : Int)) → R v w3 ∧ w3.rangeLeft mb w.heap.size < wr.rangeLeft mb w.heap.size := fun hm w3 hw3 v hv => by
        rw [← World.setCell_alloc_past _ _ _ _ pb1] at hw3
        obtain ⟨k1, k2⟩ := clear_step hh2.out hnd.out HI.out hnew hm hw3
        have k3 : RangeIs Try.prog 52 w3 mb w.heap.size (Ps.map entry) ((A ++ B).map entry) := hrg2.out.kept (by rw [hw3]; exact Below.heap_setCell _ _ _ _ hmbpb) (by rw [hw3]; exact Below.heap_setCell _ _ _ _ hrpb)
        refine ⟨?_, by rw [k3.left_eq, HLEN.out, HA.out]; simp⟩
        rw [HR.out]
        refine ⟨dn ++ [(pa, pg)], A ++ B, hperm2.out, k3, k1, hst2.out.trans k2, by have := k2.size; simp at this; have := HS1.out; omega, ?_⟩
        rw [hv, List.map_append]
        show _ = Value.int .i64 ((clearN s (dn.map Prod.fst ++ [pa]) : Nat) : Int)
        rw [clearN_snoc, if_pos hm, Int.natCast_add]
      have HY := Lib.hid hyes
      clear hyes
      have hno : ∀ (_ : ¬ ofPort s pa = true), R (.int .i64 (clearN s (dn.map Prod.fst) : Int)) (w1.alloc (.cells #[.string pa.f, .string pa.t] 52)) ∧ (w1.alloc (.cells #[.string pa.f, .string pa.t] 52)).rangeLeft mb w.heap.size < wr.rangeLeft mb w.heap.size := fun hm => by
        refine ⟨?_, by rw [hrg2.out.left_eq, HLEN.out, HA.out]; simp⟩
        rw [HR.out]
        refine ⟨dn ++ [(pa, pg)], A ++ B, hperm2.out, hrg2.out, by rw [clear_skip hm]; exact hh2.out, hst2.out, by have := HS1.out; simp; omega, ?_⟩
        rw [List.map_append]
        show _ = Value.int .i64 ((clearN s (dn.map Prod.fst ++ [pa]) : Nat) : Int)
        rw [clearN_snoc, if_neg hm, Nat.add_zero]
      have HN := Lib.hid hno
      clear hno
      have hc0 : (0 : Int) ≤ (clearN s (dn.map Prod.fst) : Int) := by omega
      have hc1 : (clearN s (dn.map Prod.fst) : Int) ≤ 64000000 := by omega
      have hq2 : (pa.q.length : Int) ≤ 64 := by omega
      by_cases h1 : pa.f = s
      · have e1 := str_eq_b h1
        have hm : ofPort s pa = true := by unfold ofPort; rw [decide_eq_true h1]; rfl
        have HM := Lib.hid hm
        clear hm h1
        go_wp2
        go_roundw
        case rel => exact (HY.out HM.out _ rfl _ rfl).1
        case measure => exact (HY.out HM.out _ rfl _ rfl).2
      · have e1 := str_ne_b h1
        by_cases h2 : pa.t = s
        · have e2 := str_eq_b h2
          have hm : ofPort s pa = true := by unfold ofPort; rw [decide_eq_true h2, Bool.or_true]
          have HM := Lib.hid hm
          clear hm h1 h2
          go_wp2
          go_roundw
          case rel => exact (HY.out HM.out _ rfl _ rfl).1
          case measure => exact (HY.out HM.out _ rfl _ rfl).2
        · have e2 := str_ne_b h2
          have hm : ¬ ofPort s pa = true := by unfold ofPort; rw [decide_eq_false h1, decide_eq_false h2]; simp
          have HM := Lib.hid hm
          clear hm h1 h2
          go_wp2
          go_roundw
          case rel => exact (HN.out HM.out).1
          case measure => exact (HN.out HM.out).2
end
end Go.Proofs.Ytfmphhcdbocgnaa.Pipe
