/-
  The document's Take.
-/
import Derived.Test.YtfmphhcdbocgnaaRefSend2
import Derived.Test.YtfmphhcdbocgnaaRefWith
import Derived.Test.YtfmphhcdbocgnaaPipeTake
namespace Go.Proofs.Ytfmphhcdbocgnaa.Pipe
open Go.RowKit Base
attribute [local go_sem ↓] Go.wp_at_zero Go.wp_at_succ
section
variable {own : Nat → Tag} {w : World} {g : Nat} {rv : Value} {Rs : List (PA × RG)} {f t : ByteArray}
def RTookEnd (own : Nat → Tag) (w : World) (g : Nat) (Rs : List (PA × RG)) (i : Nat) (p : PA × RG) (l : List UInt8) (q : List (List UInt8)) (e : Ending) (w' : World) : Prop :=
  ∃ v own' rv' G', e = .returned (.tuple #[v, .int .i64 0]) ∧ RHolds own' w' g rv' (Rs.set i ({ p.1 with q := q }, G')) ∧ StepR own w own' w' ∧ Owns w' 0 v l ∧ ∀ b, v.ownBlock = some b → own' b = .r .msg
theorem rtake_done {rb c : Nat} (h : RHolds own w g (.slice (some ⟨rb, 0, none⟩) Rs.length c) Rs) {i : Nat} {p : PA × RG} (hp : Rs[i]? = some p) {l : List UInt8} {q : List (List UInt8)} (hq : p.1.q = l :: q) {v0 : Value} {vs : List Value} (hvs : p.2.vs = v0 :: vs)
    {w1 : World} {v1 : Value} (b1 : Below w.heap.size w w1) (hrow : w1.ownsRow w.heap.size 29 1 v1 q.length vs) :
    ∃ own' rv' G', RHolds own' (w1.setCell ⟨rb, i * 4 + 3, none⟩ v1) g rv' (Rs.set i ({ p.1 with q := q }, G')) ∧ StepR own w own' (w1.setCell ⟨rb, i * 4 + 3, none⟩ v1) ∧ Owns (w1.setCell ⟨rb, i * 4 + 3, none⟩ v1) 0 v0 l ∧ ∀ b, v0.ownBlock = some b → own' b = .r .msg := by
  have hP := h.pipes i p hp
  have hrb : own rb = .r .row := h.rowOwn rb rfl
  have hv1 : ∀ b, v1.ownBlock = some b → w.heap.size ≤ b ∧ b < w1.heap.size := fun b hb => ⟨(hrow.lt b hb).1, (hrow.lt b hb).2⟩
  have hs1 := b1.size
  obtain ⟨own', hown'⟩ : ∃ own' : Nat → Tag, own' = fun b => if b < w.heap.size then own b else if v1.ownBlock = some b then .r (.lrow i) else .no := ⟨_, rfl⟩
  have ho1 : ∀ b, b < w.heap.size → own' b = own b := fun b hb => by rw [hown']; exact if_pos hb
  have ho2 : ∀ b, v1.ownBlock = some b → own' b = .r (.lrow i) := fun b hb => by rw [hown']; have := hv1 b hb; show (if _ then _ else _) = _; rw [if_neg (by omega), if_pos hb]
  have ho4 : ∀ b, w1.heap.size ≤ b → own' b = .no := fun b hb => by
    rw [hown']; show (if _ then _ else _) = _
    rw [if_neg (by omega), if_neg (fun e => by have := (hv1 _ e).2; omega)]
  have hkx : KeepX rb w1 (w1.setCell ⟨rb, i * 4 + 3, none⟩ v1) := KeepX.set _ _ _ _
  have hmsg : ∀ (j : Nat) (v : Value) (l' : List UInt8), p.2.vs[j]? = some v → p.1.q[j]? = some l' → Owns w1 0 v l' ∧ ∀ b, v.ownBlock = some b → own' b = .r .msg := fun j v l' h1 h2 => by
    obtain ⟨m1, m2⟩ := hP.msgs j v l' h1 h2
    exact ⟨Owns.keptO m1 fun b hb => b1.block b (own_ltR h.fresh (m2 b hb)), fun b hb => by rw [ho1 b (own_ltR h.fresh (m2 b hb))]; exact m2 b hb⟩
  obtain ⟨m0, m1⟩ := hmsg 0 v0 l (by rw [hvs]; rfl) (by rw [hq]; rfl)
  refine ⟨own', _, ⟨v1, vs⟩, h.turned hp (fun b t ht hne => ?_) ho4 (row_mono hrow (Nat.zero_le _)) ho2 ?_ (fun j v l' hj hj' => ?_), ?_, ?_, m1⟩
  · have hb := own_ltR h.fresh ht
    exact ⟨by rw [ho1 b hb]; exact ht, b1.block b hb⟩
  · have := hP.len; rw [hvs, hq] at this; simpa using this
  · exact hmsg (j + 1) v l' (by rw [hvs]; exact hj) (by rw [hq]; exact hj')
  · refine ⟨hkx.os.trans b1.os, hkx.tape.trans b1.tape, hkx.output.trans b1.output, Nat.le_trans b1.size hkx.size, fun b hb hn => ?_, fun b hb _ => ho1 b hb⟩
    rw [hkx.block b (by omega) (fun e => hn .row (by rw [e]; exact hrb)), b1.block b hb]
  · refine Owns.keptO m0 fun b hb => Below.heap_setCell _ _ _ _ (fun e => ?_)
    have h1 := m1 b hb
    rw [show b = rb from e, ho1 rb (own_ltR h.fresh hrb), hrb] at h1
    cases h1
theorem rTakeNo (h : RHolds own w g rv Rs) (f t : ByteArray) (hno : ∀ q ∈ Rs, ¬ (q.1.f = f ∧ q.1.t = t)) (hn : Rs.length ≤ 1000000) :
    Calls Try.prog 17 #[.pointer (some ⟨g, 0, none⟩), .string f, .string t] w (NoneEnd 52 w) := by
  have HPL := Lib.hid (cPlaceNo h f t hno hn)
  clear h hno
  go_enter Try.func17, Try.ntmps17
  go_wp2_with (go_at_call 30; refine HPL.out.mono ?_; rintro e w1 ⟨rfl, rfl⟩)
  go_ret2
  exact ⟨rfl, rfl⟩
theorem rTakeEmpty (h : RHolds own w g rv Rs) (hk : KeysApart (Rs.map Prod.fst)) {i : Nat} {p : PA × RG} (hp : Rs[i]? = some p) (hn : Rs.length ≤ 1000000) (he : p.1.q = []) :
    Calls Try.prog 17 #[.pointer (some ⟨g, 0, none⟩), .string p.1.f, .string p.1.t] w (NoneEnd 54 w) := by
  have HPL := Lib.hid (cPlace h hp (apart_first hk hp) hn)
  obtain ⟨hc, _⟩ := h.cell
  obtain ⟨rb, c, hrv, hil, hlc, d0, d1, d2, d3, _⟩ := h.at hp
  obtain ⟨la, lc, hlv, _⟩ := row_form (h.pipes i p hp).row
  subst hrv
  rw [hlv, he] at d3
  clear h hk hp hlv he
  go_enter Try.func17, Try.ntmps17
  go_wp2_with (go_at_call 30; refine HPL.out.mono ?_; rintro e w1 ⟨rfl, rfl⟩)
  go_ret2
  exact ⟨rfl, rfl⟩
theorem vals_one {B : Nat} {ls : List (List UInt8)} {vs : List Value} (h : ∀ (j : Nat) (v : Value) (l : List UInt8), vs[j]? = some v → ls[j]? = some l → Owns w B v l) (hl : vs.length = ls.length) : ∀ u ∈ vs, u.oneCell' = true := fun v hv => by
  obtain ⟨j, hj⟩ := List.getElem?_of_mem hv
  have hjl : j < ls.length := by rw [← hl]; exact (List.getElem?_eq_some_iff.1 hj).1
  obtain ⟨A, k, rfl⟩ := (h j v _ hj (List.getElem?_eq_getElem hjl)).reads.form
  rfl
set_option maxHeartbeats 8000000 in
set_option maxRecDepth 100000 in
theorem rTakeOk (h : RHolds own w g rv Rs) (hk : KeysApart (Rs.map Prod.fst)) (hn : Rs.length ≤ 1000000) {i : Nat} {p : PA × RG} (hp : Rs[i]? = some p) {l : List UInt8} {q : List (List UInt8)} (hq : p.1.q = l :: q) (hql : q.length ≤ 64) :
    Calls Try.prog 17 #[.pointer (some ⟨g, 0, none⟩), .string p.1.f, .string p.1.t] w (RTookEnd own w g Rs i p l q) := by
  obtain ⟨i0, hi0, hz0, hz1, hz2⟩ := info_parts info29
  have HPL := Lib.hid (cPlace h hp (apart_first hk hp) hn)
  obtain ⟨hc, _⟩ := h.cell
  have hglt := own_ltR h.fresh h.rootOwn
  obtain ⟨rb, c, hrv, hil, hlc, d0, d1, d2, d3, dz, drb, drlt⟩ := h.at hp
  subst hrv
  have hP := h.pipes i p hp
  have hlen : p.1.q.length = q.length + 1 := by rw [hq]; rfl
  obtain ⟨v0, vs, hvs⟩ : ∃ v0 vs, p.2.vs = v0 :: vs := by
    have := hP.len
    cases hv : p.2.vs with
    | nil => rw [hv, hq] at this; simp at this
    | cons a b => exact ⟨a, b, rfl⟩
  obtain ⟨A0, k0, hv0⟩ := (hP.msgs 0 v0 l (by rw [hvs]; rfl) (by rw [hq]; rfl)).1.reads.form
  subst hv0
  have hvl : vs.length = q.length := by have := hP.len; rw [hvs, hq] at this; simpa using this
  have hone := vals_one (w := w) (B := 0) (ls := q) (vs := vs) (fun j v l' hj hj' => (hP.msgs (j + 1) v l' (by rw [hvs]; exact hj) (by rw [hq]; exact hj')).1) hvl
  have hrow := hP.row
  obtain ⟨lb, lc, hlv⟩ : ∃ b c, p.2.lv = .slice (some ⟨b, 0, none⟩) p.1.q.length c := by
    rcases hrow.2 with ⟨_, hn⟩ | ⟨g, cap, cur, hx, _⟩
    · omega
    · exact ⟨g, cap, hx⟩
  obtain ⟨_, _, hcc, hlcc⟩ := row_form hrow
  rw [hlv] at hcc
  cases hcc
  have HD := Lib.hid (fun w1 v1 => @rtake_done own w g Rs rb c h i p hp l q hq _ vs hvs w1 v1)
  have hlbo : own lb = .r (.lrow i) := hP.rowOwn lb (by rw [hlv]; rfl)
  have hlblt := own_ltR h.fresh hlbo
  rw [hlv, hvs] at hrow
  rw [hlv] at d3
  have hv := VReads.of_row hrow
  have cel : w.cell? ⟨lb, 0, none⟩ = some (.slice A0 l.length k0) := by
    have := World.ownsRow.cellAt hrow 0 (by omega)
    simpa using this
  rw [hlen] at d3 hv hlcc
  have hd := VReads.drop hv (k := 1) (by simp)
  have HF := Lib.hid (dz (i * 4 + 3))
  have i0' : (0 : Int) ≤ (i : Int) := by omega
  have i1 : (i : Int) < (Rs.length : Int) := by omega
  obtain ⟨A, hA, HV2⟩ : ∃ A : Addr, (if lc = 1 then some (⟨lb, 0, none⟩ : Addr) else some ⟨lb, 1, none⟩) = some A ∧ Hid (VReads (w.drew.alloc (.cells #[] 29)) (.slice (some A) q.length (lc - 1)) vs) := by
    have hd2 : VReads (w.drew.alloc (.cells #[] 29)) _ _ := hd.kept fun b _ hb => (MapKept.heap_alloc w.drew _).2 b hb
    by_cases h1 : lc = 1
    · rw [if_pos h1, Nat.add_sub_cancel] at hd2
      exact ⟨⟨lb, 0, none⟩, by rw [if_pos h1], hd2⟩
    · rw [if_neg h1, Nat.add_sub_cancel] at hd2
      exact ⟨⟨lb, 1, none⟩, by rw [if_neg h1], hd2⟩
  have HO := Lib.hid hone
  have HVL := Lib.hid hvl
  clear hrow hone hlen hvs hq hlv hlbo hP hp h hk hv hd hvl dz drb
  have q0 : (0 : Int) < (q.length : Int) + 1 := by omega
  have q1 : (((q.length : Int) + 1) == 0) = false := by rw [beq_eq_false_iff_ne]; omega
  have q2 : (1 : Int) ≤ (q.length : Int) + 1 := by omega
  have q3 : (q.length : Int) + 1 ≤ (lc : Int) := by omega
  go_enter Try.func17, Try.ntmps17
  go_wp2_with (go_at_call 30; refine HPL.out.mono ?_; rintro e w1 ⟨rfl, rfl⟩)
  have c3 : w.drew.cell? ⟨g, 0, none⟩ = some (.slice (some ⟨rb, 0, none⟩) Rs.length c) := hc
  have d3' : w.drew.cell? ⟨rb, i * 4 + 3, none⟩ = some (.slice (some ⟨lb, 0, none⟩) (q.length + 1) lc) := d3
  have f1 : (w.drew.alloc (.cells #[] 29)).cell? ⟨rb, i * 4 + 3, none⟩ = some (.slice (some ⟨lb, 0, none⟩) (q.length + 1) lc) := World.cell_alloc_old d3' _
  have f2 : (w.drew.alloc (.cells #[] 29)).cell? ⟨g, 0, none⟩ = some (.slice (some ⟨rb, 0, none⟩) Rs.length c) := World.cell_alloc_old c3 _
  obtain ⟨v1, w1, hr1, o1, g1, _⟩ := run_append_row (P := Try.prog) (w.drew.alloc (.cells #[] 29)) w.heap.size 33 33 29 i0 (.slice none 0 0) 24 Try.underlying33 hi0 hz0 hz1 hz2 rfl (.slice (some ⟨w.heap.size, 0, none⟩) 0 0) (.slice (some A) q.length (lc - 1)) 0 [] vs (World.ownsRow_lit w.drew #[] 0 (Nat.le_refl _) (by decide) rfl) HV2.out HO.out (by rw [HVL.out]; omega) (by rw [HVL.out]; omega) (by simp)
  have bb1 : Below w.heap.size w w1 := ((below_drewN _ _ 1).trans (Below.alloc1 _ _)).grown g1 (by simp) (fun k hk => by cases hk; exact Nat.le_refl _)
  have o2 : w1.ownsRow w.heap.size 29 1 v1 q.length vs := by
    have := o1
    rw [Nat.zero_add, List.nil_append, HVL.out] at this
    exact this
  obtain ⟨a1, k1, hv1, _⟩ := row_form o2
  subst hv1
  have e1 : w1.cell? ⟨g, 0, none⟩ = some (.slice (some ⟨rb, 0, none⟩) Rs.length c) := (bb1.cell (p := ⟨g, 0, none⟩) hglt).trans hc
  have e2 : w1.cell? ⟨rb, i * 4 + 3, none⟩ = some (.slice (some ⟨lb, 0, none⟩) (q.length + 1) lc) := (bb1.cell (p := ⟨rb, i * 4 + 3, none⟩) drlt).trans d3
  have e3 : w1.frozen? ⟨rb, i * 4 + 3, none⟩ = false := (World.frozen?_of_block (bb1.block rb drlt)).trans HF.out
  have HFIN := Lib.hid (HD.out w1 _ bb1 o2)
  have HR1 := Lib.hid hr1
  clear hr1 o1 g1 bb1 o2
  go_region_law
    (refine step_append_run rfl (.tmp 43) (.tmp 52) 33 rfl _ _ _ _ (by simp [Act.eval, Act.put]) (by simp [Act.eval, Act.put]) 33 rfl HR1.out ?_)
  all_goals
    go_wp2
    go_ret2
    obtain ⟨own', rv', G', x1, x2, x3, x4⟩ := HFIN.out
    exact ⟨_, own', rv', G', rfl, x1, x2, x3, x4⟩
end
end Go.Proofs.Ytfmphhcdbocgnaa.Pipe
