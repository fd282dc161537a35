/-
  The document's Send: the walk.
-/
import Derived.Test.YtfmphhcdbocgnaaRefSend2
import Derived.Test.YtfmphhcdbocgnaaPipeOrdW
import Derived.Deep.RegionHeld3
namespace Go.Proofs.Ytfmphhcdbocgnaa.Pipe
open Go.RowKit Base
attribute [local go_sem ↓] Go.wp_at_zero Go.wp_at_succ
section
variable {own : Nat → Tag} {w : World} {g : Nat} {rv : Value} {Rs : List (PA × RG)} {f t : ByteArray}
set_option maxHeartbeats 40000000 in
set_option maxRecDepth 100000 in
set_option linter.unusedSimpArgs false in
theorem rSendOk (h : RHolds own w g rv Rs) (hk : KeysApart (Rs.map Prod.fst)) (hn : Rs.length ≤ 1000000) {i : Nat} {p : PA × RG} (hp : Rs[i]? = some p) {v : Value} {l : List UInt8} (hr : Reads w v l) (hl : l.length ≤ 65536) (hm : p.1.most ≤ 64) (hroom : p.1.q.length < p.1.most) :
    Calls Try.prog 16 #[.pointer (some ⟨g, 0, none⟩), .string p.1.f, .string p.1.t, v] w (RSentEnd own w g Rs i p l) := by
  obtain ⟨i0, hi0, hz0, hz1, hz2⟩ := info_parts info29
  have HPL := Lib.hid (cPlace h hp (apart_first hk hp) hn)
  obtain ⟨hc, _⟩ := h.cell
  have HG := Lib.hid (own_ltR h.fresh h.rootOwn)
  obtain ⟨rb, c, hrv, hil, hlc, d0, d1, d2, d3, dz, drb, drlt⟩ := h.at hp
  subst hrv
  have HD := Lib.hid (fun (w1 w2 : World) (v1 : Value) (g2 cap2 : Nat) => @rsend_done own w g Rs rb c h i p hp l w1 w2 v1 g2 cap2)
  have hP := h.pipes i p hp
  obtain ⟨la, lc, hlv, _⟩ := row_form hP.row
  have hrow := Lib.hid hP.row
  have hlvb : Hid (∀ b, (Value.slice la p.1.q.length lc).ownBlock = some b → b ≠ rb) := fun b hb e => by
    rw [← hlv] at hb
    have := hP.rowOwn b hb
    rw [e, drb] at this; cases this
  have HLG : Hid (∀ b, (Value.slice la p.1.q.length lc).ownBlock = some b → b ≠ g) := fun b hb e => by
    rw [← hlv] at hb
    have := hP.rowOwn b hb
    rw [e, h.rootOwn] at this; cases this
  have HNE : Hid (g ≠ rb) := fun e => by have h1 := h.rootOwn; rw [e, drb] at h1; cases h1
  rw [hlv] at d3 hrow
  have HD2 : Hid (∀ (w1 w2 : World) (v1 : Value) (g2 cap2 : Nat), Below w.heap.size w w1 → Owns w1 w.heap.size v1 l → w2.ownsRow 0 29 1 (.slice (some ⟨g2, 0, none⟩) (p.1.q.length + 1) cap2) (p.1.q.length + 1) (p.2.vs ++ [v1]) →
    (w1.alloc (.cells #[v1] 29)).grownBy w2 (Value.slice la p.1.q.length lc).ownBlock → ((Value.slice la p.1.q.length lc).ownBlock = some g2 ∨ g2 = w1.heap.size + 1) → g2 < w2.heap.size →
    ∃ own' rv' G', RHolds own' (w2.setCell ⟨rb, i * 4 + 3, none⟩ (.slice (some ⟨g2, 0, none⟩) (p.1.q.length + 1) cap2)) g rv' (Rs.set i ({ p.1 with q := p.1.q ++ [l] }, G')) ∧ StepR own w own' (w2.setCell ⟨rb, i * 4 + 3, none⟩ (.slice (some ⟨g2, 0, none⟩) (p.1.q.length + 1) cap2))) := by
    rw [← hlv]; exact HD.out
  obtain ⟨va, vc, hv⟩ := hr.form
  subst hv
  have HR : Hid (∀ n, Reads ((w.drewN n).alloc (.cells #[] 5)) (.slice va l.length vc) l) := fun n => (hr.on (below_drewN _ _ n)).on (Below.alloc1 _ _)
  have df := dz (i * 4 + 3)
  have i0' : (0 : Int) ≤ (i : Int) := by omega
  have i1 : (i : Int) < (Rs.length : Int) := by omega
  have DZ := Lib.hid df
  clear h hk hp hlv hP hr dz HD df
  go_enter Try.func16, Try.ntmps16
  go_wp2_with (go_at_call 30; refine HPL.out.mono ?_; rintro e w1 ⟨rfl, rfl⟩)
  go_quiet (fail)
  go_wp2_with fail
  obtain ⟨v1, w1, hr1, o1, bb0⟩ := run_append_reads ((w.drewN (nq + 1)).alloc (.cells #[] 5)) w.heap.size 29 (.slice (some ⟨w.heap.size, 0, none⟩) 0 0) (.slice va l.length vc) [] l (owns_new (w.drewN (nq + 1))) (HR.out _) (by simp; omega) (by simp)
  have bb1 : Below w.heap.size w w1 := ((below_drewN _ _ (nq + 1)).trans (Below.alloc1 _ _)).trans bb0
  have ow1 : Owns w1 w.heap.size v1 l := o1
  obtain ⟨A1, k1, hv1⟩ := ow1.reads.form
  subst hv1
  have hglt : g < w.heap.size := HG.out
  have z1 : w.heap.size ≤ w1.heap.size := bb1.size
  have zg : g < w1.heap.size := Nat.lt_of_lt_of_le hglt z1
  have zr : rb < w1.heap.size := Nat.lt_of_lt_of_le drlt z1
  have e1 := (bb1.cell (p := ⟨g, 0, none⟩) hglt).trans hc
  have e2 := (bb1.cell (p := ⟨rb, i * 4 + 3, none⟩) drlt).trans d3
  obtain ⟨g2, cap2, w2, hr2, hown2, hgrow2, hat2, hlt2⟩ := run_append_lies (P := Try.prog) (w1.alloc (.cells #[.slice A1 l.length k1] 29)) 33 33 0 29 i0 (.slice none 0 0) 1 24 Try.underlying33 hi0 hz0 hz1 hz2 rfl (by decide) (.slice la p.1.q.length lc) p.1.q.length p.2.vs (row_old hrow.out bb1) ⟨w1.heap.size, 0, none⟩ 1 1 [.slice A1 l.length k1] rfl (news_one _ _ _) (slice_one _ _ _) (by omega) (by unfold maxLen; omega) (by omega) (Nat.zero_le _) (w1.heap.size + 1) (by simp)
  have e3 : w2.cell? ⟨g, 0, none⟩ = some (.slice (some ⟨rb, 0, none⟩) Rs.length c) := append_cell HLG.out (World.cell_alloc_old e1 _) (by simp; omega) hgrow2
  have e4 : w2.cell? ⟨rb, i * 4 + 3, none⟩ = some (.slice la p.1.q.length lc) := append_cell hlvb.out (World.cell_alloc_old e2 _) (by simp; omega) hgrow2
  have e5 : w2.frozen? ⟨rb, i * 4 + 3, none⟩ = false := append_frozen hlvb.out bb1 drlt DZ.out hgrow2
  have HFIN := Lib.hid (HD2.out w1 w2 _ g2 cap2 bb1 ow1 hown2 hgrow2 hat2 hlt2)
  have HR1 := Lib.hid hr1
  have HR2 := Lib.hid hr2
  clear hr1 hr2 o1 bb0 bb1 ow1 hown2 hgrow2 hat2 hlt2 z1
  have c3 : (w.drewN nq).drew.cell? ⟨g, 0, none⟩ = some (.slice (some ⟨rb, 0, none⟩) Rs.length c) := hc
  have d3' : (w.drewN nq).drew.cell? ⟨rb, i * 4 + 3, none⟩ = some (.slice la p.1.q.length lc) := d3
  have f1 : ((w.drewN (nq + 1)).alloc (.cells #[] 5)).cell? ⟨rb, i * 4 + 3, none⟩ = some (.slice la p.1.q.length lc) := World.cell_alloc_old d3' _
  have f2 : ((w.drewN (nq + 1)).alloc (.cells #[] 5)).cell? ⟨g, 0, none⟩ = some (.slice (some ⟨rb, 0, none⟩) Rs.length c) := World.cell_alloc_old c3 _
  have f3 : (w1.alloc (.cells #[.slice A1 l.length k1] 29)).cell? ⟨rb, i * 4 + 3, none⟩ = some (.slice la p.1.q.length lc) := World.cell_alloc_old e2 _
  have f4 : (w1.alloc (.cells #[.slice A1 l.length k1] 29)).cell? ⟨g, 0, none⟩ = some (.slice (some ⟨rb, 0, none⟩) Rs.length c) := World.cell_alloc_old e1 _
  have k2 : g ≠ rb := HNE.out
  refine wp_region_noPanic ?_
  refine wp_region_held_drew (S := (fun w' => w'.cell? ⟨g, 0, none⟩ = some (.slice (some ⟨rb, 0, none⟩) Rs.length c))) (by kernel_rfl) c3 (fun hHeld => ?_)
  refine wpAnyH_take (i := 0) (v := ?v1) rfl (by kernel_rfl) (by kernel_rfl) (by kernel_rfl) (fun _ _ _ h => h) (Or.inl ⟨by rfl, ?hy1⟩) (by assumption) ?rest1
  case hy1 => (intro w hSw; (try dsimp only at hSw); go_simp; try with_reducible rfl)
  (try simp only [Act.put, List.setIfInBounds_toArray, List.set_cons_zero, List.set_cons_succ])
  refine wpAnyH_take (i := 1) (v := ?v2) rfl (by kernel_rfl) (by kernel_rfl) (by kernel_rfl) (fun _ _ _ h => h) (Or.inl ⟨by rfl, ?hy2⟩) (by assumption) ?rest2
  case hy2 => (intro w hSw; (try dsimp only at hSw); go_simp; try with_reducible rfl)
  (try simp only [Act.put, List.setIfInBounds_toArray, List.set_cons_zero, List.set_cons_succ])
  refine wpAnyH_take (i := 2) (v := ?v3) rfl (by kernel_rfl) (by kernel_rfl) (by kernel_rfl) (fun _ _ _ h => h) (Or.inl ⟨by rfl, ?hy3⟩) (by assumption) ?rest3
  case hy3 => (intro w hSw; (try dsimp only at hSw); go_simp; try with_reducible rfl)
  (try simp only [Act.put, List.setIfInBounds_toArray, List.set_cons_zero, List.set_cons_succ])
  refine wpAnyH_take (i := 3) (v := ?v4) rfl (by kernel_rfl) (by kernel_rfl) (by kernel_rfl) (fun _ _ _ h => h) (Or.inl ⟨by rfl, ?hy4⟩) (by assumption) ?rest4
  case hy4 => (intro w hSw; (try dsimp only at hSw); go_simp; try with_reducible rfl)
  (try simp only [Act.put, List.setIfInBounds_toArray, List.set_cons_zero, List.set_cons_succ])
  refine wpAnyH_take (i := 4) (v := ?v5) rfl (by kernel_rfl) (by kernel_rfl) (by kernel_rfl) (fun _ _ _ h => h) (Or.inl ⟨by rfl, ?hy5⟩) (by assumption) ?rest5
  case hy5 => (intro w hSw; (try dsimp only at hSw); go_simp; try with_reducible rfl)
  (try simp only [Act.put, List.setIfInBounds_toArray, List.set_cons_zero, List.set_cons_succ])
  refine wpAnyH_take (i := 5) (v := ?v6) rfl (by kernel_rfl) (by kernel_rfl) (by kernel_rfl) (fun _ _ _ h => h) (Or.inl ⟨by rfl, ?hy6⟩) (by assumption) ?rest6
  case hy6 => (intro w hSw; (try dsimp only at hSw); go_simp; try with_reducible rfl)
  (try simp only [Act.put, List.setIfInBounds_toArray, List.set_cons_zero, List.set_cons_succ])
  refine wpAnyH_take (i := 6) (v := ?v7) rfl (by kernel_rfl) (by kernel_rfl) (by kernel_rfl) (fun _ _ _ h => h) (Or.inl ⟨by rfl, ?hy7⟩) (by assumption) ?rest7
  case hy7 => (intro w hSw; (try dsimp only at hSw); go_simp; try with_reducible rfl)
  (try simp only [Act.put, List.setIfInBounds_toArray, List.set_cons_zero, List.set_cons_succ])
  refine wpAnyH_take (i := 7) (v := ?v8) rfl (by kernel_rfl) (by kernel_rfl) (by kernel_rfl) (fun _ _ _ h => h) (Or.inl ⟨by rfl, ?hy8⟩) (by assumption) ?rest8
  case hy8 => (intro w hSw; (try dsimp only at hSw); go_simp; try with_reducible rfl)
  (try simp only [Act.put, List.setIfInBounds_toArray, List.set_cons_zero, List.set_cons_succ])
  refine wpAnyH_take (i := 8) (v := ?v9) rfl (by kernel_rfl) (by kernel_rfl) (by kernel_rfl) (fun _ _ _ h => h) (Or.inl ⟨by rfl, ?hy9⟩) (by assumption) ?rest9
  case hy9 => (intro w hSw; (try dsimp only at hSw); go_simp; try with_reducible rfl)
  (try simp only [Act.put, List.setIfInBounds_toArray, List.set_cons_zero, List.set_cons_succ])
  refine wpAnyH_take (i := 9) (v := ?v10) rfl (by kernel_rfl) (by kernel_rfl) (by kernel_rfl) (fun _ _ _ h => h) (Or.inl ⟨by rfl, ?hy10⟩) (by assumption) ?rest10
  case hy10 => (intro w hSw; (try dsimp only at hSw); go_simp; try with_reducible rfl)
  (try simp only [Act.put, List.setIfInBounds_toArray, List.set_cons_zero, List.set_cons_succ])
  refine wpAnyH_take (i := 10) (v := ?v11) rfl (by kernel_rfl) (by kernel_rfl) (by kernel_rfl) (fun _ _ _ h => h) (Or.inl ⟨by rfl, ?hy11⟩) (by assumption) ?rest11
  case hy11 => (intro w hSw; (try dsimp only at hSw); go_simp; try with_reducible rfl)
  (try simp only [Act.put, List.setIfInBounds_toArray, List.set_cons_zero, List.set_cons_succ])
  refine wpAnyH_take (i := 11) (v := ?v12) rfl (by kernel_rfl) (by kernel_rfl) (by kernel_rfl) (fun _ _ _ h => h) (Or.inl ⟨by rfl, ?hy12⟩) (by assumption) ?rest12
  case hy12 => (intro w hSw; (try dsimp only at hSw); go_simp; try with_reducible rfl)
  (try simp only [Act.put, List.setIfInBounds_toArray, List.set_cons_zero, List.set_cons_succ])
  refine wpAnyH_take (i := 14) (v := ?v13) rfl (by kernel_rfl) (by kernel_rfl) (by kernel_rfl) (fun _ _ _ h => h) (Or.inl ⟨by rfl, ?hy13⟩) (by assumption) ?rest13
  case hy13 => (intro w hSw; (try dsimp only at hSw); go_simp; try with_reducible rfl)
  (try simp only [Act.put, List.setIfInBounds_toArray, List.set_cons_zero, List.set_cons_succ])
  refine wpAnyH_ready (rs := [12, 13]) (by kernel_rfl) (by simp) ?_
  refine AllReadyH.cons rfl (fun K hK => ?_) ?_
  · go_simp
    refine hK.out _ _ (by (first | exact c3 | exact f2 | exact e1 | exact f4 | exact e3 | exact (World.cell?_setCell_far _ _ _ _ (fun e => k2 e.symm)).trans e3)) (fun hHeld => ?_)
    clear hK K
    (try simp only [Act.put, List.setIfInBounds_toArray, List.set_cons_zero, List.set_cons_succ])
    refine wpAnyH_ready (rs := [13]) (by kernel_rfl) (by simp) ?_
    refine AllReadyH.cons rfl (fun K hK => ?_) ?_
    · go_simp
      refine hK.out _ _ (by (first | exact c3 | exact f2 | exact e1 | exact f4 | exact e3 | exact (World.cell?_setCell_far _ _ _ _ (fun e => k2 e.symm)).trans e3)) (fun hHeld => ?_)
      clear hK K
      (try simp only [Act.put, List.setIfInBounds_toArray, List.set_cons_zero, List.set_cons_succ])
      refine wpAnyH_ready (rs := [15]) (by kernel_rfl) (by simp) ?_
      refine AllReadyH.cons rfl (fun K hK => ?_) ?_
      · refine step_append_run rfl (.tmp 53) (.tmp 54) 29 rfl _ _ _ _ (by simp [Act.eval, Act.put]) (by simp [Act.eval, Act.put]) 29 rfl HR1.out ?_
        refine hK.out _ _ (by (first | exact c3 | exact f2 | exact e1 | exact f4 | exact e3 | exact (World.cell?_setCell_far _ _ _ _ (fun e => k2 e.symm)).trans e3)) (fun hHeld => ?_)
        clear hK K
        (try simp only [Act.put, List.setIfInBounds_toArray, List.set_cons_zero, List.set_cons_succ])
        refine wpAnyH_ready (rs := [16]) (by kernel_rfl) (by simp) ?_
        refine AllReadyH.cons rfl (fun K hK => ?_) ?_
        · go_simp
          refine hK.out _ _ (by (first | exact c3 | exact f2 | exact e1 | exact f4 | exact e3 | exact (World.cell?_setCell_far _ _ _ _ (fun e => k2 e.symm)).trans e3)) (fun hHeld => ?_)
          clear hK K
          (try simp only [Act.put, List.setIfInBounds_toArray, List.set_cons_zero, List.set_cons_succ])
          refine wpAnyH_ready (rs := [17]) (by kernel_rfl) (by simp) ?_
          refine AllReadyH.cons rfl (fun K hK => ?_) ?_
          · refine step_append_run rfl (.tmp 52) (.tmp 56) 33 rfl _ _ _ _ (by simp [Act.eval, Act.put]) (by simp [Act.eval, Act.put]) 33 rfl HR2.out ?_
            refine hK.out _ _ (by (first | exact c3 | exact f2 | exact e1 | exact f4 | exact e3 | exact (World.cell?_setCell_far _ _ _ _ (fun e => k2 e.symm)).trans e3)) (fun hHeld => ?_)
            clear hK K
            (try simp only [Act.put, List.setIfInBounds_toArray, List.set_cons_zero, List.set_cons_succ])
            refine wpAnyH_take (i := 18) (v := ?v14) rfl (by kernel_rfl) (by kernel_rfl) (by kernel_rfl) (fun _ _ _ h => h) (Or.inl ⟨by rfl, ?hy14⟩) (by assumption) ?rest14
            case hy14 => (intro w hSw; (try dsimp only at hSw); go_simp; try with_reducible rfl)
            (try simp only [Act.put, List.setIfInBounds_toArray, List.set_cons_zero, List.set_cons_succ])
            refine wpAnyH_take (i := 19) (v := ?v15) rfl (by kernel_rfl) (by kernel_rfl) (by kernel_rfl) (fun _ _ _ h => h) (Or.inl ⟨by rfl, ?hy15⟩) (by assumption) ?rest15
            case hy15 => (intro w hSw; (try dsimp only at hSw); go_simp; try with_reducible rfl)
            (try simp only [Act.put, List.setIfInBounds_toArray, List.set_cons_zero, List.set_cons_succ])
            refine wpAnyH_ready (rs := [20]) (by kernel_rfl) (by simp) ?_
            refine AllReadyH.cons rfl (fun K hK => ?_) ?_
            · go_simp
              refine hK.out _ _ (by (first | exact c3 | exact f2 | exact e1 | exact f4 | exact e3 | exact (World.cell?_setCell_far _ _ _ _ (fun e => k2 e.symm)).trans e3)) (fun hHeld => ?_)
              clear hK K
              (try simp only [Act.put, List.setIfInBounds_toArray, List.set_cons_zero, List.set_cons_succ])
              refine wpAnyH_done (by kernel_rfl) ?_ _
              refine NoPanic.normal ?_
              go_wp2
              go_ret
              exact ⟨rfl, HFIN.out⟩
            exact AllReadyH.nil
          exact AllReadyH.nil
        exact AllReadyH.nil
      exact AllReadyH.nil
    exact AllReadyH.nil
  refine AllReadyH.cons rfl (fun K hK => ?_) ?_
  · go_simp
    refine hK.out _ _ (by (first | exact c3 | exact f2 | exact e1 | exact f4 | exact e3 | exact (World.cell?_setCell_far _ _ _ _ (fun e => k2 e.symm)).trans e3)) (fun hHeld => ?_)
    clear hK K
    (try simp only [Act.put, List.setIfInBounds_toArray, List.set_cons_zero, List.set_cons_succ])
    refine wpAnyH_ready (rs := [12, 15]) (by kernel_rfl) (by simp) ?_
    refine AllReadyH.cons rfl (fun K hK => ?_) ?_
    · go_simp
      refine hK.out _ _ (by (first | exact c3 | exact f2 | exact e1 | exact f4 | exact e3 | exact (World.cell?_setCell_far _ _ _ _ (fun e => k2 e.symm)).trans e3)) (fun hHeld => ?_)
      clear hK K
      (try simp only [Act.put, List.setIfInBounds_toArray, List.set_cons_zero, List.set_cons_succ])
      refine wpAnyH_ready (rs := [15]) (by kernel_rfl) (by simp) ?_
      refine AllReadyH.cons rfl (fun K hK => ?_) ?_
      · refine step_append_run rfl (.tmp 53) (.tmp 54) 29 rfl _ _ _ _ (by simp [Act.eval, Act.put]) (by simp [Act.eval, Act.put]) 29 rfl HR1.out ?_
        refine hK.out _ _ (by (first | exact c3 | exact f2 | exact e1 | exact f4 | exact e3 | exact (World.cell?_setCell_far _ _ _ _ (fun e => k2 e.symm)).trans e3)) (fun hHeld => ?_)
        clear hK K
        (try simp only [Act.put, List.setIfInBounds_toArray, List.set_cons_zero, List.set_cons_succ])
        refine wpAnyH_ready (rs := [16]) (by kernel_rfl) (by simp) ?_
        refine AllReadyH.cons rfl (fun K hK => ?_) ?_
        · go_simp
          refine hK.out _ _ (by (first | exact c3 | exact f2 | exact e1 | exact f4 | exact e3 | exact (World.cell?_setCell_far _ _ _ _ (fun e => k2 e.symm)).trans e3)) (fun hHeld => ?_)
          clear hK K
          (try simp only [Act.put, List.setIfInBounds_toArray, List.set_cons_zero, List.set_cons_succ])
          refine wpAnyH_ready (rs := [17]) (by kernel_rfl) (by simp) ?_
          refine AllReadyH.cons rfl (fun K hK => ?_) ?_
          · refine step_append_run rfl (.tmp 52) (.tmp 56) 33 rfl _ _ _ _ (by simp [Act.eval, Act.put]) (by simp [Act.eval, Act.put]) 33 rfl HR2.out ?_
            refine hK.out _ _ (by (first | exact c3 | exact f2 | exact e1 | exact f4 | exact e3 | exact (World.cell?_setCell_far _ _ _ _ (fun e => k2 e.symm)).trans e3)) (fun hHeld => ?_)
            clear hK K
            (try simp only [Act.put, List.setIfInBounds_toArray, List.set_cons_zero, List.set_cons_succ])
            refine wpAnyH_take (i := 18) (v := ?v16) rfl (by kernel_rfl) (by kernel_rfl) (by kernel_rfl) (fun _ _ _ h => h) (Or.inl ⟨by rfl, ?hy16⟩) (by assumption) ?rest16
            case hy16 => (intro w hSw; (try dsimp only at hSw); go_simp; try with_reducible rfl)
            (try simp only [Act.put, List.setIfInBounds_toArray, List.set_cons_zero, List.set_cons_succ])
            refine wpAnyH_take (i := 19) (v := ?v17) rfl (by kernel_rfl) (by kernel_rfl) (by kernel_rfl) (fun _ _ _ h => h) (Or.inl ⟨by rfl, ?hy17⟩) (by assumption) ?rest17
            case hy17 => (intro w hSw; (try dsimp only at hSw); go_simp; try with_reducible rfl)
            (try simp only [Act.put, List.setIfInBounds_toArray, List.set_cons_zero, List.set_cons_succ])
            refine wpAnyH_ready (rs := [20]) (by kernel_rfl) (by simp) ?_
            refine AllReadyH.cons rfl (fun K hK => ?_) ?_
            · go_simp
              refine hK.out _ _ (by (first | exact c3 | exact f2 | exact e1 | exact f4 | exact e3 | exact (World.cell?_setCell_far _ _ _ _ (fun e => k2 e.symm)).trans e3)) (fun hHeld => ?_)
              clear hK K
              (try simp only [Act.put, List.setIfInBounds_toArray, List.set_cons_zero, List.set_cons_succ])
              refine wpAnyH_done (by kernel_rfl) ?_ _
              refine NoPanic.normal ?_
              go_wp2
              go_ret
              exact ⟨rfl, HFIN.out⟩
            exact AllReadyH.nil
          exact AllReadyH.nil
        exact AllReadyH.nil
      exact AllReadyH.nil
    refine AllReadyH.cons rfl (fun K hK => ?_) ?_
    · refine step_append_run rfl (.tmp 53) (.tmp 54) 29 rfl _ _ _ _ (by simp [Act.eval, Act.put]) (by simp [Act.eval, Act.put]) 29 rfl HR1.out ?_
      refine hK.out _ _ (by (first | exact c3 | exact f2 | exact e1 | exact f4 | exact e3 | exact (World.cell?_setCell_far _ _ _ _ (fun e => k2 e.symm)).trans e3)) (fun hHeld => ?_)
      clear hK K
      (try simp only [Act.put, List.setIfInBounds_toArray, List.set_cons_zero, List.set_cons_succ])
      refine wpAnyH_ready (rs := [12, 16]) (by kernel_rfl) (by simp) ?_
      refine AllReadyH.cons rfl (fun K hK => ?_) ?_
      · go_simp
        refine hK.out _ _ (by (first | exact c3 | exact f2 | exact e1 | exact f4 | exact e3 | exact (World.cell?_setCell_far _ _ _ _ (fun e => k2 e.symm)).trans e3)) (fun hHeld => ?_)
        clear hK K
        (try simp only [Act.put, List.setIfInBounds_toArray, List.set_cons_zero, List.set_cons_succ])
        refine wpAnyH_ready (rs := [16]) (by kernel_rfl) (by simp) ?_
        refine AllReadyH.cons rfl (fun K hK => ?_) ?_
        · go_simp
          refine hK.out _ _ (by (first | exact c3 | exact f2 | exact e1 | exact f4 | exact e3 | exact (World.cell?_setCell_far _ _ _ _ (fun e => k2 e.symm)).trans e3)) (fun hHeld => ?_)
          clear hK K
          (try simp only [Act.put, List.setIfInBounds_toArray, List.set_cons_zero, List.set_cons_succ])
          refine wpAnyH_ready (rs := [17]) (by kernel_rfl) (by simp) ?_
          refine AllReadyH.cons rfl (fun K hK => ?_) ?_
          · refine step_append_run rfl (.tmp 52) (.tmp 56) 33 rfl _ _ _ _ (by simp [Act.eval, Act.put]) (by simp [Act.eval, Act.put]) 33 rfl HR2.out ?_
            refine hK.out _ _ (by (first | exact c3 | exact f2 | exact e1 | exact f4 | exact e3 | exact (World.cell?_setCell_far _ _ _ _ (fun e => k2 e.symm)).trans e3)) (fun hHeld => ?_)
            clear hK K
            (try simp only [Act.put, List.setIfInBounds_toArray, List.set_cons_zero, List.set_cons_succ])
            refine wpAnyH_take (i := 18) (v := ?v18) rfl (by kernel_rfl) (by kernel_rfl) (by kernel_rfl) (fun _ _ _ h => h) (Or.inl ⟨by rfl, ?hy18⟩) (by assumption) ?rest18
            case hy18 => (intro w hSw; (try dsimp only at hSw); go_simp; try with_reducible rfl)
            (try simp only [Act.put, List.setIfInBounds_toArray, List.set_cons_zero, List.set_cons_succ])
            refine wpAnyH_take (i := 19) (v := ?v19) rfl (by kernel_rfl) (by kernel_rfl) (by kernel_rfl) (fun _ _ _ h => h) (Or.inl ⟨by rfl, ?hy19⟩) (by assumption) ?rest19
            case hy19 => (intro w hSw; (try dsimp only at hSw); go_simp; try with_reducible rfl)
            (try simp only [Act.put, List.setIfInBounds_toArray, List.set_cons_zero, List.set_cons_succ])
            refine wpAnyH_ready (rs := [20]) (by kernel_rfl) (by simp) ?_
            refine AllReadyH.cons rfl (fun K hK => ?_) ?_
            · go_simp
              refine hK.out _ _ (by (first | exact c3 | exact f2 | exact e1 | exact f4 | exact e3 | exact (World.cell?_setCell_far _ _ _ _ (fun e => k2 e.symm)).trans e3)) (fun hHeld => ?_)
              clear hK K
              (try simp only [Act.put, List.setIfInBounds_toArray, List.set_cons_zero, List.set_cons_succ])
              refine wpAnyH_done (by kernel_rfl) ?_ _
              refine NoPanic.normal ?_
              go_wp2
              go_ret
              exact ⟨rfl, HFIN.out⟩
            exact AllReadyH.nil
          exact AllReadyH.nil
        exact AllReadyH.nil
      refine AllReadyH.cons rfl (fun K hK => ?_) ?_
      · go_simp
        refine hK.out _ _ (by (first | exact c3 | exact f2 | exact e1 | exact f4 | exact e3 | exact (World.cell?_setCell_far _ _ _ _ (fun e => k2 e.symm)).trans e3)) (fun hHeld => ?_)
        clear hK K
        (try simp only [Act.put, List.setIfInBounds_toArray, List.set_cons_zero, List.set_cons_succ])
        refine wpAnyH_ready (rs := [12]) (by kernel_rfl) (by simp) ?_
        refine AllReadyH.cons rfl (fun K hK => ?_) ?_
        · go_simp
          refine hK.out _ _ (by (first | exact c3 | exact f2 | exact e1 | exact f4 | exact e3 | exact (World.cell?_setCell_far _ _ _ _ (fun e => k2 e.symm)).trans e3)) (fun hHeld => ?_)
          clear hK K
          (try simp only [Act.put, List.setIfInBounds_toArray, List.set_cons_zero, List.set_cons_succ])
          refine wpAnyH_ready (rs := [17]) (by kernel_rfl) (by simp) ?_
          refine AllReadyH.cons rfl (fun K hK => ?_) ?_
          · refine step_append_run rfl (.tmp 52) (.tmp 56) 33 rfl _ _ _ _ (by simp [Act.eval, Act.put]) (by simp [Act.eval, Act.put]) 33 rfl HR2.out ?_
            refine hK.out _ _ (by (first | exact c3 | exact f2 | exact e1 | exact f4 | exact e3 | exact (World.cell?_setCell_far _ _ _ _ (fun e => k2 e.symm)).trans e3)) (fun hHeld => ?_)
            clear hK K
            (try simp only [Act.put, List.setIfInBounds_toArray, List.set_cons_zero, List.set_cons_succ])
            refine wpAnyH_take (i := 18) (v := ?v20) rfl (by kernel_rfl) (by kernel_rfl) (by kernel_rfl) (fun _ _ _ h => h) (Or.inl ⟨by rfl, ?hy20⟩) (by assumption) ?rest20
            case hy20 => (intro w hSw; (try dsimp only at hSw); go_simp; try with_reducible rfl)
            (try simp only [Act.put, List.setIfInBounds_toArray, List.set_cons_zero, List.set_cons_succ])
            refine wpAnyH_take (i := 19) (v := ?v21) rfl (by kernel_rfl) (by kernel_rfl) (by kernel_rfl) (fun _ _ _ h => h) (Or.inl ⟨by rfl, ?hy21⟩) (by assumption) ?rest21
            case hy21 => (intro w hSw; (try dsimp only at hSw); go_simp; try with_reducible rfl)
            (try simp only [Act.put, List.setIfInBounds_toArray, List.set_cons_zero, List.set_cons_succ])
            refine wpAnyH_ready (rs := [20]) (by kernel_rfl) (by simp) ?_
            refine AllReadyH.cons rfl (fun K hK => ?_) ?_
            · go_simp
              refine hK.out _ _ (by (first | exact c3 | exact f2 | exact e1 | exact f4 | exact e3 | exact (World.cell?_setCell_far _ _ _ _ (fun e => k2 e.symm)).trans e3)) (fun hHeld => ?_)
              clear hK K
              (try simp only [Act.put, List.setIfInBounds_toArray, List.set_cons_zero, List.set_cons_succ])
              refine wpAnyH_done (by kernel_rfl) ?_ _
              refine NoPanic.normal ?_
              go_wp2
              go_ret
              exact ⟨rfl, HFIN.out⟩
            exact AllReadyH.nil
          exact AllReadyH.nil
        exact AllReadyH.nil
      exact AllReadyH.nil
    exact AllReadyH.nil
  exact AllReadyH.nil
end
end Go.Proofs.Ytfmphhcdbocgnaa.Pipe
