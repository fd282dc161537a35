/-
  RECORD: the program's reader: a recipient.
-/
import Derived.Test.YthoeicidilnleaaDoorRecordRd3
namespace Go.Proofs.YthoeicidilnleaaDoor.Codec
open Go.RowKit

/-- A recipient: it, the fault, what is left, where its mark stands. -/
def rcF (L : Nat) (r : List UInt8) : Rc × Int × List UInt8 × List Nat :=
  if (fixedF [114] r).1 ≠ 0 then (rc0, (fixedF [114] r).1, (fixedF [114] r).2, [])
  else if (markF L (fixedF [114] r).2).2.1 ≠ 0 then (rc0, (markF L (fixedF [114] r).2).2)
  else if (textF (markF L (fixedF [114] r).2).2.2.1).2.1 ≠ 0 then (rc0, (textF (markF L (fixedF [114] r).2).2.2.1).2.1, (textF (markF L (fixedF [114] r).2).2.2.1).2.2, (markF L (fixedF [114] r).2).2.2.2)
  else if addrB (textF (markF L (fixedF [114] r).2).2.2.1).1 then ((⟨(textF (markF L (fixedF [114] r).2).2.2.1).1.toArray⟩, (markF L (fixedF [114] r).2).1), 0, (textF (markF L (fixedF [114] r).2).2.2.1).2.2, (markF L (fixedF [114] r).2).2.2.2)
  else (rc0, 30, (textF (markF L (fixedF [114] r).2).2.2.1).2.2, (markF L (fixedF [114] r).2).2.2.2)
theorem rcF_1 {L : Nat} {r : List UInt8} (h : (fixedF [114] r).1 ≠ 0) : rcF L r = (rc0, (fixedF [114] r).1, (fixedF [114] r).2, []) := by unfold rcF; rw [if_pos h]
theorem rcF_2 {L : Nat} {r : List UInt8} (h : (fixedF [114] r).1 = 0) (h2 : (markF L (fixedF [114] r).2).2.1 ≠ 0) : rcF L r = (rc0, (markF L (fixedF [114] r).2).2) := by unfold rcF; rw [if_neg (by simp [h]), if_pos h2]
theorem rcF_3 {L : Nat} {r : List UInt8} (h : (fixedF [114] r).1 = 0) (h2 : (markF L (fixedF [114] r).2).2.1 = 0) (h3 : (textF (markF L (fixedF [114] r).2).2.2.1).2.1 ≠ 0) :
    rcF L r = (rc0, (textF (markF L (fixedF [114] r).2).2.2.1).2.1, (textF (markF L (fixedF [114] r).2).2.2.1).2.2, (markF L (fixedF [114] r).2).2.2.2) := by unfold rcF; rw [if_neg (by simp [h]), if_neg (by simp [h2]), if_pos h3]
theorem rcF_4 {L : Nat} {r : List UInt8} (h : (fixedF [114] r).1 = 0) (h2 : (markF L (fixedF [114] r).2).2.1 = 0) (h3 : (textF (markF L (fixedF [114] r).2).2.2.1).2.1 = 0) (h4 : addrB (textF (markF L (fixedF [114] r).2).2.2.1).1 = true) :
    rcF L r = ((⟨(textF (markF L (fixedF [114] r).2).2.2.1).1.toArray⟩, (markF L (fixedF [114] r).2).1), 0, (textF (markF L (fixedF [114] r).2).2.2.1).2.2, (markF L (fixedF [114] r).2).2.2.2) := by unfold rcF; rw [if_neg (by simp [h]), if_neg (by simp [h2]), if_neg (by simp [h3]), if_pos h4]
theorem rcF_5 {L : Nat} {r : List UInt8} (h : (fixedF [114] r).1 = 0) (h2 : (markF L (fixedF [114] r).2).2.1 = 0) (h3 : (textF (markF L (fixedF [114] r).2).2.2.1).2.1 = 0) (h4 : addrB (textF (markF L (fixedF [114] r).2).2.2.1).1 = false) :
    rcF L r = (rc0, 30, (textF (markF L (fixedF [114] r).2).2.2.1).2.2, (markF L (fixedF [114] r).2).2.2.2) := by unfold rcF; rw [if_neg (by simp [h]), if_neg (by simp [h2]), if_neg (by simp [h3]), if_neg (by simp [h4])]

/-- A block of two cells, for a store. -/
theorem two_cells {w : World} {k : Nat} {a b : Value} {t : TypeId} (h : w.heap[k]? = some (.cells #[a, b] t (0, 0))) : w.cell? ⟨k, 0, none⟩ = some a ∧ w.cell? ⟨k, 1, none⟩ = some b ∧ w.frozen? ⟨k, 0, none⟩ = false ∧ w.frozen? ⟨k, 1, none⟩ = false :=
  ⟨cell_of_row w k 0 _ _ _ h, cell_of_row w k 1 _ _ _ h, by simp [World.frozen?, h], by simp [World.frozen?, h]⟩
theorem set_one {w : World} {k : Nat} {a b : Value} {t : TypeId} (h : w.heap[k]? = some (.cells #[a, b] t (0, 0))) (x : Value) : (w.setCell ⟨k, 0, none⟩ x).heap[k]? = some (.cells #[x, b] t (0, 0)) := by
  rw [heap_setCell_same w k 0 _ _ _ h]; rfl
theorem set_two {w : World} {k : Nat} {a b : Value} {t : TypeId} (h : w.heap[k]? = some (.cells #[a, b] t (0, 0))) (x y : Value) : ((w.setCell ⟨k, 0, none⟩ x).setCell ⟨k, 1, none⟩ y).heap[k]? = some (.cells #[x, y] t (0, 0)) := by
  rw [heap_setCell_same _ k 1 _ _ _ (set_one h x)]; rfl
theorem Rd.set_other {w : World} {g B : Nat} {bv mv : Value} {l rest : List UInt8} {ml : List Nat} (h : Rd w g bv l rest mv ml B) {k i : Nat} {u : Value} {cs : Array Value} {t : TypeId} {fz : Nat × Nat} (hk : w.heap[k]? = some (.cells cs t fz)) (ht : t ≠ 3) (hg : k ≠ g) (hne : ∀ b, bv.ownBlock = some b → b ≠ k) : Rd (w.setCell ⟨k, i, none⟩ u) g bv l rest mv ml B := by
  obtain ⟨a, e1, e2, hh, hr, hm, hb⟩ := h
  refine ⟨a, e1, e2, by rw [Below.heap_setCell _ _ _ _ (fun e => hg e.symm)]; exact hh, ?_, hm.set_other hk ht, hb⟩
  rcases hr with hr | ⟨b, o, c, rfl, hc, hcell⟩
  · exact Or.inl hr
  · refine Or.inr ⟨b, o, c, rfl, hc, fun j hj => ?_⟩
    rw [World.cell?_of_block (w := w) (Below.heap_setCell _ _ _ _ (fun e => hne b rfl e))]
    exact hcell j hj
theorem Keeps.set_new {g B : Nat} {w w' : World} (h : Keeps g B w w') {k : Nat} (hk : w.heap.size ≤ k) (hB : B ≤ k) (i : Nat) (u : Value) : Keeps g B w (w'.setCell ⟨k, i, none⟩ u) :=
  ⟨h.1.setCell hB u, fun k' cs t fz hk' ht hg => by rw [Below.heap_setCell _ _ _ _ (by have := heap_lt hk'; show k' ≠ k; omega)]; exact h.2 k' cs t fz hk' ht hg⟩

set_option maxHeartbeats 1000000 in
set_option maxRecDepth 100000 in
theorem cRcpt (g B : Nat) (bv mv : Value) (l rest : List UInt8) (ml : List Nat) (w : World) (h : Rd w g bv l rest mv ml B) (hold : Old B bv) (hl : l.length ≤ 200000000000000) (hml : ml.length ≤ 1000) :
    Calls Tryd.prog 55 #[.pointer (some ⟨g, 0, none⟩)] w fun e w' => e = .returned (.tuple #[.agg #[.string (rcF l.length rest).1.1, .int .u8 ((rcF l.length rest).1.2.toNat : Int)], .int .i64 (rcF l.length rest).2.1]) ∧ (∃ mv', Rd w' g bv l (rcF l.length rest).2.2.1 mv' (ml ++ (rcF l.length rest).2.2.2) B) ∧ Keeps g B w w' := by
  have hBw := h.size
  have hov : ∀ b, bv.ownBlock = some b → b ≠ w.heap.size := fun b hb => by have := hold b hb; omega
  obtain ⟨w0, hw0⟩ : ∃ w0, w0 = w.alloc (.cells #[.string ⟨#[]⟩, .int .u8 0] 41) := ⟨_, rfl⟩
  have hbl0 : Below w.heap.size w w0 := by rw [hw0]; exact Below.alloc1 _ _
  have hk0 : Keeps g B w w0 := Keeps.of_below hbl0 hBw
  have hbk : w0.heap[w.heap.size]? = some (.cells #[.string ⟨#[]⟩, .int .u8 0] 41 (0, 0)) := by rw [hw0]; exact heap_alloc_new w _
  have hgne : w.heap.size ≠ g := by obtain ⟨a, _, _, hh, _⟩ := h; have := heap_lt hh; omega
  have C1 := Lib.hid (cFixed g B ⟨#[114]⟩ bv mv l rest ml w0 (h.on hbl0) hold hl (by decide))
  have e0 : (⟨#[114]⟩ : ByteArray).data.toList = [114] := rfl
  rw [e0] at C1
  have k1 := @rcF_1 l.length rest
  have k2 := @rcF_2 l.length rest
  have k3 := @rcF_3 l.length rest
  have k4 := @rcF_4 l.length rest
  have k5 := @rcF_5 l.length rest
  generalize fixedF [114] rest = F at *
  obtain ⟨z, r1⟩ := F
  dsimp only at *
  have C2 := Lib.hid (fun w (h : Rd w g bv l r1 mv ml B) => cMark g B bv mv l r1 ml w h hold hl hml)
  generalize markF l.length r1 = M at *
  obtain ⟨c, z2, r2, mk⟩ := M
  dsimp only at *
  have C3 := Lib.hid (fun w mv' (h : Rd w g bv l r2 mv' (ml ++ mk) B) => cTxt g B bv mv' l r2 (ml ++ mk) w h hold hl)
  have hto := @text_ok r2
  have htl := text_len_any r2
  generalize textF r2 = T at *
  obtain ⟨t, z3, r3⟩ := T
  dsimp only at *
  obtain ⟨TT, hTT⟩ : ∃ TT : ByteArray, TT = ⟨(takeText r2).1.toArray⟩ := ⟨_, rfl⟩
  have hTs : TT.size ≤ 1048576 := by rw [hTT]; exact htl
  have C4 := Lib.hid (fun w => cIsAddress TT w (by omega))
  rw [← hTT] at C3
  have HBK := Lib.hid hbk
  have HW := Lib.hid hw0
  clear h hold e0 hbl0 hbk
  by_cases hz : z = 0
  · subst hz
    by_cases hz2 : z2 = 0
    · subst hz2
      by_cases hz3 : z3 = 0
      · subst hz3
        have hTd : TT.data.toList = t := by rw [hTT]; exact (hto rfl).1
        have hTe : TT = ⟨t.toArray⟩ := by rw [hTT, (hto rfl).1]
        rw [hTd] at C4
        cases hfb : addrB t with
        | true =>
          rw [k4 rfl rfl rfl hfb]
          rw [hfb] at C4
          have HE := Lib.hid hTe
          clear k1 k2 k3 k4 k5 hto htl hTT hTd hTe hfb hw0
          go_enter Tryd.func55, Tryd.ntmps55
          go_wp2
          refine wp_scope_fwd fun F hF => ?_
          have HF := Lib.hid hF
          clear hF
          go_wp2_with (go_at_call 41; refine (HW.out ▸ C1.out).mono ?_; rintro e w1 ⟨rfl, h1, q1⟩; refine Hid.out ?_)
          refine Lib.hid ?_
          rw [← HW.out] at q1
          go_wp2_with (go_at_call 65; refine (C2.out _ h1).mono ?_; rintro e w2 ⟨rfl, ⟨mv2, h2⟩, q2⟩; refine Hid.out ?_)
          refine Lib.hid ?_
          go_wp2_with (go_at_call 45; refine (C3.out _ _ h2).mono ?_; rintro e w3 ⟨rfl, h3, q3⟩; refine Hid.out ?_)
          refine Lib.hid ?_
          go_wp2_with (go_at_call 30; refine (C4.out _).mono ?_; rintro e w4 ⟨rfl, b4⟩; refine Hid.out ?_)
          refine Lib.hid ?_
          have kk4 := hk0.trans (((q1.trans q2).trans q3).trans (Keeps.of_below b4 h3.size))
          have hb4 := (((q1.trans q2).trans q3).trans (Keeps.of_below b4 h3.size)).2 w.heap.size _ 41 _ HBK.out (by decide) hgne
          obtain ⟨y0, y1, y2, y3⟩ := two_cells hb4
          have HB4 := Lib.hid hb4
          have HR4 := Lib.hid (h3.on b4)
          clear hb4
          go_wp2
          rw [Exit.fwd_ret]
          have hfin := set_two HB4.out (.string TT) (.int .u8 (c.toNat : Int))
          obtain ⟨v0, v1, _, _⟩ := two_cells hfin
          refine bodyPost_ret (v := .tuple #[.agg #[(.string TT), (.int .u8 (c.toNat : Int))], .int .i64 0]) (by simp [results, Tryd.results55, go_sem, v0, v1]) rfl ⟨(by rw [HE.out]), ⟨_, (HR4.out.set_other HB4.out (by decide) hgne hov).set_other (set_one HB4.out (.string TT)) (by decide) hgne hov⟩, (kk4.set_new (Nat.le_refl _) hBw 0 (.string TT)).set_new (Nat.le_refl _) hBw 1 (.int .u8 (c.toNat : Int))⟩
        | false =>
          rw [k5 rfl rfl rfl hfb]
          rw [hfb] at C4
          clear k1 k2 k3 k4 k5 hto htl hTT hTd hTe hfb hw0
          go_enter Tryd.func55, Tryd.ntmps55
          go_wp2
          refine wp_scope_fwd fun F hF => ?_
          have HF := Lib.hid hF
          clear hF
          go_wp2_with (go_at_call 41; refine (HW.out ▸ C1.out).mono ?_; rintro e w1 ⟨rfl, h1, q1⟩; refine Hid.out ?_)
          refine Lib.hid ?_
          rw [← HW.out] at q1
          go_wp2_with (go_at_call 65; refine (C2.out _ h1).mono ?_; rintro e w2 ⟨rfl, ⟨mv2, h2⟩, q2⟩; refine Hid.out ?_)
          refine Lib.hid ?_
          go_wp2_with (go_at_call 45; refine (C3.out _ _ h2).mono ?_; rintro e w3 ⟨rfl, h3, q3⟩; refine Hid.out ?_)
          refine Lib.hid ?_
          go_wp2_with (go_at_call 30; refine (C4.out _).mono ?_; rintro e w4 ⟨rfl, b4⟩; refine Hid.out ?_)
          refine Lib.hid ?_
          have kk4 := hk0.trans (((q1.trans q2).trans q3).trans (Keeps.of_below b4 h3.size))
          have hb4 := (((q1.trans q2).trans q3).trans (Keeps.of_below b4 h3.size)).2 w.heap.size _ 41 _ HBK.out (by decide) hgne
          obtain ⟨y0, y1, y2, y3⟩ := two_cells hb4
          have HB4 := Lib.hid hb4
          have HR4 := Lib.hid (h3.on b4)
          clear hb4
          go_wp2
          go_step3
          refine ⟨_, by rw [HF.out]; rfl, ?_⟩
          clear HF
          go_wp2
          rw [Exit.noGoto_ret]
          have hfin := set_two HB4.out (.string ⟨#[]⟩) (.int .u8 0)
          obtain ⟨v0, v1, _, _⟩ := two_cells hfin
          refine bodyPost_ret (v := .tuple #[.agg #[(.string ⟨#[]⟩), (.int .u8 0)], .int .i64 30]) (by simp [results, Tryd.results55, go_sem, v0, v1]) rfl ⟨rfl, ⟨_, (HR4.out.set_other HB4.out (by decide) hgne hov).set_other (set_one HB4.out (.string ⟨#[]⟩)) (by decide) hgne hov⟩, (kk4.set_new (Nat.le_refl _) hBw 0 (.string ⟨#[]⟩)).set_new (Nat.le_refl _) hBw 1 (.int .u8 0)⟩
      · rw [k3 rfl rfl hz3]
        have hb3 : (z3 != 0) = true := by simpa using hz3
        clear k1 k2 k3 k4 k5 hto htl hTT hz3 hw0
        go_enter Tryd.func55, Tryd.ntmps55
        go_wp2
        refine wp_scope_fwd fun F hF => ?_
        have HF := Lib.hid hF
        clear hF
        go_wp2_with (go_at_call 41; refine (HW.out ▸ C1.out).mono ?_; rintro e w1 ⟨rfl, h1, q1⟩; refine Hid.out ?_)
        refine Lib.hid ?_
        rw [← HW.out] at q1
        go_wp2_with (go_at_call 65; refine (C2.out _ h1).mono ?_; rintro e w2 ⟨rfl, ⟨mv2, h2⟩, q2⟩; refine Hid.out ?_)
        refine Lib.hid ?_
        go_wp2_with (go_at_call 45; refine (C3.out _ _ h2).mono ?_; rintro e w3 ⟨rfl, h3, q3⟩; refine Hid.out ?_)
        refine Lib.hid ?_
        have kk4 := hk0.trans ((q1.trans q2).trans q3)
        have hb4 := ((q1.trans q2).trans q3).2 w.heap.size _ 41 _ HBK.out (by decide) hgne
        obtain ⟨y0, y1, y2, y3⟩ := two_cells hb4
        have HB4 := Lib.hid hb4
        have HR4 := Lib.hid h3
        clear hb4
        go_wp2
        go_step3
        refine ⟨_, by rw [HF.out]; rfl, ?_⟩
        clear HF
        go_wp2
        rw [Exit.noGoto_ret]
        have hfin := set_two HB4.out (.string ⟨#[]⟩) (.int .u8 0)
        obtain ⟨v0, v1, _, _⟩ := two_cells hfin
        refine bodyPost_ret (v := .tuple #[.agg #[(.string ⟨#[]⟩), (.int .u8 0)], .int .i64 z3]) (by simp [results, Tryd.results55, go_sem, v0, v1]) rfl ⟨rfl, ⟨_, (HR4.out.set_other HB4.out (by decide) hgne hov).set_other (set_one HB4.out (.string ⟨#[]⟩)) (by decide) hgne hov⟩, (kk4.set_new (Nat.le_refl _) hBw 0 (.string ⟨#[]⟩)).set_new (Nat.le_refl _) hBw 1 (.int .u8 0)⟩
    · rw [k2 rfl hz2]
      have hb3 : (z2 != 0) = true := by simpa using hz2
      clear k1 k2 k3 k4 k5 hto htl hTT hz2 hw0
      go_enter Tryd.func55, Tryd.ntmps55
      go_wp2
      refine wp_scope_fwd fun F hF => ?_
      have HF := Lib.hid hF
      clear hF
      go_wp2_with (go_at_call 41; refine (HW.out ▸ C1.out).mono ?_; rintro e w1 ⟨rfl, h1, q1⟩; refine Hid.out ?_)
      refine Lib.hid ?_
      rw [← HW.out] at q1
      go_wp2_with (go_at_call 65; refine (C2.out _ h1).mono ?_; rintro e w2 ⟨rfl, ⟨mv2, h2⟩, q2⟩; refine Hid.out ?_)
      refine Lib.hid ?_
      have kk4 := hk0.trans (q1.trans q2)
      have hb4 := (q1.trans q2).2 w.heap.size _ 41 _ HBK.out (by decide) hgne
      obtain ⟨y0, y1, y2, y3⟩ := two_cells hb4
      have HB4 := Lib.hid hb4
      have HR4 := Lib.hid h2
      clear hb4
      go_wp2
      go_step3
      refine ⟨_, by rw [HF.out]; rfl, ?_⟩
      clear HF
      go_wp2
      rw [Exit.noGoto_ret]
      have hfin := set_two HB4.out (.string ⟨#[]⟩) (.int .u8 0)
      obtain ⟨v0, v1, _, _⟩ := two_cells hfin
      refine bodyPost_ret (v := .tuple #[.agg #[(.string ⟨#[]⟩), (.int .u8 0)], .int .i64 z2]) (by simp [results, Tryd.results55, go_sem, v0, v1]) rfl ⟨rfl, ⟨_, (HR4.out.set_other HB4.out (by decide) hgne hov).set_other (set_one HB4.out (.string ⟨#[]⟩)) (by decide) hgne hov⟩, (kk4.set_new (Nat.le_refl _) hBw 0 (.string ⟨#[]⟩)).set_new (Nat.le_refl _) hBw 1 (.int .u8 0)⟩
  · rw [k1 hz]
    have hb3 : (z != 0) = true := by simpa using hz
    clear k1 k2 k3 k4 k5 hto htl hTT hz hw0
    go_enter Tryd.func55, Tryd.ntmps55
    go_wp2
    refine wp_scope_fwd fun F hF => ?_
    have HF := Lib.hid hF
    clear hF
    go_wp2_with (go_at_call 41; refine (HW.out ▸ C1.out).mono ?_; rintro e w1 ⟨rfl, h1, q1⟩; refine Hid.out ?_)
    refine Lib.hid ?_
    rw [← HW.out] at q1
    have kk4 := hk0.trans q1
    have hb4 := q1.2 w.heap.size _ 41 _ HBK.out (by decide) hgne
    obtain ⟨y0, y1, y2, y3⟩ := two_cells hb4
    have HB4 := Lib.hid hb4
    have HR4 := Lib.hid (show Rd w1 g bv l r1 mv (ml ++ []) B by rw [List.append_nil]; exact h1)
    clear hb4
    go_wp2
    go_step3
    refine ⟨_, by rw [HF.out]; rfl, ?_⟩
    clear HF
    go_wp2
    rw [Exit.noGoto_ret]
    have hfin := set_two HB4.out (.string ⟨#[]⟩) (.int .u8 0)
    obtain ⟨v0, v1, _, _⟩ := two_cells hfin
    refine bodyPost_ret (v := .tuple #[.agg #[(.string ⟨#[]⟩), (.int .u8 0)], .int .i64 z]) (by simp [results, Tryd.results55, go_sem, v0, v1]) rfl ⟨rfl, ⟨_, (HR4.out.set_other HB4.out (by decide) hgne hov).set_other (set_one HB4.out (.string ⟨#[]⟩)) (by decide) hgne hov⟩, (kk4.set_new (Nat.le_refl _) hBw 0 (.string ⟨#[]⟩)).set_new (Nat.le_refl _) hBw 1 (.int .u8 0)⟩
end Go.Proofs.YthoeicidilnleaaDoor.Codec
