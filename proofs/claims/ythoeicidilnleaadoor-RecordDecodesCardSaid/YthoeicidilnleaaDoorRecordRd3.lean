/-
  RECORD: the program's reader: a mark, a sender, a recipient.
-/
import Derived.Test.YthoeicidilnleaaDoorRecordRd2
import Derived.Deep.RegionLaw
namespace Go.Proofs.YthoeicidilnleaaDoor.Codec
open Go.RowKit

theorem Marks.form {w : World} {B : Nat} {mv : Value} {ml : List Nat} (h : Marks w B mv ml) (h0 : 0 < ml.length) : ∃ g q, mv = .slice (some ⟨g, 0, none⟩) ml.length q := by
  rcases h.2 with ⟨_, hn⟩ | ⟨g, cap, cur, rfl, _⟩
  · omega
  · exact ⟨g, cap, rfl⟩
theorem Marks.form1 {w : World} {B x : Nat} {mv : Value} {ml : List Nat} (h : Marks w B mv (ml ++ [x])) : ∃ g q, mv = .slice (some ⟨g, 0, none⟩) (ml.length + 1) q := by
  obtain ⟨g, q, h⟩ := h.form (by simp)
  exact ⟨g, q, by simpa using h⟩
theorem Rd.on {w w' : World} {g B : Nat} {bv mv : Value} {l rest : List UInt8} {ml : List Nat} (h : Rd w g bv l rest mv ml B) (hb : Below w.heap.size w w') : Rd w' g bv l rest mv ml B := by
  obtain ⟨a, e1, e2, hh, hr, hm, hB⟩ := h
  exact ⟨a, e1, e2, by rw [hb.block g (heap_lt hh)]; exact hh, hr.on hb, hm.on hb, hB⟩
theorem Rd.size {w : World} {g B : Nat} {bv mv : Value} {l rest : List UInt8} {ml : List Nat} (h : Rd w g bv l rest mv ml B) : B ≤ w.heap.size := by
  obtain ⟨a, e1, e2, hh, hr, hm, hB⟩ := h; have := heap_lt hh; omega
theorem Marks.apart {w : World} {B g : Nat} {mv : Value} {ml : List Nat} (h : Marks w B mv ml) {cs : Array Value} {t : TypeId} {fz : Nat × Nat} (hg : w.heap[g]? = some (.cells cs t fz)) (ht : t ≠ 3) : mv.ownBlock ≠ some g := fun e => by
  rcases h.2 with ⟨rfl, _⟩ | ⟨g', cap, cur, rfl, _, h2, _⟩
  · simp [Value.ownBlock] at e
  · have : g' = g := by simpa [Value.ownBlock] using e
    subst this
    rw [hg] at h2
    injection h2 with h2
    injection h2 with _ h3
    exact ht h3
theorem Keeps.of_spares {g B : Nat} {w w' : World} {mv : Value} {ml : List Nat} (hs : Spares mv w w') (hb : Below B w w') (hm : Marks w B mv ml) : Keeps g B w w' :=
  ⟨hb, fun k cs t fz hk ht _ => by rw [hs.2 k (heap_lt hk) fun e => hm.apart hk ht e.symm]; exact hk⟩
section
variable (w : World)
theorem run_append_int (B : Nat) (ty : TypeId) (v : Value) (ml : List Nat) (x H : Nat) (hown : Marks w B v ml) (hx : w.cell? ⟨H, 0, none⟩ = some (.int .i64 (x : Int))) (hlim : ml.length ≤ 1000000) (hB : B ≤ w.heap.size) :
    ∃ v' w', (Builtin.append_ #[49, 49] ty #[v, .slice (some ⟨H, 0, none⟩) 1 1]).run Tryd.prog w = .ok v' w' ∧ Marks w' B v' (ml ++ [x]) ∧ Below B w w' ∧ Spares v w w' := by
  obtain ⟨i0, hi, hz0, hz1, hz2⟩ := info_parts info3
  obtain ⟨v', w', h1, h2, h3, _⟩ := run_append_own_wide (P := Tryd.prog) w B 49 ty 3 i0 (.int .i64 0) 1 8 Tryd.underlying49 hi hz0 hz1 hz2 rfl (by decide) v _ _ hown ⟨H, 0, none⟩ 1 1 [.int .i64 (x : Int)] rfl (fun j u h => by
    match j, h with
    | 0, h => simp at h; rw [← h, Addr.add_lit]; exact hx) (fun u h => by simp at h; rw [h]; rfl) (by unfold maxLen; omega) (by omega) hB
  refine ⟨v', w', h1, ?_, (Below.refl B w).grown h3 hB (fun k hk => (World.ownsRow.lt hown k hk).1), Spares.of_grown h3 (fun k hk => hk)⟩
  unfold Marks
  rw [List.length_append, List.map_append]; exact h2
theorem step_append_int {ops : Array Oper} {o : Oper} {a : Act} {K : Act → World → Prop} {Q : Exit → Act → World → Prop} {E : Prop} (hgd : o.guard = none) (s x : Operand)
    (ho : o.op = .call { callee := .builtin .append, args := #[s, x], argTypes := #[49, 49] })
    (B : Nat) (v : Value) (ml : List Nat) (n H : Nat) (hs : a.eval s = v) (hx : a.eval x = .slice (some ⟨H, 0, none⟩) 1 1) (hown : Marks w B v ml) (hc : w.cell? ⟨H, 0, none⟩ = some (.int .i64 (n : Int))) (hlim : ml.length ≤ 1000000) (hB : B ≤ w.heap.size)
    (h : ∀ v' w', Marks w' B v' (ml ++ [n]) → Below B w w' → Spares v w w' → K (a.put o.dst v') w') :
    if Region.wanted o (yielded ops a.tmps) = true then Oper.wp Tryd.prog o a w K Q else E := by
  have hw : Region.wanted o (yielded ops a.tmps) = true := by simp [Region.wanted, hgd]
  rw [if_pos hw]
  obtain ⟨v', w', hr, h2, h3, h4⟩ := run_append_int w B o.type v ml n H hown hc hlim hB
  unfold Oper.wp execOp
  simp only [ho, resolve, invoke, builtin, Sem.run_bind, Sem.run_pure, Result.andThen_ok, List.map_toArray, List.map_cons, List.map_nil, hs, hx, hr]
  exact h v' w' h2 h3 h4
end

/-- A mark: it, the fault, what is left, where it stands. -/
def markF (L : Nat) : List UInt8 → UInt8 × Int × List UInt8 × List Nat
  | [] => (0, 32, [], [])
  | c :: r => if markB c then (c, 0, r, [L - (c :: r).length]) else (0, 30, c :: r, [])

set_option maxHeartbeats 1000000 in
set_option maxRecDepth 100000 in
theorem cMark (g B : Nat) (bv mv : Value) (l rest : List UInt8) (ml : List Nat) (w : World) (h : Rd w g bv l rest mv ml B) (hold : Old B bv) (hl : l.length ≤ 200000000000000) (hml : ml.length ≤ 1000) :
    Calls Tryd.prog 65 #[.pointer (some ⟨g, 0, none⟩)] w fun e w' => e = .returned (.tuple #[.int .u8 ((markF l.length rest).1.toNat : Int), .int .i64 (markF l.length rest).2.1]) ∧ (∃ mv', Rd w' g bv l (markF l.length rest).2.2.1 mv' (ml ++ (markF l.length rest).2.2.2) B) ∧ Keeps g B w w' := by
  obtain ⟨at_, e1, e2, hh, hr, hm, hb⟩ := h
  obtain ⟨q0, q1, q2, q3, q4⟩ := Rd.cells hh
  obtain ⟨A, cc, rfl⟩ := hr.form
  by_cases hend : at_ = l.length
  · have hr0 : rest = [] := List.eq_nil_of_length_eq_zero (by omega)
    subst hr0
    have hR : Hid (∀ n, Rd (w.drewN n) g (.slice A l.length cc) l [] mv (ml ++ []) B) := fun n => ⟨at_, e1, e2, hh, hr, by rw [List.append_nil]; exact hm, hb⟩
    have heq : ((at_ : Int) == (l.length : Int)) = true := by simp; omega
    clear e1 e2 hh hr hm hend hold
    go_enter Tryd.func65, Tryd.ntmps65
    go_wp2_with fail
    go_quiet (fail)
    go_wp2
    go_ret2
    exact ⟨rfl, ⟨_, hR.out _⟩, Keeps.drewN _⟩
  · have hlt2 : at_ < l.length := by omega
    have heq : ((at_ : Int) == (l.length : Int)) = false := by rw [beq_eq_false_iff_ne]; omega
    have hdx : rest = l.getD at_ 0 :: l.drop (at_ + 1) := by
      rw [e2, List.drop_eq_getElem_cons hlt2]; simp [List.getD, List.getElem?_eq_getElem hlt2]
    have hx : ∃ b o, A = some ⟨b, o, none⟩ ∧ w.cell? ⟨b, o + at_, none⟩ = some (.int .u8 ((l.getD at_ 0).toNat : Int)) := by
      rcases hr with ⟨h0, _⟩ | ⟨b, o, c', he, _, hcell⟩
      · rw [h0] at hlt2; simp at hlt2
      · cases he; exact ⟨b, o, rfl, hcell at_ hlt2⟩
    obtain ⟨xb, xo, rfl, hxc⟩ := hx
    have b0 : (0 : Int) ≤ (at_ : Int) := by omega
    have b1 : (at_ : Int) < (l.length : Int) := by omega
    generalize l.getD at_ 0 = x at hxc hdx
    obtain ⟨X, hX⟩ : ∃ X : Int, X = (x.toNat : Int) := ⟨_, rfl⟩
    have HM := Lib.hid (cIsMark x X hX)
    by_cases hmk : markB x = false
    · have hF : markF l.length rest = (0, 30, rest, []) := by rw [hdx]; show (if markB x = true then _ else _) = _; rw [if_neg (by rw [hmk]; simp)]
      rw [hF]
      have hR : Hid (∀ n, Rd (w.drewN n) g (.slice (some ⟨xb, xo, none⟩) l.length cc) l rest mv (ml ++ []) B) := fun n => ⟨at_, e1, e2, hh, hr, by rw [List.append_nil]; exact hm, hb⟩
      rw [hmk] at HM
      rw [← hX] at hxc
      clear e1 e2 hh hr hm hend hold hdx hF hmk hX
      go_enter Tryd.func65, Tryd.ntmps65
      go_wp2_with fail
      go_quiet (fail)
      go_wp2
      go_quiet (fail)
      go_wp2_with (go_at_call 31; refine (HM.out _).mono ?_; rintro e w' ⟨rfl, rfl⟩; refine Hid.out ?_)
      refine Lib.hid ?_
      go_wp2
      go_ret2
      exact ⟨rfl, ⟨_, hR.out _⟩, Keeps.drewN _⟩
    · have hmk : markB x = true := by simpa using hmk
      have hF : markF l.length rest = (x, 0, l.drop (at_ + 1), [at_]) := by
        have : l.length - (x :: l.drop (at_ + 1)).length = at_ := by rw [← hdx]; omega
        rw [hdx]; show (if markB x = true then _ else _) = _; rw [if_pos hmk, this]
      rw [hF]
      rw [hmk] at HM
      have hBw : B ≤ w.heap.size := by have := heap_lt hh; omega
      have HH := Lib.hid hh
      have HR := Lib.hid hr
      have HMm := Lib.hid hm
      have HOLD := Lib.hid hold
      have HD : Hid (l.drop (at_ + 1) = rest.tail) := by unfold Hid; rw [hdx]; rfl
      have hgl : g < w.heap.size := heap_lt hh
      rw [← hX] at hxc ⊢
      clear e1 e2 hh hr hm hend hold hdx hF hmk hX
      go_enter Tryd.func65, Tryd.ntmps65
      go_wp2_with fail
      go_quiet (fail)
      go_wp2
      go_quiet (fail)
      go_wp2_with (go_at_call 31; refine (HM.out _).mono ?_; rintro e w' ⟨rfl, rfl⟩; refine Hid.out ?_)
      refine Lib.hid ?_
      go_wp2_with fail
      have hBl : Hid (∀ n, Below w.heap.size w ((w.drewN n).alloc (.cells #[.int .i64 (at_ : Int)] 3))) := fun n => by
        have h0 : Below w.heap.size w (w.drewN n) := ⟨rfl, rfl, rfl, Nat.le_refl _, fun _ _ => rfl⟩
        exact h0.alloc (Nat.le_refl _) _
      have hCl : Hid (∀ n, ((w.drewN n).alloc (.cells #[.int .i64 (at_ : Int)] 3)).cell? ⟨w.heap.size, 0, none⟩ = some (.int .i64 (at_ : Int))) := fun n => cell_of_row _ w.heap.size 0 _ _ _ (heap_alloc_new (w.drewN n) _)
      have n1 : ∀ n, ((w.drewN n).alloc (.cells #[.int .i64 (at_ : Int)] 3)).cell? ⟨g, 1, none⟩ = some (.int .i64 (at_ : Int)) := fun n => ((hBl.out n).cell (p := ⟨g, 1, none⟩) hgl).trans q1
      have n2 : ∀ n, ((w.drewN n).alloc (.cells #[.int .i64 (at_ : Int)] 3)).cell? ⟨g, 2, none⟩ = some mv := fun n => ((hBl.out n).cell (p := ⟨g, 2, none⟩) hgl).trans q2
      go_region_law (refine step_append_int _ rfl (.tmp 32) (.tmp 37) rfl B mv ml at_ w.heap.size rfl rfl (HMm.out.on (hBl.out _)) (hCl.out _) (by omega) (Nat.le_trans hBw (hBl.out _).size) ?_; intro v2 w2 mk2 hb2 sp2; obtain ⟨gm, qm, rfl⟩ := mk2.form1; have c2 := sp2.block (g := g) ((hBl.out _).block g hgl |>.trans HH.out) (HMm.out.apart HH.out (by decide)); obtain ⟨d0, d1, d2, d3, d4⟩ := Rd.cells c2)
      all_goals
        go_wp2
        go_ret2
        have h0 : (w2.setCell ⟨g, 2, none⟩ (.slice (some ⟨gm, 0, none⟩) (ml.length + 1) qm)).heap[g]? = some (.cells #[.slice (some ⟨xb, xo, none⟩) l.length cc, .int .i64 (at_ : Int), .slice (some ⟨gm, 0, none⟩) (ml.length + 1) qm] 68 (0, 0)) := by
          rw [heap_setCell_same w2 g 2 _ _ _ c2]; rfl
        have k0 : Keeps g B w w2 := ((Keeps.of_below (hBl.out _) hBw).trans (Keeps.of_spares sp2 hb2 (HMm.out.on (hBl.out _))))
        have k1 := (k0.trans (Keeps.set hb 2 (.slice (some ⟨gm, 0, none⟩) (ml.length + 1) qm))).trans (Keeps.set hb 1 (.int .i64 ((at_ : Int) + 1)))
        refine ⟨rfl, ⟨.slice (some ⟨gm, 0, none⟩) (ml.length + 1) qm, at_ + 1, ?_, rfl, ?_, ?_, ?_, hb⟩, k1⟩
        · simp; omega
        · rw [Rd.stepped h0]; rfl
        · exact Reads.kept HR.out k1 HOLD.out
        · exact Marks.set_other (Marks.set_other mk2 c2 (by decide)) h0 (by decide)

/-- A sender. -/
def fromF (r : List UInt8) : List UInt8 × Int × List UInt8 :=
  if (fixedF [102] r).1 ≠ 0 then ([], fixedF [102] r)
  else if (textF (fixedF [102] r).2).2.1 ≠ 0 then ([], (textF (fixedF [102] r).2).2)
  else if fromB (textF (fixedF [102] r).2).1 then textF (fixedF [102] r).2
  else ([], 30, (textF (fixedF [102] r).2).2.2)
theorem text_ok {r : List UInt8} (h : (textF r).2.1 = 0) : (takeText r).1 = (textF r).1 ∧ (textF r).1.length ≤ 1048576 := by
  unfold textF at *
  rcases takeText_cases r with ⟨z, h1, h2, h3⟩ | ⟨t, k, h1, h2, h3, h4⟩
  · rw [h3] at h; have hz : z ≠ 0 := by omega
    simp [hz] at h; exact absurd h (toldOf_pos h1)
  · rw [h4]; simp [h1]
theorem text_len_any (r : List UInt8) : (takeText r).1.length ≤ 1048576 := by
  rcases takeText_cases r with ⟨z, h1, h2, h3⟩ | ⟨t, k, h1, h2, h3, h4⟩
  · rw [h3]; simp
  · rw [h4]; exact h1
theorem Old.any {B : Nat} {v : Value} (h : Old B v) : Old B v := h

set_option maxHeartbeats 1000000 in
set_option maxRecDepth 100000 in
theorem cFrom (g B : Nat) (bv mv : Value) (l rest : List UInt8) (ml : List Nat) (w : World) (h : Rd w g bv l rest mv ml B) (hold : Old B bv) (hl : l.length ≤ 200000000000000) :
    Calls Tryd.prog 43 #[.pointer (some ⟨g, 0, none⟩)] w fun e w' => e = .returned (.tuple #[.string ⟨(fromF rest).1.toArray⟩, .int .i64 (fromF rest).2.1]) ∧ Rd w' g bv l (fromF rest).2.2 mv ml B ∧ Keeps g B w w' := by
  have C1 := Lib.hid (cFixed g B ⟨#[102]⟩ bv mv l rest ml w h hold hl (by decide))
  have e0 : (⟨#[102]⟩ : ByteArray).data.toList = [102] := rfl
  rw [e0] at C1
  have hcase : (fixedF [102] rest).1 ≠ 0 → fromF rest = ([], fixedF [102] rest) := fun h => by unfold fromF; rw [if_pos h]
  have hcase2 : (fixedF [102] rest).1 = 0 → (textF (fixedF [102] rest).2).2.1 ≠ 0 → fromF rest = ([], (textF (fixedF [102] rest).2).2) := fun h h2 => by unfold fromF; rw [if_neg (by simp [h]), if_pos h2]
  have hcase3 : (fixedF [102] rest).1 = 0 → (textF (fixedF [102] rest).2).2.1 = 0 → fromB (textF (fixedF [102] rest).2).1 = true → fromF rest = textF (fixedF [102] rest).2 := fun h h2 h3 => by unfold fromF; rw [if_neg (by simp [h]), if_neg (by simp [h2]), if_pos h3]
  have hcase4 : (fixedF [102] rest).1 = 0 → (textF (fixedF [102] rest).2).2.1 = 0 → fromB (textF (fixedF [102] rest).2).1 = false → fromF rest = ([], 30, (textF (fixedF [102] rest).2).2.2) := fun h h2 h3 => by unfold fromF; rw [if_neg (by simp [h]), if_neg (by simp [h2]), if_neg (by simp [h3])]
  generalize fixedF [102] rest = F at *
  obtain ⟨z, r1⟩ := F
  dsimp only at *
  have C2 := Lib.hid (fun w (h : Rd w g bv l r1 mv ml B) => cTxt g B bv mv l r1 ml w h hold hl)
  have hto := @text_ok r1
  have htl := text_len_any r1
  generalize textF r1 = T at *
  obtain ⟨t, z2, r2⟩ := T
  dsimp only at *
  obtain ⟨TT, hTT⟩ : ∃ TT : ByteArray, TT = ⟨(takeText r1).1.toArray⟩ := ⟨_, rfl⟩
  have hTs : TT.size ≤ 1048576 := by rw [hTT]; exact htl
  have C3 := Lib.hid (fun w => cMayBeFrom TT w (by omega))
  rw [← hTT] at C2
  clear h hold e0
  by_cases hz : z = 0
  · subst hz
    by_cases hz2 : z2 = 0
    · subst hz2
      have hTd : TT.data.toList = t := by rw [hTT]; exact (hto rfl).1
      have hTe : TT = ⟨t.toArray⟩ := by rw [hTT, (hto rfl).1]
      rw [hTd] at C3
      cases hfb : fromB t with
      | true =>
        rw [hcase3 rfl rfl hfb]
        rw [hfb] at C3
        have HE := Lib.hid hTe
        clear hcase hcase2 hcase3 hcase4 hto htl hTT hTd hTe hfb
        go_enter Tryd.func43, Tryd.ntmps43
        go_wp2
        refine wp_scope_fwd fun F hF => ?_
        have HF := Lib.hid hF
        clear hF
        go_wp2_with (go_at_call 41; refine C1.out.mono ?_; rintro e w1 ⟨rfl, h1, k1⟩; refine Hid.out ?_)
        refine Lib.hid ?_
        go_wp2_with (go_at_call 45; refine (C2.out _ h1).mono ?_; rintro e w2 ⟨rfl, h2, k2⟩; refine Hid.out ?_)
        refine Lib.hid ?_
        go_wp2_with (go_at_call 28; refine (C3.out _).mono ?_; rintro e w3 ⟨rfl, b3⟩; refine Hid.out ?_)
        refine Lib.hid ?_
        go_wp2
        rw [Exit.fwd_ret]
        go_ret2
        exact ⟨by rw [HE.out]; rfl, h2.on b3, (k1.trans k2).trans (Keeps.of_below b3 h2.size)⟩
      | false =>
        rw [hcase4 rfl rfl hfb]
        rw [hfb] at C3
        clear hcase hcase2 hcase3 hcase4 hto htl hTT hTd hTe hfb
        go_enter Tryd.func43, Tryd.ntmps43
        go_wp2
        refine wp_scope_fwd fun F hF => ?_
        have HF := Lib.hid hF
        clear hF
        go_wp2_with (go_at_call 41; refine C1.out.mono ?_; rintro e w1 ⟨rfl, h1, k1⟩; refine Hid.out ?_)
        refine Lib.hid ?_
        go_wp2_with (go_at_call 45; refine (C2.out _ h1).mono ?_; rintro e w2 ⟨rfl, h2, k2⟩; refine Hid.out ?_)
        refine Lib.hid ?_
        go_wp2_with (go_at_call 28; refine (C3.out _).mono ?_; rintro e w3 ⟨rfl, b3⟩; refine Hid.out ?_)
        refine Lib.hid ?_
        go_wp2
        go_step3
        refine ⟨_, by rw [HF.out]; rfl, ?_⟩
        clear HF
        go_wp2
        rw [Exit.noGoto_ret]
        go_ret2
        exact ⟨rfl, h2.on b3, (k1.trans k2).trans (Keeps.of_below b3 h2.size)⟩
    · rw [hcase2 rfl hz2]
      have hb2 : (z2 != 0) = true := by simpa using hz2
      clear hcase hcase2 hcase3 hcase4 hto htl hTT hz2
      go_enter Tryd.func43, Tryd.ntmps43
      go_wp2
      refine wp_scope_fwd fun F hF => ?_
      have HF := Lib.hid hF
      clear hF
      go_wp2_with (go_at_call 41; refine C1.out.mono ?_; rintro e w1 ⟨rfl, h1, k1⟩; refine Hid.out ?_)
      refine Lib.hid ?_
      go_wp2_with (go_at_call 45; refine (C2.out _ h1).mono ?_; rintro e w2 ⟨rfl, h2, k2⟩; refine Hid.out ?_)
      refine Lib.hid ?_
      go_wp2
      go_step3
      refine ⟨_, by rw [HF.out]; rfl, ?_⟩
      clear HF
      go_wp2
      rw [Exit.noGoto_ret]
      go_ret2
      exact ⟨rfl, h2, k1.trans k2⟩
  · rw [hcase hz]
    have hb2 : (z != 0) = true := by simpa using hz
    clear hcase hcase2 hcase3 hcase4 hto htl hTT hz
    go_enter Tryd.func43, Tryd.ntmps43
    go_wp2
    refine wp_scope_fwd fun F hF => ?_
    have HF := Lib.hid hF
    clear hF
    go_wp2_with (go_at_call 41; refine C1.out.mono ?_; rintro e w1 ⟨rfl, h1, k1⟩; refine Hid.out ?_)
    refine Lib.hid ?_
    go_wp2
    go_step3
    refine ⟨_, by rw [HF.out]; rfl, ?_⟩
    clear HF
    go_wp2
    rw [Exit.noGoto_ret]
    go_ret2
    exact ⟨rfl, h1, k1⟩
end Go.Proofs.YthoeicidilnleaaDoor.Codec
