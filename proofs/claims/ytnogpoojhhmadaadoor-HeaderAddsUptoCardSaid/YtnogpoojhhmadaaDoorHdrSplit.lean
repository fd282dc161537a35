/-
  HEADER, the given answers: a content is cut into fields: the walk.
-/
import Derived.Test.YtnogpoojhhmadaaDoorHdrSplM
import Derived.StillTailTactics
import Derived.BigQuiet
import Derived.Deep.DrawnRows
namespace Go.Proofs.YtnogpoojhhmadaaDoor.Header
open Go.RowKit Base
attribute [local go_sem ↓] Go.wp_at_zero Go.wp_at_succ
/-- What it answers. -/
def SplitEnd (l : List UInt8) (w : World) (e : Ending) (w' : World) : Prop :=
  Below w.heap.size w w' ∧ ((codeF (splitOf l).1 = 0 ∧ ∃ v, e = .returned (.tuple #[v, .int .i64 ((splitOf l).2 : Int), .int .i64 0]) ∧ FReads w' v (splitOf l).1) ∨ (codeF (splitOf l).1 ≠ 0 ∧ e = .returned (.tuple #[.slice none 0 0, .int .i64 0, .int .i64 (codeF (splitOf l).1 : Int)])))
theorem split_end {l : List UInt8} {w wr w' : World} {v : Value} {T : List Fld} {b : Nat} {e : Ending} (h : splitOf l = (T, b)) {a : Nat} (hi : SpI l w wr v T a) (hc : CheckEnd v T b wr e w') : SplitEnd l w e w' := by
  obtain ⟨rfl, hc⟩ := hc
  refine ⟨hi.below, ?_⟩
  rw [h]
  rcases hc with ⟨h1, h2⟩ | ⟨h1, h2⟩
  · exact Or.inl ⟨h1, v, h2, FReads.of_row hi.row rfl⟩
  · exact Or.inr ⟨h1, h2⟩
theorem SpI.ends {l : List UInt8} {w wr : World} {v : Value} {T : List Fld} {a : Nat} (h : SpI l w wr v T a) (b : Nat) (ha : a ≤ 1000000000000) : Calls Tryd.prog 24 #[v, .int .i64 (b : Int)] wr (CheckEnd v T b wr) :=
  rChecked v T b wr (FReads.of_row h.row rfl) (by have := h.few; omega) (fun f hf => by have := h.fits f hf; omega)
theorem row_kept {w w' : World} {B : Nat} {e : TypeId} {s : Nat} {v : Value} {n : Nat} {xs : List Value} (h : w.ownsRow B e s v n xs) (hk : ∀ b, v.ownBlock = some b → w'.heap[b]? = w.heap[b]?) : w'.ownsRow B e s v n xs := by
  refine ⟨h.1, ?_⟩
  rcases h.2 with hn | ⟨g, cap, cur, rfl, h1, h2, h3⟩
  · exact Or.inl hn
  · exact Or.inr ⟨g, cap, cur, rfl, h1, by rw [hk g rfl]; exact h2, h3⟩
theorem SpI.on {l : List UInt8} {w wr w2 : World} {v : Value} {T : List Fld} {a : Nat} (h : SpI l w wr v T a) (hb : Below wr.heap.size wr w2) : SpI l w w2 v T a :=
  ⟨h.below.trans (hb.mono h.below.size), row_kept h.row fun k hk => hb.block k (World.ownsRow.lt h.row k hk).2, h.fits, h.few⟩
theorem SpI.answer {l : List UInt8} {w wr : World} {v : Value} {T : List Fld} {a b : Nat} (h : SpI l w wr v T a) (ha : a ≤ 1000000000000) (hs : splitOf l = (T, b)) :
    ∃ r1 r2 r3, Calls Tryd.prog 24 #[v, .int .i64 (b : Int)] wr (fun e w' => e = .returned (.tuple #[r1, r2, r3]) ∧ wr = w') ∧ SplitEnd l w (.returned (.tuple #[r1, r2, r3])) wr := by
  have hk := h.ends b ha
  by_cases hc : codeF T = 0
  · refine ⟨v, .int .i64 (b : Int), .int .i64 0, hk.mono fun e w' hh => ?_, split_end hs h ⟨rfl, Or.inl ⟨hc, rfl⟩⟩⟩
    rcases hh with ⟨h1, ⟨_, h2⟩ | ⟨h2, _⟩⟩
    · exact ⟨h2, h1⟩
    · exact absurd hc h2
  · refine ⟨.slice none 0 0, .int .i64 0, .int .i64 (codeF T : Int), hk.mono fun e w' hh => ?_, split_end hs h ⟨rfl, Or.inr ⟨hc, rfl⟩⟩⟩
    rcases hh with ⟨h1, ⟨h2, _⟩ | ⟨_, h2⟩⟩
    · exact absurd h2 hc
    · exact ⟨h2, h1⟩
theorem reads_part {w : World} {b o c a e : Nat} {l : List UInt8} (h : Reads w (.slice (some ⟨b, o, none⟩) l.length c) l) (hc : l.length ≤ c) (ha : a < l.length) (hle : a ≤ e) (he : e ≤ l.length) : Reads w (.slice (some ⟨b, o + a, none⟩) (e - a) (c - a)) ((l.take e).drop a) := by
  have := Reads.part h hle he
  rw [if_neg (by omega)] at this
  simpa [Addr.add_lit] using this
theorem step_append_run {P : Program} {w : World} {ops : Array Oper} {o : Oper} {a : Act} {K : Act → World → Prop} {Q : Exit → Act → World → Prop} {E : Prop} (hgd : o.guard = none) (s x : Operand) (t : TypeId)
    (ho : o.op = .call { callee := .builtin .append, args := #[s, x], argTypes := #[t, t] }) (v y v' : Value) (w' : World) (hs : a.eval s = v) (hx : a.eval x = y) (ty : TypeId) (hty : o.type = ty) (hrun : (Builtin.append_ #[t, t] ty #[v, y]).run P w = .ok v' w')
    (h : K (a.put o.dst v') w') : if Region.wanted o (yielded ops a.tmps) = true then Oper.wp P o a w K Q else E := by
  have hw : Region.wanted o (yielded ops a.tmps) = true := by simp [Region.wanted, hgd]
  rw [if_pos hw]
  subst hty
  unfold Oper.wp execOp
  simp only [ho, resolve, invoke, builtin, Sem.run_bind, Sem.run_pure, Result.andThen_ok, List.map_toArray, List.map_cons, List.map_nil, hs, hx, hrun]
  exact h
set_option linter.unusedSimpArgs false in
set_option maxHeartbeats 16000000 in
set_option maxRecDepth 100000 in
theorem rSplit (A : Option Addr) (c : Nat) (l : List UInt8) (w : World) (hr : Reads w (.slice A l.length c) l) (hl : l.length ≤ 1000000000000) : Calls Tryd.prog 8 #[.slice A l.length c] w (SplitEnd l w) := by
  obtain ⟨fin, hfin⟩ : ∃ fin, fin = splitOf l := ⟨_, rfl⟩
  have HF0 : Hid (splitF l l.length 0 [] = fin) := hfin.symm
  have HFN : Hid (splitOf l = fin) := hfin.symm
  have HR := Lib.hid hr
  have HS := Lib.hid (SpI.start l w)
  clear hr hfin
  go_enter Tryd.func8, Tryd.ntmps8
  go_wp2
  go_loopw [5, 6, 7, 8, 9, 10, 11] (fun ov at_ _ _ _ _ _ wr => ∃ (n a : Nat) (v : Value) (T : List Fld), at_ = .int .i64 (a : Int) ∧ ov = v ∧ a ≤ l.length ∧ l.length ≤ a + n ∧ Hid (splitF l n a T = fin) ∧ Hid (SpI l w wr v T a)) (fun _ at_ _ _ _ _ _ _ => l.length - (intOf at_).toNat)
  case atStart => exact ⟨l.length, 0, _, [], rfl, rfl, by omega, by omega, HF0, HS⟩
  case round =>
    clear HF0 HS
    obtain ⟨n, a, v, T, rfl, hov, hal, han, HF, HI⟩ := hrel
    obtain rfl : v = _ := hov.symm
    have i0 : (0 : Int) ≤ (a : Int) := by omega
    by_cases hlt : a < l.length
    · have i1 : (a : Int) < (l.length : Int) := by omega
      obtain ⟨n, rfl⟩ : ∃ m, n = m + 1 := ⟨n - 1, by omega⟩
      have HRW := Lib.hid (HR.out.on HI.out.below)
      obtain ⟨b, o, hA, _, hcap, hcell⟩ := reads_cells HRW.out (i := a) hlt
      subst hA
      have c0 := hcell a hlt
      have hbd := line_bounds hlt
      have HL := Lib.hid (rLine (some ⟨b, o, none⟩) c l a wr HRW.out (by omega) (by omega))
      rw [splitF, if_pos hlt] at HF
      obtain ⟨e, x, hex⟩ : ∃ e x, lineOf l a = (e, x) := ⟨_, _, rfl⟩
      rw [hex] at HF hbd HL
      obtain ⟨hb1, hb2, hb3, hb4⟩ : a ≤ e ∧ e ≤ x ∧ x ≤ l.length ∧ a < x := hbd
      have i2 : (a : Int) ≤ (e : Int) := by omega
      have i3 : (e : Int) ≤ (c : Int) := by omega
      have hpl : e - a = ((l.take e).drop a).length := by rw [List.length_drop, List.length_take]; omega
      have HCO := Lib.hid (rColon _ _ _ _ wr (reads_part HRW.out hcap hlt hb1 (by omega)) hpl (by omega))
      have HBK := Lib.hid (rBlank (l.getD a 0) wr)
      obtain ⟨A0, ac, hform⟩ := HI.out.form
      subst hform
      have hfew := HI.out.few
      have HPL := Lib.hid hpl
      clear hcell hex hpl
      generalize l.getD a 0 = y at c0 HBK HF
      cases hco : colonOf ((l.take e).drop a) with
      | none =>
        rw [hco] at HCO
        have HCO2 : Hid (Calls Tryd.prog 22 #[.slice (some ⟨b, o + a, none⟩) (e - a) (c - a)] wr fun e' w' => e' = .returned (.int .i64 (-1)) ∧ wr = w') := HCO.out
        by_cases hcont : a < e ∧ isBl y = true ∧ T ≠ []
        · obtain ⟨T0, f, hT⟩ := snoc_of hcont.2.2
          have hTl : T.length = T0.length + 1 := by rw [hT]; simp
          have HI2 : SpI l w wr (.slice A0 (T0.length + 1) ac) (T0 ++ [f]) a := by have := HI.out; rw [hTl, hT] at this; exact this
          obtain ⟨hf1, hf2, hf3⟩ := HI2.fits f (by simp)
          have hf4 : f.fr ≤ 1000000000000 := by omega
          have hf5 : f.nm.length ≤ 1000000000000 := by omega
          obtain ⟨g, CF⟩ := SpI.cont (e := e) (x := x) HI2 (by omega)
          have HF2 : Hid (splitF l n x (T0 ++ [⟨f.nm, (l.take e).drop (f.fr + f.nm.length + 1), f.fr, x⟩]) = fin) := by
            have := HF.out
            rw [if_pos hcont, hT, contF_snoc] at this
            exact this
          have HBK2 : Hid (Calls Tryd.prog 23 #[.int .u8 (y.toNat : Int)] wr fun e' w' => e' = .returned (.bool true) ∧ wr = w') := by have := HBK.out; rw [hcont.2.1] at this; exact this
          obtain ⟨wy, hwy⟩ : ∃ wy, wy = wr.setCell ⟨g, T0.length * 4 + 3, none⟩ (.int .i64 (x : Int)) := ⟨_, rfl⟩
          have HWY := Lib.hid hwy
          have hA0 := CF.at_
          subst hA0
          obtain ⟨u3, c3⟩ := CF.c3
          have z3 := CF.z (T0.length * 4 + 3)
          have d0 := CF.d0
          have d1 := CF.d1
          have d2 := CF.d2
          have dz := CF.dz (T0.length * 4 + 1)
          have HBE := CF.bel
          have HFI := CF.fin
          rw [← hwy] at d0 d1 d2 dz HBE HFI
          have HBE2 := Lib.hid HBE
          have HFI2 := Lib.hid HFI
          have hcv := conv_reads (reads_part (HR.out.on HBE).drew hcap (show f.fr + f.nm.length + 1 < l.length by omega) (show f.fr + f.nm.length + 1 ≤ e by omega) (by omega))
          have j1 : (a : Int) < (e : Int) := by omega
          have j2 : (T.length : Int) - 1 = (T0.length : Int) := by omega
          have j3 : (0 : Int) ≤ (T0.length : Int) := by omega
          have j4 : (T0.length : Int) < (T.length : Int) := by omega
          have j6 : (0 : Int) ≤ (f.fr : Int) + (f.nm.length : Int) + 1 := by omega
          have j7 : (f.fr : Int) + (f.nm.length : Int) + 1 ≤ (e : Int) := by omega
          have j8 : ¬ c = f.fr + f.nm.length + 1 := by omega
          have j10 : ((f.fr : Int) + (f.nm.length : Int) + 1).toNat = f.fr + f.nm.length + 1 := by omega
          have HT1 := Lib.hid hTl
          clear CF HI2 HI hT hcont HBK HCO HF hwy HBE HFI hco HRW hTl
          go_wp2_with (first | (go_at_call 21; refine HL.out.mono ?_; rintro ee w' ⟨rfl, rfl⟩; refine Hid.out ?_) | fail)
          refine Lib.hid ?_
          go_wp2_with (first | (go_at_call 22; refine HCO2.out.mono ?_; rintro ee w' ⟨rfl, rfl⟩; refine Hid.out ?_) | fail)
          refine Lib.hid ?_
          go_wp2_with (first | (go_at_call 23; refine HBK2.out.mono ?_; rintro ee w' ⟨rfl, rfl⟩; refine Hid.out ?_) | fail)
          refine Lib.hid ?_
          go_upto_region 14 with fail
          rw [← HWY.out]
          clear c3 z3 HL HCO2 HBK2 c0 HWY
          go_region
          go_wp2
          go_roundw
          case rel => exact ⟨n, x, .slice (some ⟨g, 0, none⟩) (T0.length + 1) ac, T0 ++ [(⟨f.nm, (l.take e).drop (f.fr + f.nm.length + 1), f.fr, x⟩ : Fld)], rfl, by rw [HT1.out], hb3, by omega, HF2, (HFI2.out wy (Or.inl rfl)).on (Below.refl _ _).drew⟩
          case measure => simp [intOf]; omega
        · have HF2 : Hid ((T, if e = a then x else a) = fin) := by have := HF.out; rw [if_neg hcont, hco] at this; exact this
          clear HF hco HCO
          by_cases hea : e = a
          · have HS2 : splitOf l = (T, x) := by rw [HFN.out, ← HF2.out, if_pos hea]
            obtain ⟨r1, r2, r3, hcall, hend⟩ := HI.out.answer (by omega) HS2
            have HCK := Lib.hid hcall
            have HEN := Lib.hid hend
            have j1 : ¬ (a : Int) < (e : Int) := by omega
            have j2 : ((e : Int) == (a : Int)) = true := by rw [beq_iff_eq]; omega
            clear hcall hend HS2 HF2 hcont HBK hea
            go_wp2_with (first | (go_at_call 21; refine HL.out.mono ?_; rintro ee w' ⟨rfl, rfl⟩; refine Hid.out ?_) | fail)
            refine Lib.hid ?_
            go_wp2_with (first | (go_at_call 22; refine HCO2.out.mono ?_; rintro ee w' ⟨rfl, rfl⟩; refine Hid.out ?_) | fail)
            refine Lib.hid ?_
            go_wp2_with (first | (go_at_call 24; refine HCK.out.mono ?_; rintro ee w' ⟨rfl, rfl⟩; refine Hid.out ?_) | fail)
            refine Lib.hid ?_
            go_wp2
            go_ret3
            exact HEN.out
          · have HS2 : splitOf l = (T, a) := by rw [HFN.out, ← HF2.out, if_neg hea]
            obtain ⟨r1, r2, r3, hcall, hend⟩ := HI.out.answer (by omega) HS2
            have HCK := Lib.hid hcall
            have HEN := Lib.hid hend
            have j1 : (a : Int) < (e : Int) := by omega
            have j2 : ((e : Int) == (a : Int)) = false := by rw [beq_eq_false_iff_ne]; omega
            cases hb : isBl y
            · have HBK2 : Hid (Calls Tryd.prog 23 #[.int .u8 (y.toNat : Int)] wr fun e' w' => e' = .returned (.bool false) ∧ wr = w') := by have := HBK.out; rw [hb] at this; exact this
              clear hcall hend HS2 HF2 hcont HBK hb
              go_wp2_with (first | (go_at_call 21; refine HL.out.mono ?_; rintro ee w' ⟨rfl, rfl⟩; refine Hid.out ?_) | fail)
              refine Lib.hid ?_
              go_wp2_with (first | (go_at_call 22; refine HCO2.out.mono ?_; rintro ee w' ⟨rfl, rfl⟩; refine Hid.out ?_) | fail)
              refine Lib.hid ?_
              go_wp2_with (first | (go_at_call 23; refine HBK2.out.mono ?_; rintro ee w' ⟨rfl, rfl⟩; refine Hid.out ?_) | fail)
              refine Lib.hid ?_
              go_wp2_with (first | (go_at_call 24; refine HCK.out.mono ?_; rintro ee w' ⟨rfl, rfl⟩; refine Hid.out ?_) | fail)
              refine Lib.hid ?_
              go_wp2
              go_ret3
              exact HEN.out
            · have hT0 : T = [] := by
                rcases Classical.em (T = []) with h | h
                · exact h
                · exact absurd ⟨by omega, hb, h⟩ hcont
              have hTl : T.length = 0 := by rw [hT0]; rfl
              have j3 : (T.length : Int) - 1 = -1 := by omega
              have HBK2 : Hid (Calls Tryd.prog 23 #[.int .u8 (y.toNat : Int)] wr fun e' w' => e' = .returned (.bool true) ∧ wr = w') := by have := HBK.out; rw [hb] at this; exact this
              clear hcall hend HS2 HF2 hcont HBK hb hT0 hTl
              go_wp2_with (first | (go_at_call 21; refine HL.out.mono ?_; rintro ee w' ⟨rfl, rfl⟩; refine Hid.out ?_) | fail)
              refine Lib.hid ?_
              go_wp2_with (first | (go_at_call 22; refine HCO2.out.mono ?_; rintro ee w' ⟨rfl, rfl⟩; refine Hid.out ?_) | fail)
              refine Lib.hid ?_
              go_wp2_with (first | (go_at_call 23; refine HBK2.out.mono ?_; rintro ee w' ⟨rfl, rfl⟩; refine Hid.out ?_) | fail)
              refine Lib.hid ?_
              go_wp2_with (first | (go_at_call 24; refine HCK.out.mono ?_; rintro ee w' ⟨rfl, rfl⟩; refine Hid.out ?_) | fail)
              refine Lib.hid ?_
              go_wp2
              go_ret3
              exact HEN.out
      | some k =>
        rw [hco] at HCO
        obtain ⟨kp1, kp2, _⟩ := colon_pos hco
        rw [← HPL.out] at kp2
        have HCO2 : Hid (Calls Tryd.prog 22 #[.slice (some ⟨b, o + a, none⟩) (e - a) (c - a)] wr fun e' w' => e' = .returned (.int .i64 (k : Int)) ∧ wr = w') := HCO.out
        by_cases hcont : a < e ∧ isBl y = true ∧ T ≠ []
        · obtain ⟨T0, f, hT⟩ := snoc_of hcont.2.2
          have hTl : T.length = T0.length + 1 := by rw [hT]; simp
          have HI2 : SpI l w wr (.slice A0 (T0.length + 1) ac) (T0 ++ [f]) a := by have := HI.out; rw [hTl, hT] at this; exact this
          obtain ⟨hf1, hf2, hf3⟩ := HI2.fits f (by simp)
          have hf4 : f.fr ≤ 1000000000000 := by omega
          have hf5 : f.nm.length ≤ 1000000000000 := by omega
          obtain ⟨g, CF⟩ := SpI.cont (e := e) (x := x) HI2 (by omega)
          have HF2 : Hid (splitF l n x (T0 ++ [⟨f.nm, (l.take e).drop (f.fr + f.nm.length + 1), f.fr, x⟩]) = fin) := by
            have := HF.out
            rw [if_pos hcont, hT, contF_snoc] at this
            exact this
          have HBK2 : Hid (Calls Tryd.prog 23 #[.int .u8 (y.toNat : Int)] wr fun e' w' => e' = .returned (.bool true) ∧ wr = w') := by have := HBK.out; rw [hcont.2.1] at this; exact this
          obtain ⟨wy, hwy⟩ : ∃ wy, wy = wr.setCell ⟨g, T0.length * 4 + 3, none⟩ (.int .i64 (x : Int)) := ⟨_, rfl⟩
          have HWY := Lib.hid hwy
          have hA0 := CF.at_
          subst hA0
          obtain ⟨u3, c3⟩ := CF.c3
          have z3 := CF.z (T0.length * 4 + 3)
          have d0 := CF.d0
          have d1 := CF.d1
          have d2 := CF.d2
          have dz := CF.dz (T0.length * 4 + 1)
          have HBE := CF.bel
          have HFI := CF.fin
          rw [← hwy] at d0 d1 d2 dz HBE HFI
          have HBE2 := Lib.hid HBE
          have HFI2 := Lib.hid HFI
          have hcv := conv_reads (reads_part (HR.out.on HBE).drew hcap (show f.fr + f.nm.length + 1 < l.length by omega) (show f.fr + f.nm.length + 1 ≤ e by omega) (by omega))
          have j1 : (a : Int) < (e : Int) := by omega
          have j2 : (T.length : Int) - 1 = (T0.length : Int) := by omega
          have j3 : (0 : Int) ≤ (T0.length : Int) := by omega
          have j4 : (T0.length : Int) < (T.length : Int) := by omega
          have j6 : (0 : Int) ≤ (f.fr : Int) + (f.nm.length : Int) + 1 := by omega
          have j7 : (f.fr : Int) + (f.nm.length : Int) + 1 ≤ (e : Int) := by omega
          have j8 : ¬ c = f.fr + f.nm.length + 1 := by omega
          have j10 : ((f.fr : Int) + (f.nm.length : Int) + 1).toNat = f.fr + f.nm.length + 1 := by omega
          have HT1 := Lib.hid hTl
          clear CF HI2 HI hT hcont HBK HCO HF hwy HBE HFI hco HRW hTl
          go_wp2_with (first | (go_at_call 21; refine HL.out.mono ?_; rintro ee w' ⟨rfl, rfl⟩; refine Hid.out ?_) | fail)
          refine Lib.hid ?_
          go_wp2_with (first | (go_at_call 22; refine HCO2.out.mono ?_; rintro ee w' ⟨rfl, rfl⟩; refine Hid.out ?_) | fail)
          refine Lib.hid ?_
          go_wp2_with (first | (go_at_call 23; refine HBK2.out.mono ?_; rintro ee w' ⟨rfl, rfl⟩; refine Hid.out ?_) | fail)
          refine Lib.hid ?_
          go_upto_region 14 with fail
          rw [← HWY.out]
          clear c3 z3 HL HCO2 HBK2 c0 HWY
          go_region
          go_wp2
          go_roundw
          case rel => exact ⟨n, x, .slice (some ⟨g, 0, none⟩) (T0.length + 1) ac, T0 ++ [(⟨f.nm, (l.take e).drop (f.fr + f.nm.length + 1), f.fr, x⟩ : Fld)], rfl, by rw [HT1.out], hb3, by omega, HF2, (HFI2.out wy (Or.inl rfl)).on (Below.refl _ _).drew⟩
          case measure => simp [intOf]; omega
        · have HF2 : Hid (splitF l n x (T ++ [⟨(l.take (a + k)).drop a, (l.take e).drop (a + k + 1), a, x⟩]) = fin) := by have := HF.out; rw [if_neg hcont, hco] at this; exact this
          have hk1 : ((l.take (a + k)).drop a).length = k := by rw [List.length_drop, List.length_take]; omega
          obtain ⟨na, nc, w3, AF⟩ := SpI.add (f := ⟨(l.take (a + k)).drop a, (l.take e).drop (a + k + 1), a, x⟩) HI.out hb4 ⟨by show a + ((l.take (a + k)).drop a).length + 1 ≤ x; omega, by show ((l.take e).drop (a + k + 1)).length ≤ _; rw [List.length_drop, List.length_take]; omega⟩ (by omega)
          have HFIN : Hid (SpI l w w3 (.slice na (T.length + 1) nc) (T ++ [⟨(l.take (a + k)).drop a, (l.take e).drop (a + k + 1), a, x⟩]) x) := AF.fin
          have hrun : (Builtin.append_ #[24, 24] 24 #[.slice A0 T.length ac, .slice (some ⟨wr.heap.size, 0, none⟩) 1 1]).run Tryd.prog (wr.alloc (.cells #[.string ⟨((l.take (a + k)).drop a).toArray⟩, .string ⟨((l.take e).drop (a + k + 1)).toArray⟩, .int .i64 (a : Int), .int .i64 (x : Int)] 30)).drew = .ok (.slice na (T.length + 1) nc) w3 := AF.run
          have HRU := Lib.hid hrun
          have hr1 := Reads.part HR.out (show a ≤ a + k by omega) (by omega)
          have hr2 := Reads.part HR.out (show a + k + 1 ≤ e by omega) (by omega)
          have m1 : (0 : Int) < (k : Int) := by omega
          have m2 : (a : Int) ≤ (a : Int) + (k : Int) := by omega
          have m3 : (a : Int) + (k : Int) ≤ (c : Int) := by omega
          have m4 : (0 : Int) ≤ (a : Int) + (k : Int) + 1 := by omega
          have m5 : (a : Int) + (k : Int) + 1 ≤ (e : Int) := by omega
          have m6 : ((a : Int) + (k : Int)).toNat = a + k := by omega
          have m7 : ((a : Int) + (k : Int) + 1).toNat = a + k + 1 := by omega
          have m8 : a + k - a = k := by omega
          rw [m8] at hr1
          have w1 : IntKind.i64.wrap ((a : Int) + (k : Int)) = (a : Int) + (k : Int) := by simp [IntKind.wrap, IntKind.bits, IntKind.signed]; omega
          have w2 : IntKind.i64.wrap ((a : Int) + (k : Int) + 1) = (a : Int) + (k : Int) + 1 := by simp [IntKind.wrap, IntKind.bits, IntKind.signed]; omega
          have j1 : (a : Int) < (e : Int) := by omega
          have HBD : Hid (Below w.heap.size w wr.drew) := HI.out.below.trans (Below.mono (Below.refl _ _).drew HI.out.below.size)
          have HBA : Hid (Below w.heap.size w (wr.drew.alloc (.cells #[.string ⟨((l.take (a + k)).drop a).toArray⟩, .string ⟨((l.take e).drop (a + k + 1)).toArray⟩, .int .i64 (a : Int), .int .i64 (x : Int)] 30))) := HBD.out.trans ((Below.alloc1 wr.drew _).mono HBD.out.size)
          clear AF HF HCO hco HI hk1 m8 hrun
          simp only [Option.map_some, Addr.add_lit] at hr1 hr2
          have s0 := Lib.hid (And.intro (conv_reads (hr1.on HBD.out)) (conv_reads (hr2.on HBD.out)))
          have s1 := Lib.hid (And.intro (conv_reads (hr1.on HBA.out)) (conv_reads (hr2.on HBA.out)))
          have s2 := Lib.hid (And.intro (conv_reads (hr1.on HFIN.out.below)) (conv_reads (hr2.on HFIN.out.below)))
          clear hr1 hr2 HBD HBA
          cases hb : isBl y
          · have HBK2 : Hid (Calls Tryd.prog 23 #[.int .u8 (y.toNat : Int)] wr fun e' w' => e' = .returned (.bool false) ∧ wr = w') := by have := HBK.out; rw [hb] at this; exact this
            clear hcont HBK hb
            go_wp2_with (first | (go_at_call 21; refine HL.out.mono ?_; rintro ee w' ⟨rfl, rfl⟩; refine Hid.out ?_) | fail)
            refine Lib.hid ?_
            go_wp2_with (first | (go_at_call 22; refine HCO2.out.mono ?_; rintro ee w' ⟨rfl, rfl⟩; refine Hid.out ?_) | fail)
            refine Lib.hid ?_
            go_wp2_with (first | (go_at_call 23; refine HBK2.out.mono ?_; rintro ee w' ⟨rfl, rfl⟩; refine Hid.out ?_) | fail)
            refine Lib.hid ?_
            clear HL HCO2 HBK2 c0 HRW HR
            go_wp2_with fail
            refine wp_region_noPanic ?_
            refine wp_region_held_drew (S := (fun w' => (convert 22 9 (.slice (if c = a then some ⟨b, o, none⟩ else some ⟨b, o + a, none⟩) k (c - a))).run Tryd.prog w' = .ok (.string ⟨((l.take (a + k)).drop a).toArray⟩) w' ∧ (convert 22 9 (.slice (if c = a + k + 1 then some ⟨b, o, none⟩ else some ⟨b, o + (a + k + 1), none⟩) (e - (a + k + 1)) (c - (a + k + 1)))).run Tryd.prog w' = .ok (.string ⟨((l.take e).drop (a + k + 1)).toArray⟩) w')) (by kernel_rfl) s0.out (fun hHeld => ?_)
            refine wpAnyH_take (i := 0) (v := ?v1) rfl (by kernel_rfl) (by kernel_rfl) (by kernel_rfl) (fun _ _ _ h => h) (Or.inl ⟨by rfl, ?hy1⟩) (by assumption) ?rest1
            case hy1 => (intro w hSw; (try dsimp only at hSw); obtain ⟨q1, q2⟩ := hSw; go_simp; try with_reducible rfl)
            (try simp only [Act.put, List.getElem_toArray, List.getElem_cons_succ, List.getElem_cons_zero, List.setIfInBounds_toArray, List.set_cons_zero, List.set_cons_succ])
            refine wpAnyH_take (i := 1) (v := ?v2) rfl (by kernel_rfl) (by kernel_rfl) (by kernel_rfl) (fun _ _ _ h => h) (Or.inl ⟨by rfl, ?hy2⟩) (by assumption) ?rest2
            case hy2 => (intro w hSw; (try dsimp only at hSw); obtain ⟨q1, q2⟩ := hSw; go_simp; try with_reducible rfl)
            (try simp only [Act.put, List.getElem_toArray, List.getElem_cons_succ, List.getElem_cons_zero, List.setIfInBounds_toArray, List.set_cons_zero, List.set_cons_succ])
            refine wpAnyH_take (i := 2) (v := ?v3) rfl (by kernel_rfl) (by kernel_rfl) (by kernel_rfl) (fun _ _ _ h => h) (Or.inl ⟨by rfl, ?hy3⟩) (by assumption) ?rest3
            case hy3 => (intro w hSw; (try dsimp only at hSw); obtain ⟨q1, q2⟩ := hSw; go_simp; try with_reducible rfl)
            (try simp only [Act.put, List.getElem_toArray, List.getElem_cons_succ, List.getElem_cons_zero, List.setIfInBounds_toArray, List.set_cons_zero, List.set_cons_succ])
            refine wpAnyH_take (i := 3) (v := ?v4) rfl (by kernel_rfl) (by kernel_rfl) (by kernel_rfl) (fun _ _ _ h => h) (Or.inl ⟨by rfl, ?hy4⟩) (by assumption) ?rest4
            case hy4 => (intro w hSw; (try dsimp only at hSw); obtain ⟨q1, q2⟩ := hSw; go_simp; try with_reducible rfl)
            (try simp only [Act.put, List.getElem_toArray, List.getElem_cons_succ, List.getElem_cons_zero, List.setIfInBounds_toArray, List.set_cons_zero, List.set_cons_succ])
            refine wpAnyH_take (i := 4) (v := ?v5) rfl (by kernel_rfl) (by kernel_rfl) (by kernel_rfl) (fun _ _ _ h => h) (Or.inl ⟨by rfl, ?hy5⟩) (by assumption) ?rest5
            case hy5 => (intro w hSw; (try dsimp only at hSw); obtain ⟨q1, q2⟩ := hSw; go_simp; try with_reducible rfl)
            (try simp only [Act.put, List.getElem_toArray, List.getElem_cons_succ, List.getElem_cons_zero, List.setIfInBounds_toArray, List.set_cons_zero, List.set_cons_succ])
            refine wpAnyH_take (i := 5) (v := ?v6) rfl (by kernel_rfl) (by kernel_rfl) (by kernel_rfl) (fun _ _ _ h => h) (Or.inl ⟨by rfl, ?hy6⟩) (by assumption) ?rest6
            case hy6 => (intro w hSw; (try dsimp only at hSw); obtain ⟨q1, q2⟩ := hSw; go_simp; try with_reducible rfl)
            (try simp only [Act.put, List.getElem_toArray, List.getElem_cons_succ, List.getElem_cons_zero, List.setIfInBounds_toArray, List.set_cons_zero, List.set_cons_succ])
            refine wpAnyH_take (i := 6) (v := ?v7) rfl (by kernel_rfl) (by kernel_rfl) (by kernel_rfl) (fun _ _ _ h => h) (Or.inl ⟨by rfl, ?hy7⟩) (by assumption) ?rest7
            case hy7 => (intro w hSw; (try dsimp only at hSw); obtain ⟨q1, q2⟩ := hSw; go_simp; try with_reducible rfl)
            (try simp only [Act.put, List.getElem_toArray, List.getElem_cons_succ, List.getElem_cons_zero, List.setIfInBounds_toArray, List.set_cons_zero, List.set_cons_succ])
            refine wpAnyH_take (i := 7) (v := ?v8) rfl (by kernel_rfl) (by kernel_rfl) (by kernel_rfl) (fun _ _ _ h => h) (Or.inl ⟨by rfl, ?hy8⟩) (by assumption) ?rest8
            case hy8 => (intro w hSw; (try dsimp only at hSw); obtain ⟨q1, q2⟩ := hSw; go_simp; try with_reducible rfl)
            (try simp only [Act.put, List.getElem_toArray, List.getElem_cons_succ, List.getElem_cons_zero, List.setIfInBounds_toArray, List.set_cons_zero, List.set_cons_succ])
            refine wpAnyH_take (i := 8) (v := ?v9) rfl (by kernel_rfl) (by kernel_rfl) (by kernel_rfl) (fun _ _ _ h => h) (Or.inl ⟨by rfl, ?hy9⟩) (by assumption) ?rest9
            case hy9 => (intro w hSw; (try dsimp only at hSw); obtain ⟨q1, q2⟩ := hSw; go_simp; try with_reducible rfl)
            (try simp only [Act.put, List.getElem_toArray, List.getElem_cons_succ, List.getElem_cons_zero, List.setIfInBounds_toArray, List.set_cons_zero, List.set_cons_succ])
            refine wpAnyH_take (i := 9) (v := ?v10) rfl (by kernel_rfl) (by kernel_rfl) (by kernel_rfl) (fun _ _ _ h => h) (Or.inl ⟨by rfl, ?hy10⟩) (by assumption) ?rest10
            case hy10 => (intro w hSw; (try dsimp only at hSw); obtain ⟨q1, q2⟩ := hSw; go_simp; try with_reducible rfl)
            (try simp only [Act.put, List.getElem_toArray, List.getElem_cons_succ, List.getElem_cons_zero, List.setIfInBounds_toArray, List.set_cons_zero, List.set_cons_succ])
            refine wpAnyH_take (i := 10) (v := ?v11) rfl (by kernel_rfl) (by kernel_rfl) (by kernel_rfl) (fun _ _ _ h => h) (Or.inl ⟨by rfl, ?hy11⟩) (by assumption) ?rest11
            case hy11 => (intro w hSw; (try dsimp only at hSw); obtain ⟨q1, q2⟩ := hSw; go_simp; try with_reducible rfl)
            (try simp only [Act.put, List.getElem_toArray, List.getElem_cons_succ, List.getElem_cons_zero, List.setIfInBounds_toArray, List.set_cons_zero, List.set_cons_succ])
            refine wpAnyH_take (i := 11) (v := ?v12) rfl (by kernel_rfl) (by kernel_rfl) (by kernel_rfl) (fun _ _ _ h => h) (Or.inl ⟨by rfl, ?hy12⟩) (by assumption) ?rest12
            case hy12 => (intro w hSw; (try dsimp only at hSw); obtain ⟨q1, q2⟩ := hSw; go_simp; try with_reducible rfl)
            (try simp only [Act.put, List.getElem_toArray, List.getElem_cons_succ, List.getElem_cons_zero, List.setIfInBounds_toArray, List.set_cons_zero, List.set_cons_succ])
            refine wpAnyH_take (i := 12) (v := ?v13) rfl (by kernel_rfl) (by kernel_rfl) (by kernel_rfl) (fun _ _ _ h => h) (Or.inl ⟨by rfl, ?hy13⟩) (by assumption) ?rest13
            case hy13 => (intro w hSw; (try dsimp only at hSw); obtain ⟨q1, q2⟩ := hSw; go_simp; try with_reducible rfl)
            (try simp only [Act.put, List.getElem_toArray, List.getElem_cons_succ, List.getElem_cons_zero, List.setIfInBounds_toArray, List.set_cons_zero, List.set_cons_succ])
            refine wpAnyH_take (i := 13) (v := ?v14) rfl (by kernel_rfl) (by kernel_rfl) (by kernel_rfl) (fun _ _ _ h => h) (Or.inl ⟨by rfl, ?hy14⟩) (by assumption) ?rest14
            case hy14 => (intro w hSw; (try dsimp only at hSw); obtain ⟨q1, q2⟩ := hSw; go_simp; try with_reducible rfl)
            (try simp only [Act.put, List.getElem_toArray, List.getElem_cons_succ, List.getElem_cons_zero, List.setIfInBounds_toArray, List.set_cons_zero, List.set_cons_succ])
            refine wpAnyH_take (i := 14) (v := ?v15) rfl (by kernel_rfl) (by kernel_rfl) (by kernel_rfl) (fun _ _ _ h => h) (Or.inl ⟨by rfl, ?hy15⟩) (by assumption) ?rest15
            case hy15 => (intro w hSw; (try dsimp only at hSw); obtain ⟨q1, q2⟩ := hSw; go_simp; try with_reducible rfl)
            (try simp only [Act.put, List.getElem_toArray, List.getElem_cons_succ, List.getElem_cons_zero, List.setIfInBounds_toArray, List.set_cons_zero, List.set_cons_succ])
            refine wpAnyH_take (i := 15) (v := ?v16) rfl (by kernel_rfl) (by kernel_rfl) (by kernel_rfl) (fun _ _ _ h => h) (Or.inl ⟨by rfl, ?hy16⟩) (by assumption) ?rest16
            case hy16 => (intro w hSw; (try dsimp only at hSw); obtain ⟨q1, q2⟩ := hSw; go_simp; try with_reducible rfl)
            (try simp only [Act.put, List.getElem_toArray, List.getElem_cons_succ, List.getElem_cons_zero, List.setIfInBounds_toArray, List.set_cons_zero, List.set_cons_succ])
            refine wpAnyH_take (i := 16) (v := ?v17) rfl (by kernel_rfl) (by kernel_rfl) (by kernel_rfl) (fun _ _ _ h => h) (Or.inl ⟨by rfl, ?hy17⟩) (by assumption) ?rest17
            case hy17 => (intro w hSw; (try dsimp only at hSw); obtain ⟨q1, q2⟩ := hSw; go_simp; try with_reducible rfl)
            (try simp only [Act.put, List.getElem_toArray, List.getElem_cons_succ, List.getElem_cons_zero, List.setIfInBounds_toArray, List.set_cons_zero, List.set_cons_succ])
            refine wpAnyH_take (i := 17) (v := ?v18) rfl (by kernel_rfl) (by kernel_rfl) (by kernel_rfl) (fun _ _ _ h => h) (Or.inl ⟨by rfl, ?hy18⟩) (by assumption) ?rest18
            case hy18 => (intro w hSw; (try dsimp only at hSw); obtain ⟨q1, q2⟩ := hSw; go_simp; try with_reducible rfl)
            (try simp only [Act.put, List.getElem_toArray, List.getElem_cons_succ, List.getElem_cons_zero, List.setIfInBounds_toArray, List.set_cons_zero, List.set_cons_succ])
            refine wpAnyH_take (i := 18) (v := ?v19) rfl (by kernel_rfl) (by kernel_rfl) (by kernel_rfl) (fun _ _ _ h => h) (Or.inl ⟨by rfl, ?hy19⟩) (by assumption) ?rest19
            case hy19 => (intro w hSw; (try dsimp only at hSw); obtain ⟨q1, q2⟩ := hSw; go_simp; try with_reducible rfl)
            (try simp only [Act.put, List.getElem_toArray, List.getElem_cons_succ, List.getElem_cons_zero, List.setIfInBounds_toArray, List.set_cons_zero, List.set_cons_succ])
            refine wpAnyH_ready (rs := [19]) (by kernel_rfl) (by simp) ?_
            refine AllReadyH.cons rfl (fun K hK => ?_) AllReadyH.nil
            go_simp
            refine hK.out _ _ (by (first | exact s0.out | exact s1.out | exact s2.out)) (fun hHeld => ?_)
            clear hK K
            (try simp only [Act.put, List.getElem_toArray, List.getElem_cons_succ, List.getElem_cons_zero, List.setIfInBounds_toArray, List.set_cons_zero, List.set_cons_succ])
            refine wpAnyH_ready (rs := [20]) (by kernel_rfl) (by simp) ?_
            refine AllReadyH.cons rfl (fun K hK => ?_) AllReadyH.nil
            refine step_append_run rfl (.tmp 85) (.tmp 104) 24 rfl _ _ _ _ (by simp [Act.eval, Act.put]) (by simp [Act.eval, Act.put]) 24 rfl HRU.out ?_
            refine hK.out _ _ (by (first | exact s0.out | exact s1.out | exact s2.out)) (fun hHeld => ?_)
            clear hK K
            (try simp only [Act.put, List.getElem_toArray, List.getElem_cons_succ, List.getElem_cons_zero, List.setIfInBounds_toArray, List.set_cons_zero, List.set_cons_succ])
            refine wpAnyH_take (i := 21) (v := ?v20) rfl (by kernel_rfl) (by kernel_rfl) (by kernel_rfl) (fun _ _ _ h => h) (Or.inl ⟨by rfl, ?hy20⟩) (by assumption) ?rest20
            case hy20 => (intro w hSw; (try dsimp only at hSw); obtain ⟨q1, q2⟩ := hSw; go_simp; try with_reducible rfl)
            (try simp only [Act.put, List.getElem_toArray, List.getElem_cons_succ, List.getElem_cons_zero, List.setIfInBounds_toArray, List.set_cons_zero, List.set_cons_succ])
            refine wpAnyH_done (by kernel_rfl) ?_ _
            refine NoPanic.normal ?_
            go_wp2
            go_roundw
            case rel => exact ⟨n, x, .slice na (T.length + 1) nc, T ++ [(⟨(l.take (a + k)).drop a, (l.take e).drop (a + k + 1), a, x⟩ : Fld)], rfl, rfl, hb3, by omega, HF2, HFIN⟩
            case measure => simp [intOf]; omega
          · have hT0 : T = [] := by
              rcases Classical.em (T = []) with h | h
              · exact h
              · exact absurd ⟨by omega, hb, h⟩ hcont
            have hTl : T.length = 0 := by rw [hT0]; rfl
            have j3 : (T.length : Int) - 1 = -1 := by omega
            have HBK2 : Hid (Calls Tryd.prog 23 #[.int .u8 (y.toNat : Int)] wr fun e' w' => e' = .returned (.bool true) ∧ wr = w') := by have := HBK.out; rw [hb] at this; exact this
            clear hcont HBK hb hT0 hTl
            go_wp2_with (first | (go_at_call 21; refine HL.out.mono ?_; rintro ee w' ⟨rfl, rfl⟩; refine Hid.out ?_) | fail)
            refine Lib.hid ?_
            go_wp2_with (first | (go_at_call 22; refine HCO2.out.mono ?_; rintro ee w' ⟨rfl, rfl⟩; refine Hid.out ?_) | fail)
            refine Lib.hid ?_
            go_wp2_with (first | (go_at_call 23; refine HBK2.out.mono ?_; rintro ee w' ⟨rfl, rfl⟩; refine Hid.out ?_) | fail)
            refine Lib.hid ?_
            clear HL HCO2 HBK2 c0 HRW HR
            go_wp2_with fail
            refine wp_region_noPanic ?_
            refine wp_region_held_drew (S := (fun w' => (convert 22 9 (.slice (if c = a then some ⟨b, o, none⟩ else some ⟨b, o + a, none⟩) k (c - a))).run Tryd.prog w' = .ok (.string ⟨((l.take (a + k)).drop a).toArray⟩) w' ∧ (convert 22 9 (.slice (if c = a + k + 1 then some ⟨b, o, none⟩ else some ⟨b, o + (a + k + 1), none⟩) (e - (a + k + 1)) (c - (a + k + 1)))).run Tryd.prog w' = .ok (.string ⟨((l.take e).drop (a + k + 1)).toArray⟩) w')) (by kernel_rfl) s0.out (fun hHeld => ?_)
            refine wpAnyH_take (i := 0) (v := ?v21) rfl (by kernel_rfl) (by kernel_rfl) (by kernel_rfl) (fun _ _ _ h => h) (Or.inl ⟨by rfl, ?hy21⟩) (by assumption) ?rest21
            case hy21 => (intro w hSw; (try dsimp only at hSw); obtain ⟨q1, q2⟩ := hSw; go_simp; try with_reducible rfl)
            (try simp only [Act.put, List.getElem_toArray, List.getElem_cons_succ, List.getElem_cons_zero, List.setIfInBounds_toArray, List.set_cons_zero, List.set_cons_succ])
            refine wpAnyH_take (i := 1) (v := ?v22) rfl (by kernel_rfl) (by kernel_rfl) (by kernel_rfl) (fun _ _ _ h => h) (Or.inl ⟨by rfl, ?hy22⟩) (by assumption) ?rest22
            case hy22 => (intro w hSw; (try dsimp only at hSw); obtain ⟨q1, q2⟩ := hSw; go_simp; try with_reducible rfl)
            (try simp only [Act.put, List.getElem_toArray, List.getElem_cons_succ, List.getElem_cons_zero, List.setIfInBounds_toArray, List.set_cons_zero, List.set_cons_succ])
            refine wpAnyH_take (i := 2) (v := ?v23) rfl (by kernel_rfl) (by kernel_rfl) (by kernel_rfl) (fun _ _ _ h => h) (Or.inl ⟨by rfl, ?hy23⟩) (by assumption) ?rest23
            case hy23 => (intro w hSw; (try dsimp only at hSw); obtain ⟨q1, q2⟩ := hSw; go_simp; try with_reducible rfl)
            (try simp only [Act.put, List.getElem_toArray, List.getElem_cons_succ, List.getElem_cons_zero, List.setIfInBounds_toArray, List.set_cons_zero, List.set_cons_succ])
            refine wpAnyH_take (i := 3) (v := ?v24) rfl (by kernel_rfl) (by kernel_rfl) (by kernel_rfl) (fun _ _ _ h => h) (Or.inl ⟨by rfl, ?hy24⟩) (by assumption) ?rest24
            case hy24 => (intro w hSw; (try dsimp only at hSw); obtain ⟨q1, q2⟩ := hSw; go_simp; try with_reducible rfl)
            (try simp only [Act.put, List.getElem_toArray, List.getElem_cons_succ, List.getElem_cons_zero, List.setIfInBounds_toArray, List.set_cons_zero, List.set_cons_succ])
            refine wpAnyH_take (i := 4) (v := ?v25) rfl (by kernel_rfl) (by kernel_rfl) (by kernel_rfl) (fun _ _ _ h => h) (Or.inl ⟨by rfl, ?hy25⟩) (by assumption) ?rest25
            case hy25 => (intro w hSw; (try dsimp only at hSw); obtain ⟨q1, q2⟩ := hSw; go_simp; try with_reducible rfl)
            (try simp only [Act.put, List.getElem_toArray, List.getElem_cons_succ, List.getElem_cons_zero, List.setIfInBounds_toArray, List.set_cons_zero, List.set_cons_succ])
            refine wpAnyH_take (i := 5) (v := ?v26) rfl (by kernel_rfl) (by kernel_rfl) (by kernel_rfl) (fun _ _ _ h => h) (Or.inl ⟨by rfl, ?hy26⟩) (by assumption) ?rest26
            case hy26 => (intro w hSw; (try dsimp only at hSw); obtain ⟨q1, q2⟩ := hSw; go_simp; try with_reducible rfl)
            (try simp only [Act.put, List.getElem_toArray, List.getElem_cons_succ, List.getElem_cons_zero, List.setIfInBounds_toArray, List.set_cons_zero, List.set_cons_succ])
            refine wpAnyH_take (i := 6) (v := ?v27) rfl (by kernel_rfl) (by kernel_rfl) (by kernel_rfl) (fun _ _ _ h => h) (Or.inl ⟨by rfl, ?hy27⟩) (by assumption) ?rest27
            case hy27 => (intro w hSw; (try dsimp only at hSw); obtain ⟨q1, q2⟩ := hSw; go_simp; try with_reducible rfl)
            (try simp only [Act.put, List.getElem_toArray, List.getElem_cons_succ, List.getElem_cons_zero, List.setIfInBounds_toArray, List.set_cons_zero, List.set_cons_succ])
            refine wpAnyH_take (i := 7) (v := ?v28) rfl (by kernel_rfl) (by kernel_rfl) (by kernel_rfl) (fun _ _ _ h => h) (Or.inl ⟨by rfl, ?hy28⟩) (by assumption) ?rest28
            case hy28 => (intro w hSw; (try dsimp only at hSw); obtain ⟨q1, q2⟩ := hSw; go_simp; try with_reducible rfl)
            (try simp only [Act.put, List.getElem_toArray, List.getElem_cons_succ, List.getElem_cons_zero, List.setIfInBounds_toArray, List.set_cons_zero, List.set_cons_succ])
            refine wpAnyH_take (i := 8) (v := ?v29) rfl (by kernel_rfl) (by kernel_rfl) (by kernel_rfl) (fun _ _ _ h => h) (Or.inl ⟨by rfl, ?hy29⟩) (by assumption) ?rest29
            case hy29 => (intro w hSw; (try dsimp only at hSw); obtain ⟨q1, q2⟩ := hSw; go_simp; try with_reducible rfl)
            (try simp only [Act.put, List.getElem_toArray, List.getElem_cons_succ, List.getElem_cons_zero, List.setIfInBounds_toArray, List.set_cons_zero, List.set_cons_succ])
            refine wpAnyH_take (i := 9) (v := ?v30) rfl (by kernel_rfl) (by kernel_rfl) (by kernel_rfl) (fun _ _ _ h => h) (Or.inl ⟨by rfl, ?hy30⟩) (by assumption) ?rest30
            case hy30 => (intro w hSw; (try dsimp only at hSw); obtain ⟨q1, q2⟩ := hSw; go_simp; try with_reducible rfl)
            (try simp only [Act.put, List.getElem_toArray, List.getElem_cons_succ, List.getElem_cons_zero, List.setIfInBounds_toArray, List.set_cons_zero, List.set_cons_succ])
            refine wpAnyH_take (i := 10) (v := ?v31) rfl (by kernel_rfl) (by kernel_rfl) (by kernel_rfl) (fun _ _ _ h => h) (Or.inl ⟨by rfl, ?hy31⟩) (by assumption) ?rest31
            case hy31 => (intro w hSw; (try dsimp only at hSw); obtain ⟨q1, q2⟩ := hSw; go_simp; try with_reducible rfl)
            (try simp only [Act.put, List.getElem_toArray, List.getElem_cons_succ, List.getElem_cons_zero, List.setIfInBounds_toArray, List.set_cons_zero, List.set_cons_succ])
            refine wpAnyH_take (i := 11) (v := ?v32) rfl (by kernel_rfl) (by kernel_rfl) (by kernel_rfl) (fun _ _ _ h => h) (Or.inl ⟨by rfl, ?hy32⟩) (by assumption) ?rest32
            case hy32 => (intro w hSw; (try dsimp only at hSw); obtain ⟨q1, q2⟩ := hSw; go_simp; try with_reducible rfl)
            (try simp only [Act.put, List.getElem_toArray, List.getElem_cons_succ, List.getElem_cons_zero, List.setIfInBounds_toArray, List.set_cons_zero, List.set_cons_succ])
            refine wpAnyH_take (i := 12) (v := ?v33) rfl (by kernel_rfl) (by kernel_rfl) (by kernel_rfl) (fun _ _ _ h => h) (Or.inl ⟨by rfl, ?hy33⟩) (by assumption) ?rest33
            case hy33 => (intro w hSw; (try dsimp only at hSw); obtain ⟨q1, q2⟩ := hSw; go_simp; try with_reducible rfl)
            (try simp only [Act.put, List.getElem_toArray, List.getElem_cons_succ, List.getElem_cons_zero, List.setIfInBounds_toArray, List.set_cons_zero, List.set_cons_succ])
            refine wpAnyH_take (i := 13) (v := ?v34) rfl (by kernel_rfl) (by kernel_rfl) (by kernel_rfl) (fun _ _ _ h => h) (Or.inl ⟨by rfl, ?hy34⟩) (by assumption) ?rest34
            case hy34 => (intro w hSw; (try dsimp only at hSw); obtain ⟨q1, q2⟩ := hSw; go_simp; try with_reducible rfl)
            (try simp only [Act.put, List.getElem_toArray, List.getElem_cons_succ, List.getElem_cons_zero, List.setIfInBounds_toArray, List.set_cons_zero, List.set_cons_succ])
            refine wpAnyH_take (i := 14) (v := ?v35) rfl (by kernel_rfl) (by kernel_rfl) (by kernel_rfl) (fun _ _ _ h => h) (Or.inl ⟨by rfl, ?hy35⟩) (by assumption) ?rest35
            case hy35 => (intro w hSw; (try dsimp only at hSw); obtain ⟨q1, q2⟩ := hSw; go_simp; try with_reducible rfl)
            (try simp only [Act.put, List.getElem_toArray, List.getElem_cons_succ, List.getElem_cons_zero, List.setIfInBounds_toArray, List.set_cons_zero, List.set_cons_succ])
            refine wpAnyH_take (i := 15) (v := ?v36) rfl (by kernel_rfl) (by kernel_rfl) (by kernel_rfl) (fun _ _ _ h => h) (Or.inl ⟨by rfl, ?hy36⟩) (by assumption) ?rest36
            case hy36 => (intro w hSw; (try dsimp only at hSw); obtain ⟨q1, q2⟩ := hSw; go_simp; try with_reducible rfl)
            (try simp only [Act.put, List.getElem_toArray, List.getElem_cons_succ, List.getElem_cons_zero, List.setIfInBounds_toArray, List.set_cons_zero, List.set_cons_succ])
            refine wpAnyH_take (i := 16) (v := ?v37) rfl (by kernel_rfl) (by kernel_rfl) (by kernel_rfl) (fun _ _ _ h => h) (Or.inl ⟨by rfl, ?hy37⟩) (by assumption) ?rest37
            case hy37 => (intro w hSw; (try dsimp only at hSw); obtain ⟨q1, q2⟩ := hSw; go_simp; try with_reducible rfl)
            (try simp only [Act.put, List.getElem_toArray, List.getElem_cons_succ, List.getElem_cons_zero, List.setIfInBounds_toArray, List.set_cons_zero, List.set_cons_succ])
            refine wpAnyH_take (i := 17) (v := ?v38) rfl (by kernel_rfl) (by kernel_rfl) (by kernel_rfl) (fun _ _ _ h => h) (Or.inl ⟨by rfl, ?hy38⟩) (by assumption) ?rest38
            case hy38 => (intro w hSw; (try dsimp only at hSw); obtain ⟨q1, q2⟩ := hSw; go_simp; try with_reducible rfl)
            (try simp only [Act.put, List.getElem_toArray, List.getElem_cons_succ, List.getElem_cons_zero, List.setIfInBounds_toArray, List.set_cons_zero, List.set_cons_succ])
            refine wpAnyH_take (i := 18) (v := ?v39) rfl (by kernel_rfl) (by kernel_rfl) (by kernel_rfl) (fun _ _ _ h => h) (Or.inl ⟨by rfl, ?hy39⟩) (by assumption) ?rest39
            case hy39 => (intro w hSw; (try dsimp only at hSw); obtain ⟨q1, q2⟩ := hSw; go_simp; try with_reducible rfl)
            (try simp only [Act.put, List.getElem_toArray, List.getElem_cons_succ, List.getElem_cons_zero, List.setIfInBounds_toArray, List.set_cons_zero, List.set_cons_succ])
            refine wpAnyH_ready (rs := [19]) (by kernel_rfl) (by simp) ?_
            refine AllReadyH.cons rfl (fun K hK => ?_) AllReadyH.nil
            go_simp
            refine hK.out _ _ (by (first | exact s0.out | exact s1.out | exact s2.out)) (fun hHeld => ?_)
            clear hK K
            (try simp only [Act.put, List.getElem_toArray, List.getElem_cons_succ, List.getElem_cons_zero, List.setIfInBounds_toArray, List.set_cons_zero, List.set_cons_succ])
            refine wpAnyH_ready (rs := [20]) (by kernel_rfl) (by simp) ?_
            refine AllReadyH.cons rfl (fun K hK => ?_) AllReadyH.nil
            refine step_append_run rfl (.tmp 85) (.tmp 104) 24 rfl _ _ _ _ (by simp [Act.eval, Act.put]) (by simp [Act.eval, Act.put]) 24 rfl HRU.out ?_
            refine hK.out _ _ (by (first | exact s0.out | exact s1.out | exact s2.out)) (fun hHeld => ?_)
            clear hK K
            (try simp only [Act.put, List.getElem_toArray, List.getElem_cons_succ, List.getElem_cons_zero, List.setIfInBounds_toArray, List.set_cons_zero, List.set_cons_succ])
            refine wpAnyH_take (i := 21) (v := ?v40) rfl (by kernel_rfl) (by kernel_rfl) (by kernel_rfl) (fun _ _ _ h => h) (Or.inl ⟨by rfl, ?hy40⟩) (by assumption) ?rest40
            case hy40 => (intro w hSw; (try dsimp only at hSw); obtain ⟨q1, q2⟩ := hSw; go_simp; try with_reducible rfl)
            (try simp only [Act.put, List.getElem_toArray, List.getElem_cons_succ, List.getElem_cons_zero, List.setIfInBounds_toArray, List.set_cons_zero, List.set_cons_succ])
            refine wpAnyH_done (by kernel_rfl) ?_ _
            refine NoPanic.normal ?_
            go_wp2
            go_roundw
            case rel => exact ⟨n, x, .slice na (T.length + 1) nc, T ++ [(⟨(l.take (a + k)).drop a, (l.take e).drop (a + k + 1), a, x⟩ : Fld)], rfl, rfl, hb3, by omega, HF2, HFIN⟩
            case measure => simp [intOf]; omega
    · have i1 : ¬ (a : Int) < (l.length : Int) := by omega
      have HS2 : splitOf l = (T, a) := by
        rw [HFN.out, ← HF.out]
        cases n with
        | zero => rfl
        | succ n => rw [splitF, if_neg hlt]
      obtain ⟨r1, r2, r3, hcall, hend⟩ := HI.out.answer (by omega) HS2
      have HCK := Lib.hid hcall
      have HEN := Lib.hid hend
      clear hcall hend HS2 HF
      go_wp2_with (first | (go_at_call 24; refine HCK.out.mono ?_; rintro ee w' ⟨rfl, rfl⟩; refine Hid.out ?_) | fail)
      refine Lib.hid ?_
      go_wp2
      go_ret3
      exact HEN.out
end Go.Proofs.YtnogpoojhhmadaaDoor.Header
