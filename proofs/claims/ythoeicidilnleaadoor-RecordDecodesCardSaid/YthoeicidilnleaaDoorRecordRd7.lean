/-
  RECORD: the program's reader: the end of a record, and Decode.
-/
import Derived.Test.YthoeicidilnleaaDoorRecordRd6
namespace Go.Proofs.YthoeicidilnleaaDoor.Codec
open Go.RowKit

theorem Reads.front {w : World} {A : Option Addr} {cc at_ : Nat} {l : List UInt8} (h : Reads w (.slice A l.length cc) l) (hle : at_ ≤ l.length) : Reads w (.slice A at_ cc) (l.take at_) := by
  have hl : (l.take at_).length = at_ := by rw [List.length_take]; omega
  rcases h with ⟨h0, a, c, he, hn⟩ | ⟨b, o, c, he, hc, hcell⟩
  · subst h0; cases he
    obtain rfl : at_ = 0 := by simpa using hle
    exact Or.inl ⟨rfl, A, cc, rfl, hn⟩
  · cases he
    refine Or.inr ⟨b, o, cc, by rw [hl], by omega, fun i hi => ?_⟩
    rw [hl] at hi
    rw [hcell i (by omega)]
    congr 3
    simp [List.getD, List.getElem?_take_of_lt hi]

theorem Reads.below {w w' : World} {v : Value} {l : List UInt8} {B : Nat} (h : Reads w v l) (hb : Below B w w') (ho : Old B v) : Reads w' v l := by
  rcases h with h | ⟨b, o, c, rfl, hc, hcell⟩
  · exact Or.inl h
  · refine Or.inr ⟨b, o, c, rfl, hc, fun i hi => ?_⟩
    rw [hb.cell (p := ⟨b, o + i, none⟩) (ho b rfl), hcell i hi]
/-- The end of a record: the fault. -/
def endF (l : List UInt8) (r : List UInt8) (ml : List Nat) : Int :=
  if (fixedF [101] r).1 ≠ 0 then (fixedF [101] r).1
  else if (takeHex (fixedF [101] r).2).2 ≠ 0 then toldOf (takeHex (fixedF [101] r).2).2
  else if (fixedF [10] ((fixedF [101] r).2.drop 8)).1 ≠ 0 then (fixedF [10] ((fixedF [101] r).2.drop 8)).1
  else if (fixedF [10] ((fixedF [101] r).2.drop 8)).2 ≠ [] then 30
  else if (takeHex (fixedF [101] r).2).1 ≠ crc (setAll (l.take (l.length - r.length)) ml) then 33 else 0
theorem takeHex_cases (r : List UInt8) : (∃ z, 0 < z ∧ z < 30 ∧ takeHex r = (0, z)) ∨ ∃ n, takeHex r = (n, 0) ∧ 8 ≤ r.length := by
  unfold takeHex
  by_cases h : r.length < 8
  · rw [if_pos h]; exact Or.inl ⟨20, by omega, by omega, rfl⟩
  · rw [if_neg h]
    cases hexFrom (r.take 8) 0 with
    | none => exact Or.inl ⟨21, by omega, by omega, rfl⟩
    | some n => exact Or.inr ⟨n, rfl, by omega⟩

set_option maxHeartbeats 1000000 in
set_option maxRecDepth 100000 in
theorem cEnd (g B : Nat) (bv mv : Value) (l rest : List UInt8) (ml : List Nat) (w : World) (h : Rd w g bv l rest mv ml B) (hold : Old B bv) (hl : l.length ≤ 140737488351232) (hml : ml.length ≤ 1000) (hin : ∀ m ∈ ml, m + rest.length < l.length) :
    Calls Tryd.prog 46 #[.pointer (some ⟨g, 0, none⟩)] w fun e w' => e = .returned (.int .i64 (endF l rest ml)) ∧ Keeps g B w w' := by
  obtain ⟨out, ho⟩ : ∃ out, out = endF l rest ml := ⟨_, rfl⟩
  rw [← ho]
  unfold endF at ho
  have hR := h
  have hBw := h.size
  obtain ⟨at_, e1, e2, hh, hr, hm, hb⟩ := h
  obtain ⟨q0, q1, q2, q3, q4⟩ := Rd.cells hh
  obtain ⟨A, cc, rfl⟩ := hr.form
  have hcc : l.length ≤ cc := by
    rcases hr with ⟨h0, _⟩ | ⟨b, o, c', he, h2, _⟩
    · rw [h0]; simp
    · cases he; exact h2
  have hfr := hr.front (at_ := at_) (by omega)
  rw [show l.length - rest.length = at_ by omega] at ho
  have hbody : (l.take at_).length = at_ := by rw [List.length_take]; omega
  have C5 : Hid (∀ w5 mv5, Below B w w5 → Marks w5 B mv5 ml → Calls Tryd.prog 58 #[.slice A at_ cc, mv5] w5 fun e w' => e = .returned (.int .u32 (crc (setAll (l.take at_) ml) : Nat)) ∧ Below w5.heap.size w5 w') := fun w5 mv5 hb5 hm5 => by
    refine cSumOf _ mv5 (l.take at_) ml B w5 ?_ (by omega) hm5 hml (fun m hm => by have := hin m hm; omega)
    exact hfr.below hb5 (fun a ha => hold a (by cases A with | none => cases ha | some x => exact ha))
  have C1 : Hid (∀ n, Calls Tryd.prog 41 #[.pointer (some ⟨g, 0, none⟩), .string ⟨#[101]⟩] (w.drewN n) fun e w' => e = .returned (.int .i64 (fixedF [101] rest).1) ∧ Rd w' g (.slice A l.length cc) l (fixedF [101] rest).2 mv ml B ∧ Keeps g B w w') := fun n =>
    (cFixed g B ⟨#[101]⟩ _ mv l rest ml (w.drewN n) hR hold (by omega) (by decide)).mono fun e w' ⟨a, b, c⟩ => ⟨a, b, (Keeps.drewN n).trans c⟩
  have b0 : (0 : Int) ≤ (at_ : Int) := by omega
  have b1 : (at_ : Int) ≤ (l.length : Int) := by omega
  have b2 : (l.length : Int) ≤ (cc : Int) := by omega
  have b3 : (at_ : Int) ≤ (cc : Int) := by omega
  generalize crc (setAll (l.take at_) ml) = sm at *
  generalize fixedF [101] rest = F at *
  obtain ⟨z, r1⟩ := F
  dsimp only at *
  clear hR e1 e2 hh hr hm hfr hbody hin
  have HOLD := Lib.hid hold
  clear hold
  by_cases hz : z = 0
  · subst hz
    rcases takeHex_cases r1 with ⟨z2, hz0, hz1, hth⟩ | ⟨nh, hth, h8⟩
    · have HO : Hid (out = toldOf z2) := by unfold Hid; rw [ho, hth, if_neg (by simp), if_pos (by simp; omega)]
      have HT := Lib.hid (fun w => cTold z2 w)
      have hb3 : (z2 != 0) = true := by simp; omega
      clear ho hz0 hz1
      go_enter Tryd.func46, Tryd.ntmps46
      go_wp2
      refine wp_scope_fwd fun F hF => ?_
      have HF := Lib.hid hF
      clear hF
      go_wp2_with fail
      go_quiet (fail)
      go_wp2_with (go_at_call 41; refine (C1.out _).mono ?_; rintro e w1 ⟨rfl, h1, p1⟩; refine Hid.out ?_)
      refine Lib.hid ?_
      have h1' := h1
      obtain ⟨at1, e1, e2, hh, hr, hm, hb'⟩ := h1
      obtain ⟨y0, y1, y2, y3, y4⟩ := Rd.cells hh
      have htl := hr.tail (at_ := at1) (by omega)
      rw [← e2] at htl
      have HC : Hid (∀ k, Calls Tryd.prog 57 #[.slice (if cc = at1 then A else Option.map (fun x => x.add at1) A) (l.length - at1) (cc - at1)] (w1.drewN k) (HexEnd (0, z2) (w1.drewN k))) := fun k => by
        have := cTakeHex _ r1 (w1.drewN k) htl (by omega)
        rwa [hth] at this
      have d0 : (0 : Int) ≤ (at1 : Int) := by omega
      have d1 : (at1 : Int) ≤ (l.length : Int) := by omega
      clear e1 e2 hh hr hm htl hth h1'
      by_cases hca : cc = at1
      · subst hca
        simp only [↓reduceIte, Nat.sub_self, show l.length - cc = 0 by omega] at HC
        go_wp2_with fail
        go_quiet ((go_at_call 57; refine (HC.out _).mono ?_; rintro e w' ⟨rfl, rfl⟩; exact ⟨rfl, _, rfl⟩))
        go_wp2_with (go_at_call 54; refine (HT.out _).mono ?_; rintro e w' ⟨rfl, rfl⟩; refine Hid.out ?_)
        refine Lib.hid ?_
        go_wp2
        go_step3
        refine ⟨_, by rw [HF.out]; rfl, ?_⟩
        clear HF
        go_wp2
        rw [Exit.noGoto_ret]
        go_ret
        exact ⟨ret_int HO.out.symm, p1.trans (Keeps.drewN _)⟩
      · rw [if_neg hca] at HC
        go_wp2_with fail
        go_quiet ((go_at_call 57; refine (HC.out _).mono ?_; rintro e w' ⟨rfl, rfl⟩; exact ⟨rfl, _, rfl⟩))
        go_wp2_with (go_at_call 54; refine (HT.out _).mono ?_; rintro e w' ⟨rfl, rfl⟩; refine Hid.out ?_)
        refine Lib.hid ?_
        go_wp2
        go_step3
        refine ⟨_, by rw [HF.out]; rfl, ?_⟩
        clear HF
        go_wp2
        rw [Exit.noGoto_ret]
        go_ret
        exact ⟨ret_int HO.out.symm, p1.trans (Keeps.drewN _)⟩
    · have C9 := Lib.hid (fun wx (h : Rd wx g (.slice A l.length cc) l (r1.drop 8) mv ml B) => cFixed g B ⟨#[10]⟩ _ mv l (r1.drop 8) ml wx h HOLD.out (by omega) (by decide))
      have e0 : (⟨#[10]⟩ : ByteArray).data.toList = [10] := rfl
      rw [e0] at C9
      rw [hth, if_neg (by simp), if_neg (by simp)] at ho
      generalize fixedF [10] (r1.drop 8) = F3 at *
      obtain ⟨z3, r3⟩ := F3
      dsimp only at *
      clear e0
      by_cases hz3 : z3 = 0
      · subst hz3
        rw [if_neg (by simp)] at ho
        by_cases hr3 : r3 = []
        · subst hr3
          rw [if_neg (by simp)] at ho
          by_cases hs : nh = sm
          · have HO : Hid (out = 0) := by unfold Hid; rw [ho, if_neg (by simpa using hs)]
            have hcs : (((nh : Nat) : Int) != ((sm : Nat) : Int)) = false := by simp; omega
            clear ho hs
            go_enter Tryd.func46, Tryd.ntmps46
            go_wp2
            refine wp_scope_fwd fun F hF => ?_
            have HF := Lib.hid hF
            clear hF
            go_wp2_with fail
            go_quiet (fail)
            go_wp2_with (go_at_call 41; refine (C1.out _).mono ?_; rintro e w1 ⟨rfl, h1, p1⟩; refine Hid.out ?_)
            refine Lib.hid ?_
            obtain ⟨at1, e1, e2, hh, hr, hm, hb'⟩ := h1
            obtain ⟨y0, y1, y2, y3, y4⟩ := Rd.cells hh
            have hr1l : r1.length = l.length - at1 := by omega
            have htl := hr.tail (at_ := at1) (by omega)
            rw [← e2] at htl
            have hca : ¬ cc = at1 := by omega
            have HC : Hid (∀ k, Calls Tryd.prog 57 #[.slice (Option.map (fun x => x.add at1) A) (l.length - at1) (cc - at1)] (w1.drewN k) (HexEnd (nh, 0) (w1.drewN k))) := fun k => by
              have := cTakeHex _ r1 (w1.drewN k) htl (by omega)
              rw [if_neg hca] at this
              rwa [hth] at this
            have d0 : (0 : Int) ≤ (at1 : Int) := by omega
            have d1 : (at1 : Int) ≤ (l.length : Int) := by omega
            have hR2 : Hid (∀ n, Rd ((w1.drewN n).setCell ⟨g, 1, none⟩ (.int .i64 ((at1 : Int) + 8))) g (.slice A l.length cc) l (r1.drop 8) mv ml B) := fun n => by
              refine ⟨at1 + 8, by rw [List.length_drop]; omega, by rw [e2, List.drop_drop], ?_, ?_, ?_, hb⟩
              · rw [Rd.stepped (w := w1.drewN n) hh]; rfl
              · exact Reads.kept hr ((Keeps.drewN n).trans (Keeps.set hb _ _)) HOLD.out
              · exact Marks.set_other (w := w1.drewN n) hm hh (by decide)
            have hK2 : Hid (∀ n, Keeps g B w ((w1.drewN n).setCell ⟨g, 1, none⟩ (.int .i64 ((at1 : Int) + 8)))) := fun n => p1.trans ((Keeps.drewN n).trans (Keeps.set hb _ _))
            clear e1 e2 hh hr hm htl hth hr1l h8
            go_wp2_with fail
            go_quiet ((go_at_call 57; refine (HC.out _).mono ?_; rintro e w' ⟨rfl, rfl⟩; exact ⟨rfl, _, rfl⟩))
            go_wp2_with (go_at_call 41; refine (C9.out _ (hR2.out _)).mono ?_; rintro e w3 ⟨rfl, h3, p3⟩; refine Hid.out ?_)
            refine Lib.hid ?_
            replace p3 := (hK2.out _).trans p3
            obtain ⟨at3, e1, e2, hh, hr, hm, hb'⟩ := h3
            obtain ⟨x0, x1, x2, x3, x4⟩ := Rd.cells hh
            have C6 := Lib.hid (fun n => C5.out (w3.drewN n) mv (p3.trans (Keeps.drewN n)).1 hm)
            have heq : ((at3 : Int) != (l.length : Int)) = false := by simp at e1 ⊢; omega
            clear e1 e2 hh hr hm
            go_wp2_with fail
            go_quiet (fail)
            go_wp2_with (go_at_call 58; refine (C6.out _).mono ?_; rintro e w6 ⟨rfl, b6⟩; refine Hid.out ?_)
            refine Lib.hid ?_
            go_wp2
            rw [Exit.fwd_ret]
            go_ret
            exact ⟨ret_int HO.out.symm, (p3.trans (Keeps.drewN _)).trans (Keeps.of_below b6 (Nat.le_trans hBw (p3.1.size)))⟩
          · have HO : Hid (out = 33) := by unfold Hid; rw [ho, if_pos hs]
            have hcs : (((nh : Nat) : Int) != ((sm : Nat) : Int)) = true := by simp; omega
            clear ho hs
            go_enter Tryd.func46, Tryd.ntmps46
            go_wp2
            refine wp_scope_fwd fun F hF => ?_
            have HF := Lib.hid hF
            clear hF
            go_wp2_with fail
            go_quiet (fail)
            go_wp2_with (go_at_call 41; refine (C1.out _).mono ?_; rintro e w1 ⟨rfl, h1, p1⟩; refine Hid.out ?_)
            refine Lib.hid ?_
            obtain ⟨at1, e1, e2, hh, hr, hm, hb'⟩ := h1
            obtain ⟨y0, y1, y2, y3, y4⟩ := Rd.cells hh
            have hr1l : r1.length = l.length - at1 := by omega
            have htl := hr.tail (at_ := at1) (by omega)
            rw [← e2] at htl
            have hca : ¬ cc = at1 := by omega
            have HC : Hid (∀ k, Calls Tryd.prog 57 #[.slice (Option.map (fun x => x.add at1) A) (l.length - at1) (cc - at1)] (w1.drewN k) (HexEnd (nh, 0) (w1.drewN k))) := fun k => by
              have := cTakeHex _ r1 (w1.drewN k) htl (by omega)
              rw [if_neg hca] at this
              rwa [hth] at this
            have d0 : (0 : Int) ≤ (at1 : Int) := by omega
            have d1 : (at1 : Int) ≤ (l.length : Int) := by omega
            have hR2 : Hid (∀ n, Rd ((w1.drewN n).setCell ⟨g, 1, none⟩ (.int .i64 ((at1 : Int) + 8))) g (.slice A l.length cc) l (r1.drop 8) mv ml B) := fun n => by
              refine ⟨at1 + 8, by rw [List.length_drop]; omega, by rw [e2, List.drop_drop], ?_, ?_, ?_, hb⟩
              · rw [Rd.stepped (w := w1.drewN n) hh]; rfl
              · exact Reads.kept hr ((Keeps.drewN n).trans (Keeps.set hb _ _)) HOLD.out
              · exact Marks.set_other (w := w1.drewN n) hm hh (by decide)
            have hK2 : Hid (∀ n, Keeps g B w ((w1.drewN n).setCell ⟨g, 1, none⟩ (.int .i64 ((at1 : Int) + 8)))) := fun n => p1.trans ((Keeps.drewN n).trans (Keeps.set hb _ _))
            clear e1 e2 hh hr hm htl hth hr1l h8
            go_wp2_with fail
            go_quiet ((go_at_call 57; refine (HC.out _).mono ?_; rintro e w' ⟨rfl, rfl⟩; exact ⟨rfl, _, rfl⟩))
            go_wp2_with (go_at_call 41; refine (C9.out _ (hR2.out _)).mono ?_; rintro e w3 ⟨rfl, h3, p3⟩; refine Hid.out ?_)
            refine Lib.hid ?_
            replace p3 := (hK2.out _).trans p3
            obtain ⟨at3, e1, e2, hh, hr, hm, hb'⟩ := h3
            obtain ⟨x0, x1, x2, x3, x4⟩ := Rd.cells hh
            have C6 := Lib.hid (fun n => C5.out (w3.drewN n) mv (p3.trans (Keeps.drewN n)).1 hm)
            have heq : ((at3 : Int) != (l.length : Int)) = false := by simp at e1 ⊢; omega
            clear e1 e2 hh hr hm
            go_wp2_with fail
            go_quiet (fail)
            go_wp2_with (go_at_call 58; refine (C6.out _).mono ?_; rintro e w6 ⟨rfl, b6⟩; refine Hid.out ?_)
            refine Lib.hid ?_
            go_wp2
            go_step3
            refine ⟨_, by rw [HF.out]; rfl, ?_⟩
            clear HF
            go_wp2
            rw [Exit.noGoto_ret]
            go_ret
            exact ⟨ret_int HO.out.symm, (p3.trans (Keeps.drewN _)).trans (Keeps.of_below b6 (Nat.le_trans hBw (p3.1.size)))⟩
        · have HO : Hid (out = 30) := by unfold Hid; rw [ho, if_pos hr3]
          have hr3' : 0 < r3.length := List.length_pos_iff.2 hr3
          clear ho hr3
          go_enter Tryd.func46, Tryd.ntmps46
          go_wp2
          refine wp_scope_fwd fun F hF => ?_
          have HF := Lib.hid hF
          clear hF
          go_wp2_with fail
          go_quiet (fail)
          go_wp2_with (go_at_call 41; refine (C1.out _).mono ?_; rintro e w1 ⟨rfl, h1, p1⟩; refine Hid.out ?_)
          refine Lib.hid ?_
          obtain ⟨at1, e1, e2, hh, hr, hm, hb'⟩ := h1
          obtain ⟨y0, y1, y2, y3, y4⟩ := Rd.cells hh
          have hr1l : r1.length = l.length - at1 := by omega
          have htl := hr.tail (at_ := at1) (by omega)
          rw [← e2] at htl
          have hca : ¬ cc = at1 := by omega
          have HC : Hid (∀ k, Calls Tryd.prog 57 #[.slice (Option.map (fun x => x.add at1) A) (l.length - at1) (cc - at1)] (w1.drewN k) (HexEnd (nh, 0) (w1.drewN k))) := fun k => by
            have := cTakeHex _ r1 (w1.drewN k) htl (by omega)
            rw [if_neg hca] at this
            rwa [hth] at this
          have d0 : (0 : Int) ≤ (at1 : Int) := by omega
          have d1 : (at1 : Int) ≤ (l.length : Int) := by omega
          have hR2 : Hid (∀ n, Rd ((w1.drewN n).setCell ⟨g, 1, none⟩ (.int .i64 ((at1 : Int) + 8))) g (.slice A l.length cc) l (r1.drop 8) mv ml B) := fun n => by
            refine ⟨at1 + 8, by rw [List.length_drop]; omega, by rw [e2, List.drop_drop], ?_, ?_, ?_, hb⟩
            · rw [Rd.stepped (w := w1.drewN n) hh]; rfl
            · exact Reads.kept hr ((Keeps.drewN n).trans (Keeps.set hb _ _)) HOLD.out
            · exact Marks.set_other (w := w1.drewN n) hm hh (by decide)
          have hK2 : Hid (∀ n, Keeps g B w ((w1.drewN n).setCell ⟨g, 1, none⟩ (.int .i64 ((at1 : Int) + 8)))) := fun n => p1.trans ((Keeps.drewN n).trans (Keeps.set hb _ _))
          clear e1 e2 hh hr hm htl hth hr1l h8
          go_wp2_with fail
          go_quiet ((go_at_call 57; refine (HC.out _).mono ?_; rintro e w' ⟨rfl, rfl⟩; exact ⟨rfl, _, rfl⟩))
          go_wp2_with (go_at_call 41; refine (C9.out _ (hR2.out _)).mono ?_; rintro e w3 ⟨rfl, h3, p3⟩; refine Hid.out ?_)
          refine Lib.hid ?_
          replace p3 := (hK2.out _).trans p3
          obtain ⟨at3, e1, e2, hh, hr, hm, hb'⟩ := h3
          obtain ⟨x0, x1, x2, x3, x4⟩ := Rd.cells hh
          have heq : ((at3 : Int) != (l.length : Int)) = true := by simp; omega
          clear e1 e2 hh hr hm
          go_wp2_with fail
          go_quiet (fail)
          go_wp2
          go_step3
          refine ⟨_, by rw [HF.out]; rfl, ?_⟩
          clear HF
          go_wp2
          rw [Exit.noGoto_ret]
          go_ret
          exact ⟨ret_int HO.out.symm, p3.trans (Keeps.drewN _)⟩
      · have HO : Hid (out = z3) := by unfold Hid; rw [ho, if_pos hz3]
        have hb3 : (z3 != 0) = true := by simpa using hz3
        clear ho hz3
        go_enter Tryd.func46, Tryd.ntmps46
        go_wp2
        refine wp_scope_fwd fun F hF => ?_
        have HF := Lib.hid hF
        clear hF
        go_wp2_with fail
        go_quiet (fail)
        go_wp2_with (go_at_call 41; refine (C1.out _).mono ?_; rintro e w1 ⟨rfl, h1, p1⟩; refine Hid.out ?_)
        refine Lib.hid ?_
        obtain ⟨at1, e1, e2, hh, hr, hm, hb'⟩ := h1
        obtain ⟨y0, y1, y2, y3, y4⟩ := Rd.cells hh
        have hr1l : r1.length = l.length - at1 := by omega
        have htl := hr.tail (at_ := at1) (by omega)
        rw [← e2] at htl
        have hca : ¬ cc = at1 := by omega
        have HC : Hid (∀ k, Calls Tryd.prog 57 #[.slice (Option.map (fun x => x.add at1) A) (l.length - at1) (cc - at1)] (w1.drewN k) (HexEnd (nh, 0) (w1.drewN k))) := fun k => by
          have := cTakeHex _ r1 (w1.drewN k) htl (by omega)
          rw [if_neg hca] at this
          rwa [hth] at this
        have d0 : (0 : Int) ≤ (at1 : Int) := by omega
        have d1 : (at1 : Int) ≤ (l.length : Int) := by omega
        have hR2 : Hid (∀ n, Rd ((w1.drewN n).setCell ⟨g, 1, none⟩ (.int .i64 ((at1 : Int) + 8))) g (.slice A l.length cc) l (r1.drop 8) mv ml B) := fun n => by
          refine ⟨at1 + 8, by rw [List.length_drop]; omega, by rw [e2, List.drop_drop], ?_, ?_, ?_, hb⟩
          · rw [Rd.stepped (w := w1.drewN n) hh]; rfl
          · exact Reads.kept hr ((Keeps.drewN n).trans (Keeps.set hb _ _)) HOLD.out
          · exact Marks.set_other (w := w1.drewN n) hm hh (by decide)
        have hK2 : Hid (∀ n, Keeps g B w ((w1.drewN n).setCell ⟨g, 1, none⟩ (.int .i64 ((at1 : Int) + 8)))) := fun n => p1.trans ((Keeps.drewN n).trans (Keeps.set hb _ _))
        clear e1 e2 hh hr hm htl hth hr1l h8
        go_wp2_with fail
        go_quiet ((go_at_call 57; refine (HC.out _).mono ?_; rintro e w' ⟨rfl, rfl⟩; exact ⟨rfl, _, rfl⟩))
        go_wp2_with (go_at_call 41; refine (C9.out _ (hR2.out _)).mono ?_; rintro e w3 ⟨rfl, h3, p3⟩; refine Hid.out ?_)
        refine Lib.hid ?_
        replace p3 := (hK2.out _).trans p3
        go_wp2
        go_step3
        refine ⟨_, by rw [HF.out]; rfl, ?_⟩
        clear HF
        go_wp2
        rw [Exit.noGoto_ret]
        go_ret
        exact ⟨ret_int HO.out.symm, p3⟩
  · have HO : Hid (out = z) := by unfold Hid; rw [ho, if_pos hz]
    have hb3 : (z != 0) = true := by simpa using hz
    clear ho hz
    go_enter Tryd.func46, Tryd.ntmps46
    go_wp2
    refine wp_scope_fwd fun F hF => ?_
    have HF := Lib.hid hF
    clear hF
    go_wp2_with fail
    go_quiet (fail)
    go_wp2_with (go_at_call 41; refine (C1.out _).mono ?_; rintro e w1 ⟨rfl, h1, p1⟩; refine Hid.out ?_)
    refine Lib.hid ?_
    go_wp2
    go_step3
    refine ⟨_, by rw [HF.out]; rfl, ?_⟩
    clear HF
    go_wp2
    rw [Exit.noGoto_ret]
    go_ret
    exact ⟨ret_int HO.out.symm, p1⟩
end Go.Proofs.YthoeicidilnleaaDoor.Codec
