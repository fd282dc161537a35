/-
  RECORD: the program's reader: the recipients.
-/
import Derived.Test.YthoeicidilnleaaDoorRecordRd4
namespace Go.Proofs.YthoeicidilnleaaDoor.Codec
open Go.RowKit

theorem rcF_marks (L : Nat) (r : List UInt8) : (rcF L r).2.2.2.length ≤ 1 := by
  have hm : ∀ r, (markF L r).2.2.2.length ≤ 1 := fun r => by
    cases r with
    | nil => simp [markF]
    | cons c r => simp only [markF]; split <;> simp
  have h1 := hm (fixedF [114] r).2
  unfold rcF
  split
  · simp
  · split
    · exact h1
    · split
      · exact h1
      · split <;> exact h1
/-- So many recipients, behind some. -/
def rcsF (L : Nat) : Nat → List UInt8 → List Rc → List Nat → List Rc × Int × List UInt8 × List Nat
  | 0, r, acc, mk => (acc, 0, r, mk)
  | n + 1, r, acc, mk => if (rcF L r).2.1 ≠ 0 then ([], (rcF L r).2.1, (rcF L r).2.2.1, mk ++ (rcF L r).2.2.2) else rcsF L n (rcF L r).2.2.1 (acc ++ [(rcF L r).1]) (mk ++ (rcF L r).2.2.2)
def rcptsF (L : Nat) (r : List UInt8) : List Rc × Int × List UInt8 × List Nat :=
  if (fixedF [110] r).1 ≠ 0 then ([], (fixedF [110] r).1, (fixedF [110] r).2, [])
  else if (numF (fixedF [110] r).2).2.1 ≠ 0 then ([], (numF (fixedF [110] r).2).2.1, (numF (fixedF [110] r).2).2.2, [])
  else if 1 ≤ (numF (fixedF [110] r).2).1 ∧ (numF (fixedF [110] r).2).1 ≤ 200 then rcsF L (numF (fixedF [110] r).2).1.toNat (numF (fixedF [110] r).2).2.2 [] []
  else ([], 30, (numF (fixedF [110] r).2).2.2, [])
theorem rcptsF_1 {L : Nat} {r : List UInt8} (h : (fixedF [110] r).1 ≠ 0) : rcptsF L r = ([], (fixedF [110] r).1, (fixedF [110] r).2, []) := by unfold rcptsF; rw [if_pos h]
theorem rcptsF_2 {L : Nat} {r : List UInt8} (h : (fixedF [110] r).1 = 0) (h2 : (numF (fixedF [110] r).2).2.1 ≠ 0) : rcptsF L r = ([], (numF (fixedF [110] r).2).2.1, (numF (fixedF [110] r).2).2.2, []) := by unfold rcptsF; rw [if_neg (by simp [h]), if_pos h2]
theorem rcptsF_3 {L : Nat} {r : List UInt8} (h : (fixedF [110] r).1 = 0) (h2 : (numF (fixedF [110] r).2).2.1 = 0) (h3 : ¬ (1 ≤ (numF (fixedF [110] r).2).1 ∧ (numF (fixedF [110] r).2).1 ≤ 200)) : rcptsF L r = ([], 30, (numF (fixedF [110] r).2).2.2, []) := by unfold rcptsF; rw [if_neg (by simp [h]), if_neg (by simp [h2]), if_neg h3]
theorem rcptsF_4 {L : Nat} {r : List UInt8} (h : (fixedF [110] r).1 = 0) (h2 : (numF (fixedF [110] r).2).2.1 = 0) (h3 : 1 ≤ (numF (fixedF [110] r).2).1 ∧ (numF (fixedF [110] r).2).1 ≤ 200) : rcptsF L r = rcsF L (numF (fixedF [110] r).2).1.toNat (numF (fixedF [110] r).2).2.2 [] [] := by unfold rcptsF; rw [if_neg (by simp [h]), if_neg (by simp [h2]), if_pos h3]
theorem num_ok {r : List UInt8} (h : (numF r).2.1 = 0) : (takeNumber r).1 = (numF r).1 := by
  unfold numF at *
  rcases takeNumber_cases r with ⟨z, h1, h2, h3⟩ | ⟨t, k, h1, h2, h3, h4⟩
  · rw [h3] at h; have hz : z ≠ 0 := by omega
    simp [hz] at h; exact absurd h (toldOf_pos h1)
  · rw [h4]; simp

/-- A row of recipients of the call's own. -/
def flatR (rs : List Rc) : List Value := rs.flatMap fun r => [.string r.1, .int .u8 (r.2.toNat : Int)]
def ORow (w : World) (B : Nat) (v : Value) (n : Nat) (xs : List Value) : Prop := w.ownsRow B 41 2 v n xs
theorem flatR_len (rs : List Rc) : (flatR rs).length = rs.length * 2 := by
  induction rs with
  | nil => rfl
  | cons r t ih => simp only [flatR, List.flatMap_cons, List.length_append, List.length_cons] at ih ⊢; rw [ih]; simp; omega
theorem flatR_snoc (rs : List Rc) (r : Rc) : flatR (rs ++ [r]) = flatR rs ++ [.string r.1, .int .u8 (r.2.toNat : Int)] := by simp [flatR]
theorem set_pair (P T : List Value) (a b x y : Value) (n : Nat) (h : n = P.length) : ((P ++ a :: b :: T).set n x).set (n + 1) y = P ++ x :: y :: T := by
  subst h
  rw [List.set_append_right _ _ (Nat.le_refl _), Nat.sub_self, List.set_cons_zero, List.set_append_right _ _ (by omega), show P.length + 1 - P.length = 1 by omega]
  rfl
theorem info41 : (Tryd.prog.info? 41).map (fun i => (i.zero, i.size, i.bytes)) = some (some (.agg #[.string ⟨#[]⟩, .int .u8 0]), 2, 24) := by kernel_rfl
theorem ORow.kept {w w' : World} {g B : Nat} {v : Value} {n : Nat} {xs : List Value} (h : ORow w B v n xs) (hk : Keeps g B w w') (hne : v.ownBlock ≠ some g) : ORow w' B v n xs := by
  refine ⟨h.1, ?_⟩
  rcases h.2 with hn | ⟨b, cap, cur, rfl, h1, h2, h3⟩
  · exact Or.inl hn
  · exact Or.inr ⟨b, cap, cur, rfl, h1, hk.2 _ _ 41 _ h2 (by decide) (fun e => hne (by rw [← e]; rfl)), h3⟩

set_option maxHeartbeats 1000000 in
set_option maxRecDepth 100000 in
theorem cRcpts (g B : Nat) (bv mv : Value) (l rest : List UInt8) (w : World) (h : Rd w g bv l rest mv [] B) (hold : Old B bv) (hl : l.length ≤ 200000000000000) :
    Calls Tryd.prog 44 #[.pointer (some ⟨g, 0, none⟩)] w fun e w' => (∃ a n c, e = .returned (.tuple #[.slice a n c, .int .i64 (rcptsF l.length rest).2.1]) ∧ ((rcptsF l.length rest).2.1 = 0 → ORow w' B (.slice a n c) (rcptsF l.length rest).1.length (flatR (rcptsF l.length rest).1))) ∧ (∃ mv', Rd w' g bv l (rcptsF l.length rest).2.2.1 mv' (rcptsF l.length rest).2.2.2 B) ∧ Keeps g B w w' := by
  have hBw := h.size
  have C1 := Lib.hid (cFixed g B ⟨#[110]⟩ bv mv l rest [] w h hold hl (by decide))
  have e0 : (⟨#[110]⟩ : ByteArray).data.toList = [110] := rfl
  rw [e0] at C1
  have k1 := @rcptsF_1 l.length rest
  have k2 := @rcptsF_2 l.length rest
  have k3 := @rcptsF_3 l.length rest
  have k4 := @rcptsF_4 l.length rest
  generalize fixedF [110] rest = F at *
  obtain ⟨z, r1⟩ := F
  dsimp only at *
  have C2 := Lib.hid (fun w (h : Rd w g bv l r1 mv [] B) => cNum g B bv mv l r1 [] w h hold hl)
  have hno := @num_ok r1
  generalize numF r1 = N at *
  obtain ⟨n, z2, r2⟩ := N
  dsimp only at *
  have C3 := Lib.hid (fun w => cMayBeCount (takeNumber r1).1 w)
  have C4 := Lib.hid (fun w mv' r ml (h : Rd w g bv l r mv' ml B) (hm : ml.length ≤ 1000) => cRcpt g B bv mv' l r ml w h hold hl hm)
  generalize (takeNumber r1).1 = n' at *
  have hgB : Rd w g bv l rest mv [] B := h
  have HOLD := Lib.hid hold
  clear h hold e0
  by_cases hz : z = 0
  · subst hz
    by_cases hz2 : z2 = 0
    · subst hz2
      obtain rfl := hno rfl
      by_cases hn : 1 ≤ n' ∧ n' ≤ 200
      · rw [k4 rfl rfl hn]
        rw [show decide (1 ≤ n' ∧ n' ≤ 200) = true by simpa using hn] at C3
        obtain ⟨n, rfl⟩ := Int.eq_ofNat_of_zero_le (show 0 ≤ n' by omega)
        have hn1 : 1 ≤ n := by omega
        have hn2 : n ≤ 200 := by omega
        rw [show ((n : Int)).toNat = n by omega]
        have hgs : g < w.heap.size := by obtain ⟨_, _, _, hh, _⟩ := hgB; exact heap_lt hh
        obtain ⟨out, ho⟩ : ∃ out, out = rcsF l.length n r2 [] [] := ⟨_, rfl⟩
        rw [← ho]
        have HO := Lib.hid ho
        clear k1 k2 k3 k4 hno hn ho hgB
        obtain ⟨i0, hi0, hz0, hz1, hzb⟩ := info_parts info41
        go_enter Tryd.func44, Tryd.ntmps44
        go_wp2
        refine wp_scope_fwd fun F hF => ?_
        have HF := Lib.hid hF
        clear hF
        go_wp2_with (go_at_call 41; refine C1.out.mono ?_; rintro e w1 ⟨rfl, h1, q1⟩; refine Hid.out ?_)
        refine Lib.hid ?_
        go_wp2_with (go_at_call 42; refine (C2.out _ h1).mono ?_; rintro e w2 ⟨rfl, h2, q2⟩; refine Hid.out ?_)
        refine Lib.hid ?_
        go_wp2_with (go_at_call 29; refine (C3.out _).mono ?_; rintro e w3 ⟨rfl, rfl⟩; refine Hid.out ?_)
        refine Lib.hid ?_
        go_wp2_with (at_make; refine wpList_make_full _ rfl _ _ 22 rfl B 41 i0 (.agg #[.string ⟨#[]⟩, .int .u8 0]) 2 Tryd.underlying22 hi0 hz0 hz1 .i64 .i64 n n n rfl rfl rfl rfl (by rw [hzb]; omega) (by unfold maxLen; omega) h2.size ?_; intro w4 hown4 hg4; refine Hid.out ?_)
        refine Lib.hid ?_
        have b4 : Below w2.heap.size w2 w4 := (Below.refl _ _).grown hg4 (Nat.le_refl _) (fun k hk => by cases hk)
        have h4 := h2.on b4
        have q4 := (q1.trans q2).trans (Keeps.of_below b4 h2.size)
        have hgl : w2.heap.size ≠ g := by have := (q1.trans q2).1.size; omega
        have hrow4 : ORow w4 B (.slice (some ⟨w2.heap.size, 0, none⟩) n n) n (flatR [] ++ (madeCells (Value.agg #[.string ⟨#[]⟩, .int .u8 0]).cells (n * 2)).toList) := hown4
        have hwg : w.heap.size ≤ w2.heap.size := (q1.trans q2).1.size
        generalize w2.heap.size = gl at hrow4 hgl hwg ⊢
        clear hown4 hg4 q1 q2 h1 C1 C2 C3
        go_wp2_with fail
        go_loopw [26] (fun i wr => ∃ (k : Nat) (r : List UInt8) (mv' : Value) (mk : List Nat) (acc : List Rc) (tl : List Value), k ≤ n ∧ i = .int .i64 k ∧ Hid (Rd wr g bv l r mv' mk B) ∧ mk.length ≤ k ∧ Keeps g B w wr ∧ Hid (ORow wr B (.slice (some ⟨gl, 0, none⟩) n n) n (flatR acc ++ tl)) ∧ acc.length = k ∧ Hid (out = rcsF l.length (n - k) r acc mk)) (fun i _ => n - (intOf i).toNat)
        case atStart => exact ⟨0, r2, mv, [], [], _, by omega, rfl, h4, by simp, q4, hrow4, rfl, by unfold Hid; rw [HO.out]; rfl⟩
        case round =>
          obtain ⟨k, r, mv', mk, acc, tl, hk, rfl, hrd, hmk, hkp, hrow, hacc, hrun⟩ := hrel
          by_cases hlt : k < n
          · have D1 := Lib.hid (C4.out wr mv' r mk hrd.out (by omega))
            have hmr := rcF_marks l.length r
            have hrun2 := hrun.out
            rw [show n - k = (n - k - 1) + 1 by omega, rcsF] at hrun2
            generalize rcF l.length r = R at D1 hmr hrun2
            obtain ⟨⟨S, x⟩, ze, r', ms⟩ := R
            dsimp only at D1 hmr hrun2
            have hlx := hrow.out.1
            rw [List.length_append, flatR_len, hacc] at hlx
            obtain ⟨u0, u1, tl', rfl⟩ : ∃ u0 u1 tl', tl = u0 :: u1 :: tl' := by
              match tl, hlx with
              | [], h => simp at h; omega
              | [_], h => simp at h; omega
              | a :: b :: t, _ => exact ⟨a, b, t, rfl⟩
            have hx0 : (flatR acc ++ u0 :: u1 :: tl')[k * 2]? = some u0 := by
              rw [List.getElem?_append_right (by rw [flatR_len, hacc]; exact Nat.le_refl _), flatR_len, hacc, Nat.sub_self]; rfl
            have hx1 : (flatR acc ++ u0 :: u1 :: tl')[k * 2 + 1]? = some u1 := by
              rw [List.getElem?_append_right (by rw [flatR_len, hacc]; omega), flatR_len, hacc, show k * 2 + 1 - k * 2 = 1 by omega]; rfl
            have HX0 := Lib.hid hx0
            have HX1 := Lib.hid hx1
            have HR2 := Lib.hid hrun2
            have HA := Lib.hid hacc
            have b0 : (0 : Int) ≤ (k : Int) := by omega
            have b1 : (k : Int) < (n : Int) := by omega
            clear hrun hrun2 hx0 hx1 hlx hacc
            go_wp2_with (go_at_call 55; refine D1.out.mono ?_; rintro e w5 ⟨rfl, ⟨mv5, h5⟩, q5⟩; refine Hid.out ?_)
            refine Lib.hid ?_
            have row5 := hrow.out.kept q5 (by intro e; exact hgl (by simpa [Value.ownBlock] using e))
            have y0 := (World.ownsRow.cellAt row5 (k * 2) (by omega)).trans HX0.out
            have y1 := (World.ownsRow.cellAt row5 (k * 2 + 1) (by omega)).trans HX1.out
            have y2 := World.ownsRow.frozenAt row5 (k * 2)
            have y3 := World.ownsRow.frozenAt row5 (k * 2 + 1)
            have hblk : ∃ cs, w5.heap[gl]? = some (.cells cs 41 (0, 0)) ∧ B ≤ gl := by
              rcases row5.2 with ⟨h, _⟩ | ⟨b, cap, cur, h, hb, hh, _⟩
              · simp at h
              · simp only [Value.slice.injEq, Option.some.injEq, Addr.mk.injEq, and_true, true_and] at h
                obtain ⟨rfl, _⟩ := h
                exact ⟨cur, hh, hb⟩
            obtain ⟨cs, hcs, hBgl⟩ := hblk
            have hov : ∀ b, bv.ownBlock = some b → b ≠ gl := fun b hb => by have := HOLD.out b hb; omega
            have st1 := (World.ownsRow.stored row5 (k * 2) (.string S)).1
            have st2 := (World.ownsRow.stored st1 (k * 2 + 1) (.int .u8 (x.toNat : Int))).1
            rw [set_pair (flatR acc) tl' u0 u1 _ _ (k * 2) (by rw [flatR_len, HA.out])] at st2
            have hcs1 : ∃ cs', (w5.setCell ⟨gl, k * 2, none⟩ (.string S)).heap[gl]? = some (.cells cs' 41 (0, 0)) := ⟨_, heap_setCell_same w5 gl (k * 2) _ _ _ hcs⟩
            obtain ⟨cs', hcs'⟩ := hcs1
            have rd5 := (h5.set_other (i := k * 2) (u := .string S) hcs (by decide) hgl hov).set_other (i := k * 2 + 1) (u := .int .u8 (x.toNat : Int)) hcs' (by decide) hgl hov
            have kp5 := ((hkp.trans q5).set_new hwg hBgl (k * 2) (.string S)).set_new hwg hBgl (k * 2 + 1) (.int .u8 (x.toNat : Int))
            have RD := Lib.hid rd5
            have ST := Lib.hid st2
            have HMr : Hid (ms.length ≤ 1) := hmr
            clear row5 hcs hcs' st1 st2 rd5 h5 D1 hrow hrd hmr
            by_cases hze : ze = 0
            · subst hze
              have HF2 : Hid (out = rcsF l.length (n - (k + 1)) r' (acc ++ [(S, x)]) (mk ++ ms)) := by
                unfold Hid; rw [HR2.out, if_neg (by simp), show n - (k + 1) = n - k - 1 by omega]
              clear HR2
              go_wp2
              go_roundw
              case rel => exact ⟨k + 1, r', mv5, mk ++ ms, acc ++ [(S, x)], tl', by omega, by go_num, RD.out, by rw [List.length_append]; have := HMr.out; omega, kp5, by unfold Hid; rw [flatR_snoc, List.append_assoc]; exact ST.out, by rw [List.length_append, HA.out]; rfl, HF2⟩
              case measure => simp [intOf]; omega
            · have HF2 : Hid (out = ([], ze, r', mk ++ ms)) := by unfold Hid; rw [HR2.out, if_pos hze]
              have hb3 : (ze != 0) = true := by simpa using hze
              clear HR2 hze
              go_wp2
              go_step3
              refine ⟨_, by rw [HF.out]; rfl, ?_⟩
              clear HF
              go_wp2
              rw [Exit.noGoto_ret]
              go_ret2
              obtain rfl : out = ([], ze, r', mk ++ ms) := HF2.out
              exact ⟨⟨_, _, _, rfl, fun h => by dsimp only at h; rw [h] at hb3; simp at hb3⟩, ⟨_, RD.out⟩, kp5⟩
          · have hkn : k = n := by omega
            have HF2 : Hid (out = (acc, 0, r, mk)) := by unfold Hid; rw [hrun.out, show n - k = 0 by omega]; rfl
            have HRow : Hid (ORow wr B (.slice (some ⟨gl, 0, none⟩) n n) acc.length (flatR acc)) := by
              have hlx := hrow.out.1
              rw [List.length_append, flatR_len, hacc] at hlx
              have ht : tl = [] := List.eq_nil_of_length_eq_zero (by omega)
              have := hrow.out
              rw [ht, List.append_nil] at this
              unfold Hid; rw [hacc, hkn]; exact this
            clear hrun hrow hacc
            subst hkn
            go_wp2
            rw [Exit.fwd_ret]
            go_ret2
            obtain rfl : out = (acc, 0, r, mk) := HF2.out
            exact ⟨⟨_, _, _, rfl, fun _ => HRow.out⟩, ⟨_, hrd.out⟩, hkp⟩
      · rw [k3 rfl rfl hn]
        rw [show decide (1 ≤ n' ∧ n' ≤ 200) = false by simpa using hn] at C3
        clear k1 k2 k3 k4 hno hn hgB
        go_enter Tryd.func44, Tryd.ntmps44
        go_wp2
        refine wp_scope_fwd fun F hF => ?_
        have HF := Lib.hid hF
        clear hF
        go_wp2_with (go_at_call 41; refine C1.out.mono ?_; rintro e w1 ⟨rfl, h1, q1⟩; refine Hid.out ?_)
        refine Lib.hid ?_
        go_wp2_with (go_at_call 42; refine (C2.out _ h1).mono ?_; rintro e w2 ⟨rfl, h2, q2⟩; refine Hid.out ?_)
        refine Lib.hid ?_
        go_wp2_with (go_at_call 29; refine (C3.out _).mono ?_; rintro e w3 ⟨rfl, rfl⟩; refine Hid.out ?_)
        refine Lib.hid ?_
        go_wp2
        go_step3
        refine ⟨_, by rw [HF.out]; rfl, ?_⟩
        clear HF
        go_wp2
        rw [Exit.noGoto_ret]
        go_ret2
        exact ⟨⟨_, _, _, rfl, fun h => by cases h⟩, ⟨_, h2⟩, q1.trans q2⟩
    · rw [k2 rfl hz2]
      have hb2 : (z2 != 0) = true := by simpa using hz2
      clear k1 k2 k3 k4 hno hz2 hgB
      go_enter Tryd.func44, Tryd.ntmps44
      go_wp2
      refine wp_scope_fwd fun F hF => ?_
      have HF := Lib.hid hF
      clear hF
      go_wp2_with (go_at_call 41; refine C1.out.mono ?_; rintro e w1 ⟨rfl, h1, q1⟩; refine Hid.out ?_)
      refine Lib.hid ?_
      go_wp2_with (go_at_call 42; refine (C2.out _ h1).mono ?_; rintro e w2 ⟨rfl, h2, q2⟩; refine Hid.out ?_)
      refine Lib.hid ?_
      go_wp2
      go_step3
      refine ⟨_, by rw [HF.out]; rfl, ?_⟩
      clear HF
      go_wp2
      rw [Exit.noGoto_ret]
      go_ret2
      exact ⟨⟨_, _, _, rfl, fun h => by rw [h] at hb2; simp at hb2⟩, ⟨_, h2⟩, q1.trans q2⟩
  · rw [k1 hz]
    have hb2 : (z != 0) = true := by simpa using hz
    clear k1 k2 k3 k4 hno hz hgB
    go_enter Tryd.func44, Tryd.ntmps44
    go_wp2
    refine wp_scope_fwd fun F hF => ?_
    have HF := Lib.hid hF
    clear hF
    go_wp2_with (go_at_call 41; refine C1.out.mono ?_; rintro e w1 ⟨rfl, h1, q1⟩; refine Hid.out ?_)
    refine Lib.hid ?_
    go_wp2
    go_step3
    refine ⟨_, by rw [HF.out]; rfl, ?_⟩
    clear HF
    go_wp2
    rw [Exit.noGoto_ret]
    go_ret2
    exact ⟨⟨_, _, _, rfl, fun h => by rw [h] at hb2; simp at hb2⟩, ⟨_, h1⟩, q1⟩
end Go.Proofs.YthoeicidilnleaaDoor.Codec
