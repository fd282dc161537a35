/-
  MERGED by mergefill.py: TabPrs.
-/
import Derived.Test.YtnehgbpfgehhiaaGreatDoorTabPrs0
/-
  TABLE, the program: what a text is read as: the walk.
-/
namespace Go.Proofs.YtnehgbpfgehhiaaGreatDoor.Table
open Go.RowKit Base
set_option maxHeartbeats 32000000 in
set_option maxRecDepth 100000 in
theorem pParseIn (HIX : IdxOk) (s : ByteArray) (w : World) (hm : MaxOk w) (hsz : s.size ≤ 262144) : Calls Tryz.prog 17 #[.string s] w (PrsEnd (parseP s.data.toList) w) := by
  have i1 : ¬ (262144 : Int) < (s.size : Int) := by omega
  obtain ⟨bad, hbad⟩ : ∃ bad, bad = badF s.data.toList := ⟨_, rfl⟩
  obtain ⟨ls, hls⟩ : ∃ ls, ls = splitB 10 s.data.toList := ⟨_, rfl⟩
  have HBADC : Hid (∀ w1, Calls Tryz.prog 36 #[.string s] w1 fun e w' => e = .returned (.agg #[.int .i64 (bad.1 : Int), .int .i64 (bad.2 : Int)]) ∧ Below w1.heap.size w1 w') := fun w1 => by rw [hbad]; exact pBad s w1 (by omega)
  have i1' : decide ((262144 : Int) < (s.size : Int)) = false := decide_eq_false i1
  have HSPL : Hid (∀ w1, MaxOk w1 → Calls Tryz.prog 37 #[.string s, .string ⟨#[10]⟩] w1 (SplitE ls w1)) := fun w1 h => by rw [hls]; exact pSplit s w1 (by omega) h
  obtain ⟨res, hres⟩ : ∃ res, res = parseP s.data.toList := ⟨_, rfl⟩
  obtain ⟨fin, hfin⟩ : ∃ fin, fin = runP 0 ls [] none := ⟨_, rfl⟩
  have HR1 : Hid (∀ f, fin = .inl f → res = .inl (firstF bad f)) := fun f hf => by
    rw [hres]; unfold parseP
    rw [← hls, ← hfin, hf, ← hbad]
  have HR2 : Hid (∀ E cur f, fin = .inr (E, cur) → endP E cur = .inl f → res = .inl (firstF bad f)) := fun E cur f hf he => by
    rw [hres]; unfold parseP
    rw [← hls, ← hfin, hf, ← hbad]
    show (match endP E cur with | .inl f => _ | .inr E2 => _) = _
    rw [he]
  have HR3 : Hid (∀ E cur E2, fin = .inr (E, cur) → endP E cur = .inr E2 → res = if bad.1 = 0 then .inr E2 else .inl bad) := fun E cur E2 hf he => by
    rw [hres]; unfold parseP
    rw [← hls, ← hfin, hf, ← hbad]
    show (match endP E cur with | .inl f => _ | .inr E2 => _) = _
    rw [he]
  rw [← hres]
  have HM := Lib.hid hm
  have HLL : Hid (ls.length ≤ 262145 ∧ sumL ls = s.size + 1) := by
    have h1 := splitB_len 10 s.data.toList
    have h2 := splitB_sum 10 s.data.toList
    rw [str_len] at h1 h2
    rw [hls]
    exact ⟨by omega, h2⟩
  have HFI := Lib.hid hfin
  clear hbad hls hres hm hfin
  have hmm := @run_makeMap Tryz.prog
  go_enter Tryz.func17, Tryz.ntmps17
  go_wp2
  refine wp_scope_fwd fun F hF => ?_
  have HF := Lib.hid hF
  clear hF
  go_wp2_with (first | (go_at_call 36; refine (HBADC.out _).mono ?_; rintro e w1 ⟨rfl, hb1⟩; refine Hid.out ?_) | fail)
  refine Lib.hid ?_
  have HB1 := Lib.hid hb1
  have zw : w.heap.size + 1 ≤ w1.heap.size := by have := hb1.size; simpa using this
  have HBW1 : Hid (Below w.heap.size w w1) := (Below.alloc1 _ _).trans (hb1.mono (by simp))
  clear hb1
  have HM4 : Hid (∀ o1 o2 o3 o4 : Obj, MaxOk ((((w1.alloc o1).alloc o2).alloc o3).alloc o4)) := fun o1 o2 o3 o4 => HM.out.on (HBW1.out.trans (((((Below.refl w1.heap.size w1).alloc (Nat.le_refl _) _).alloc (by simp) _).alloc (by simp; omega) _).alloc (by simp; omega) _ |>.mono (by omega)))
  clear zw
  go_wp2_with (first | (go_at_call 37; refine (HSPL.out _ (HM4.out _ _ _ _)).mono ?_; rintro e w5 ⟨gl, lc, cur9, rfl, hc9, hlc, hcl, hb5⟩; refine Hid.out ?_) | fail)
  refine Lib.hid ?_
  have HPL := Lib.hid (pl_start HB1.out hb5 hc9)
  have HCL := Lib.hid hcl
  have hll1 := HLL.out.1
  clear hc9 hcl hb5 HM4 hmm
  have HL0 : Hid (LoopI w w5 w.heap.size w1.heap.size (w1.heap.size + 1 + 1 + 1) (w1.heap.size + 1 + 1) (w1.heap.size + 1) gl bad cur9 ls (s.size + 1) fin 0 0 [] none) := ⟨HPL.out, HFI.out.symm, Nat.zero_le _, (fun e he => by cases he), by rw [List.drop_zero, HLL.out.2]; simp⟩
  generalize w1.heap.size = n1 at *
  have HMC : Hid (∀ wr k E cur (l : List UInt8), PL w wr w.heap.size n1 (n1 + 1 + 1 + 1) (n1 + 1 + 1) (n1 + 1) gl bad cur9 E cur → ls[k]? = some l → wr.cell? ⟨gl, k, none⟩ = some (S l)) := fun wr k E cur l h hl => by
    rw [cell_of_row wr gl k _ _ _ h.h3]; exact HCL.out k l hl
  clear HPL
  go_wp2_with fail
  go_loopw [7, 21] (fun a i wr => ∃ (k A : Nat) (E : List KV) (cur : Option Ent), k ≤ ls.length ∧ a = .int .i64 (A : Int) ∧ i = .int .i64 (k : Int) ∧ Hid (LoopI w wr w.heap.size n1 (n1 + 1 + 1 + 1) (n1 + 1 + 1) (n1 + 1) gl bad cur9 ls (s.size + 1) fin k A E cur)) (fun _ i _ => ls.length - (intOf i).toNat)
  case atStart => exact ⟨0, 0, [], none, by omega, rfl, rfl, HL0⟩
  case round =>
    clear HL0 HFI
    obtain ⟨k, A, E, cur, hk, rfl, rfl, HI⟩ := hrel
    obtain ⟨hkl, hvl, hAN⟩ := HI.out.bounds
    have hEl := HI.out.el
    by_cases hlt : k < ls.length
    · obtain ⟨l, hl⟩ : ∃ l, ls[k]? = some l := ⟨ls[k], List.getElem?_eq_getElem hlt⟩
      have hc := HMC.out wr k E cur l HI.out.pl hl
      obtain ⟨_, hsum⟩ := HI.out.cons hl
      have HLK := Lib.hid hl
      obtain ⟨line, hline⟩ : ∃ line : ByteArray, line.data.toList = l := ⟨⟨l.toArray⟩, rfl⟩
      have hc2 : wr.cell? ⟨gl, k, none⟩ = some (.string line) := by rw [hc, ← hline]
      have hlsz : line.size = l.length := by rw [← str_len, hline]
      have HLN := Lib.hid hline
      have j0 : (0 : Int) ≤ (k : Int) := by omega
      have j1 : (k : Int) < (ls.length : Int) := by omega
      have HPS : Hid (∀ wx, Calls Tryz.prog 38 #[.string line] wx fun e w' => e = .returned (.bool (skipB l)) ∧ Below wx.heap.size wx w') := fun wx => by
        have := pPassed line wx
        rw [hline] at this; exact this
      have HLZ := Lib.hid hlsz
      have hl9 : line.size + A + 1 ≤ 262145 := by omega
      clear hc hl hline hlsz hsum
      cases hs : skipB l
      · have HSK := Lib.hid hs
        rw [hs] at HPS
        have hl0 : 0 < line.size := by
          rcases Nat.eq_zero_or_pos line.size with h | h
          · have : l = [] := by rw [← HLN.out]; exact List.eq_nil_of_length_eq_zero (by rw [str_len]; exact h)
            rw [this] at hs; cases hs
          · exact h
        have n1' : (0 : Int) < (line.size : Int) := by omega
        have HHD : Hid (headIs isBl l = isBl line[0]) := by show _ = _; rw [← HLN.out]; exact head_at isBl line hl0
        have HBK : Hid (∀ w1, Calls Tryz.prog 39 #[.int .u8 (line[0].toNat : Int)] w1 fun e w' => e = .returned (.bool (isBl line[0])) ∧ w1 = w') := fun w1 => pBlank line[0] w1
        clear hs
        go_wp2_with (first | (go_at_call 38; refine (HPS.out _).mono ?_; rintro e w6 ⟨rfl, hb6⟩; refine Hid.out ?_) | fail)
        refine Lib.hid ?_
        have HP6 := Lib.hid (HI.out.pl.on hb6)
        clear hb6 hc2
        cases hb : isBl line[0]
        · rw [hb] at HBK HHD
          clear hb
          have HEND : Hid (Calls Tryz.prog 40 #[.pointer (some ⟨n1 + 1 + 1, 0, none⟩)] w6 (EndEnd w.heap.size w6 (n1 + 1 + 1) (n1 + 1) E cur.isSome (posC cur) (keyC cur) (valC cur))) := pEnd w.heap.size w6 (n1 + 1 + 1) (n1 + 1) E cur.isSome (posC cur) (keyC cur) (valC cur) HP6.out.rst (by omega) (by omega) (by omega)
          have HSPLIT : Hid ((∃ f1 f2 : Nat, f1 ≠ 0 ∧ endP E cur = .inl (f1, f2) ∧ Calls Tryz.prog 40 #[.pointer (some ⟨n1 + 1 + 1, 0, none⟩)] w6 fun e w' => e = .returned (.agg #[.int .i64 (f1 : Int), .int .i64 (f2 : Int)]) ∧ PL w w' w.heap.size n1 (n1 + 1 + 1 + 1) (n1 + 1 + 1) (n1 + 1) gl bad cur9 E cur) ∨
              ∃ E2 : List KV, E2.length ≤ E.length + 1 ∧ endP E cur = .inr E2 ∧ Calls Tryz.prog 40 #[.pointer (some ⟨n1 + 1 + 1, 0, none⟩)] w6 fun e w' => e = .returned (.agg #[.int .i64 0, .int .i64 0]) ∧ PL w w' w.heap.size n1 (n1 + 1 + 1 + 1) (n1 + 1 + 1) (n1 + 1) gl bad cur9 E2 cur) := by
            have h1 := HEND.out
            cases cur with
            | none => exact Or.inr ⟨E, by omega, rfl, h1.mono fun e w' ⟨q1, q2⟩ => by
                rcases q2 with ⟨_, q3, q4⟩ | ⟨q3, _⟩ | ⟨q3, _⟩
                · exact ⟨q3, HP6.out.step q1 q4⟩
                · cases q3
                · cases q3⟩
            | some ent =>
              by_cases hw : wrongP E (kvOf ent).1 (kvOf ent).2 = 0
              · exact Or.inr ⟨E ++ [kvOf ent], by simp, endP_yes hw, h1.mono fun e w' ⟨q1, q2⟩ => by
                  rcases q2 with ⟨q3, _⟩ | ⟨_, q3, _⟩ | ⟨_, _, q3, q4⟩
                  · cases q3
                  · exact absurd hw q3
                  · exact ⟨q3, HP6.out.step q1 q4⟩⟩
              · exact Or.inl ⟨_, _, hw, endP_no hw, h1.mono fun e w' ⟨q1, q2⟩ => by
                  rcases q2 with ⟨q3, _⟩ | ⟨_, _, q3, q4⟩ | ⟨_, q3, _⟩
                  · cases q3
                  · exact ⟨q3, HP6.out.step q1 q4⟩
                  · exact absurd q3 hw⟩
          clear HEND
          rcases HSPLIT.out with ⟨f1, f2, hf, he, hc29⟩ | ⟨E2, hE2, he, hc29⟩
          · have HC29 := Lib.hid hc29
            have HEQ := Lib.hid he
            clear he hc29 HSPLIT
            have HRF := Lib.hid (HR1.out _ (HI.out.wrong HLK.out HSK.out HHD.out HEQ.out))
            have k1 : ((f1 : Int) != 0) = true := by rw [bne_iff_ne]; omega
            go_wp2_with (first | (go_at_call 39; refine (HBK.out _).mono ?_; rintro e w7 ⟨rfl, rfl⟩) | (go_at_call 40; refine HC29.out.mono ?_; rintro e w8 ⟨rfl, p8⟩; refine Hid.out ?_) | fail)
            refine Lib.hid ?_
            have HP8 := Lib.hid p8
            obtain ⟨fa, fb, fc, fd⟩ := two_cells p8.h2
            have T0 : Hid (box27 ((w8.setCell ⟨n1 + 1 + 1 + 1, 0, none⟩ (.int .i64 (f1 : Int))).setCell ⟨n1 + 1 + 1 + 1, 1, none⟩ (.int .i64 (f2 : Int))) w.heap.size (0, 0)) := (box_other HP8.out.ne.2.1).trans HP8.out.h0
            have T1 : Hid (((w8.setCell ⟨n1 + 1 + 1 + 1, 0, none⟩ (.int .i64 (f1 : Int))).setCell ⟨n1 + 1 + 1 + 1, 1, none⟩ (.int .i64 (f2 : Int))).heap[n1]? = some (.cells #[.int .i64 (bad.1 : Int), .int .i64 (bad.2 : Int)] 51 (0, 0))) := (box_other HP8.out.ne.2.2.1).trans HP8.out.h1
            have T2 : Hid (((w8.setCell ⟨n1 + 1 + 1 + 1, 0, none⟩ (.int .i64 (f1 : Int))).setCell ⟨n1 + 1 + 1 + 1, 1, none⟩ (.int .i64 (f2 : Int))).heap[n1 + 1 + 1 + 1]? = some (.cells #[.int .i64 (f1 : Int), .int .i64 (f2 : Int)] 51 (0, 0))) := box_same HP8.out.h2 ((f1, f2) : Nat × Nat)
            have TB : Hid (Below w.heap.size w ((w8.setCell ⟨n1 + 1 + 1 + 1, 0, none⟩ (.int .i64 (f1 : Int))).setCell ⟨n1 + 1 + 1 + 1, 1, none⟩ (.int .i64 (f2 : Int)))) := (HP8.out.below.setCell HP8.out.ne.2.2.2.2.2 _).setCell HP8.out.ne.2.2.2.2.2 _
            clear p8
            go_wp2_with fail
            clear fa fb fc fd
            obtain ⟨ya, yb, yc, yd⟩ := two_cells T1.out
            obtain ⟨za, zb, zc, zd⟩ := two_cells T2.out
            have HPF : Hid (∀ wx, Calls Tryz.prog 44 #[.agg #[.int .i64 (bad.1 : Int), .int .i64 (bad.2 : Int)], .agg #[.int .i64 (f1 : Int), .int .i64 (f2 : Int)]] wx fun e w' => e = .returned (.agg #[.int .i64 ((firstF bad ((f1, f2) : Nat × Nat)).1 : Int), .int .i64 ((firstF bad ((f1, f2) : Nat × Nat)).2 : Int)]) ∧ Below wx.heap.size wx w') := fun wx => pFirst bad ((f1, f2) : Nat × Nat) wx
            go_step3
            refine ⟨_, by rw [HF.out]; rfl, ?_⟩
            clear HF
            go_wp2_with (first | (go_at_call 44; refine (HPF.out _).mono ?_; rintro e w9 ⟨rfl, hb9⟩; refine Hid.out ?_) | fail)
            refine Lib.hid ?_
            have T9 := Lib.hid (T0.out.on hb9)
            have TB9 := Lib.hid (TB.out.trans (hb9.mono TB.out.size))
            obtain ⟨xa, xb, xc, xd⟩ := two_cells T9.out
            clear hb9 ya yb yc yd za zb zc zd
            go_wp2_with fail
            obtain ⟨va, vb, _, _⟩ := two_cells (set_two T9.out (.int .i64 ((firstF bad ((f1, f2) : Nat × Nat)).1 : Int)) (.int .i64 ((firstF bad ((f1, f2) : Nat × Nat)).2 : Int)))
            exact bodyPost_ret (v := .tuple #[.pointer none, .agg #[.int .i64 ((firstF bad ((f1, f2) : Nat × Nat)).1 : Int), .int .i64 ((firstF bad ((f1, f2) : Nat × Nat)).2 : Int)]]) (by simp [results, Tryz.results17, go_sem, va, vb]) rfl ⟨(TB9.out.setCell (Nat.le_refl _) _).setCell (Nat.le_refl _) _, by rw [HRF.out]; rfl⟩
          · have HC29 := Lib.hid hc29
            have HEQ := Lib.hid he
            clear he hc29 HSPLIT
            go_wp2_with (first | (go_at_call 39; refine (HBK.out _).mono ?_; rintro e w7 ⟨rfl, rfl⟩) | (go_at_call 40; refine HC29.out.mono ?_; rintro e w8 ⟨rfl, p8⟩; refine Hid.out ?_) | fail)
            refine Lib.hid ?_
            have HP8 := Lib.hid p8
            have HPF8 := Lib.hid p8.fault
            obtain ⟨fa, fb, fc, fd⟩ := two_cells p8.h2
            have HBG : Hid (∀ W, PL w W w.heap.size n1 (n1 + 1 + 1 + 1) (n1 + 1 + 1) (n1 + 1) gl bad cur9 E2 cur → Calls Tryz.prog 41 #[.pointer (some ⟨n1 + 1 + 1, 0, none⟩), .int .i64 (A : Int), .string line] W fun e w' => e = .returned (.tuple #[]) ∧ PL w w' w.heap.size n1 (n1 + 1 + 1 + 1) (n1 + 1 + 1) (n1 + 1) gl bad cur9 E2 (some ⟨A, l, []⟩)) := fun W hp => by
              have h1 := pBegin HIX w.heap.size W (n1 + 1 + 1) (n1 + 1) E2 cur.isSome (posC cur : Int) (keyC cur) (valC cur) A line hp.rst (by omega)
              refine h1.mono fun e w' ⟨k1, k2, k3⟩ => ⟨k1, hp.step k3 ?_⟩
              rw [HLN.out] at k2
              exact k2
            clear p8
            go_wp2_with (first | (go_at_call 41; refine (HBG.out _ HPF8.out).mono ?_; rintro e w10 ⟨rfl, p10⟩; refine Hid.out ?_) | fail)
            refine Lib.hid ?_
            have HN : Hid (LoopI w w10 w.heap.size n1 (n1 + 1 + 1 + 1) (n1 + 1 + 1) (n1 + 1) gl bad cur9 ls (s.size + 1) fin (k + 1) (A + l.length + 1) E2 (some ⟨A, l, []⟩)) := HI.out.next HLK.out HSK.out HHD.out HEQ.out hE2 p10
            clear p10 fa fb fc fd
            go_wp2_with fail
            go_roundw
            case rel => exact ⟨k + 1, A + l.length + 1, E2, _, by omega, by rw [HLZ.out]; go_num, by go_num, HN⟩
            case measure => simp [intOf]; omega
        · rw [hb] at HBK HHD
          clear hb
          cases cur with
          | none =>
            have HRF := Lib.hid (HR1.out _ (HI.out.orphan HLK.out HSK.out HHD.out))
            have g2 : w6.cell? ⟨n1 + 1 + 1, 2, none⟩ = some (.bool false) := by obtain ⟨ev, vv, hx⟩ := HP6.out.rst; exact hx.cells.2.2.1
            obtain ⟨fa, fb, fc, fd⟩ := two_cells HP6.out.h2
            have T0 : Hid (box27 ((w6.setCell ⟨n1 + 1 + 1 + 1, 0, none⟩ (.int .i64 61)).setCell ⟨n1 + 1 + 1 + 1, 1, none⟩ (.int .i64 (A : Int))) w.heap.size (0, 0)) := (box_other HP6.out.ne.2.1).trans HP6.out.h0
            have T1 : Hid (((w6.setCell ⟨n1 + 1 + 1 + 1, 0, none⟩ (.int .i64 61)).setCell ⟨n1 + 1 + 1 + 1, 1, none⟩ (.int .i64 (A : Int))).heap[n1]? = some (.cells #[.int .i64 (bad.1 : Int), .int .i64 (bad.2 : Int)] 51 (0, 0))) := (box_other HP6.out.ne.2.2.1).trans HP6.out.h1
            have T2 : Hid (((w6.setCell ⟨n1 + 1 + 1 + 1, 0, none⟩ (.int .i64 61)).setCell ⟨n1 + 1 + 1 + 1, 1, none⟩ (.int .i64 (A : Int))).heap[n1 + 1 + 1 + 1]? = some (.cells #[.int .i64 61, .int .i64 (A : Int)] 51 (0, 0))) := box_same HP6.out.h2 ((61, A) : Nat × Nat)
            have TB : Hid (Below w.heap.size w ((w6.setCell ⟨n1 + 1 + 1 + 1, 0, none⟩ (.int .i64 61)).setCell ⟨n1 + 1 + 1 + 1, 1, none⟩ (.int .i64 (A : Int)))) := (HP6.out.below.setCell HP6.out.ne.2.2.2.2.2 _).setCell HP6.out.ne.2.2.2.2.2 _
            go_wp2_with (first | (go_at_call 39; refine (HBK.out _).mono ?_; rintro e w7 ⟨rfl, rfl⟩) | fail)
            clear fa fb fc fd g2
            obtain ⟨ya, yb, yc, yd⟩ := two_cells T1.out
            obtain ⟨za, zb, zc, zd⟩ := two_cells T2.out
            have HPF : Hid (∀ wx, Calls Tryz.prog 44 #[.agg #[.int .i64 (bad.1 : Int), .int .i64 (bad.2 : Int)], .agg #[.int .i64 61, .int .i64 (A : Int)]] wx fun e w' => e = .returned (.agg #[.int .i64 ((firstF bad ((61, A) : Nat × Nat)).1 : Int), .int .i64 ((firstF bad ((61, A) : Nat × Nat)).2 : Int)]) ∧ Below wx.heap.size wx w') := fun wx => pFirst bad ((61, A) : Nat × Nat) wx
            go_step3
            refine ⟨_, by rw [HF.out]; rfl, ?_⟩
            clear HF
            go_wp2_with (first | (go_at_call 44; refine (HPF.out _).mono ?_; rintro e w9 ⟨rfl, hb9⟩; refine Hid.out ?_) | fail)
            refine Lib.hid ?_
            have T9 := Lib.hid (T0.out.on hb9)
            have TB9 := Lib.hid (TB.out.trans (hb9.mono TB.out.size))
            obtain ⟨xa, xb, xc, xd⟩ := two_cells T9.out
            clear hb9 ya yb yc yd za zb zc zd
            go_wp2_with fail
            obtain ⟨va, vb, _, _⟩ := two_cells (set_two T9.out (.int .i64 ((firstF bad ((61, A) : Nat × Nat)).1 : Int)) (.int .i64 ((firstF bad ((61, A) : Nat × Nat)).2 : Int)))
            exact bodyPost_ret (v := .tuple #[.pointer none, .agg #[.int .i64 ((firstF bad ((61, A) : Nat × Nat)).1 : Int), .int .i64 ((firstF bad ((61, A) : Nat × Nat)).2 : Int)]]) (by simp [results, Tryz.results17, go_sem, va, vb]) rfl ⟨(TB9.out.setCell (Nat.le_refl _) _).setCell (Nat.le_refl _) _, by rw [HRF.out]; rfl⟩
          | some ent =>
            have g2 : w6.cell? ⟨n1 + 1 + 1, 2, none⟩ = some (.bool true) := by obtain ⟨ev, vv, hx⟩ := HP6.out.rst; exact hx.cells.2.2.1
            have HAD : Hid (Calls Tryz.prog 42 #[.pointer (some ⟨n1 + 1 + 1, 0, none⟩), .string line] w6 fun e w' => e = .returned (.tuple #[]) ∧ PL w w' w.heap.size n1 (n1 + 1 + 1 + 1) (n1 + 1 + 1) (n1 + 1) gl bad cur9 E (some { ent with more := ent.more ++ [trim l] })) := by
              have h1 := pAdd w.heap.size w6 (n1 + 1 + 1) (n1 + 1) E true (posC (some ent) : Int) (keyC (some ent)) (valC (some ent)) line HP6.out.rst (by omega) (by omega)
              refine h1.mono fun e w' ⟨k1, k2, k3⟩ => ⟨k1, HP6.out.step k3 ?_⟩
              rw [HLN.out] at k2
              have k4 := kv_more ent (trim l)
              show RSt _ _ _ _ _ _ _ (kvOf { ent with more := ent.more ++ [trim l] }).1 (kvOf { ent with more := ent.more ++ [trim l] }).2
              rw [k4]; exact k2
            go_wp2_with (first | (go_at_call 39; refine (HBK.out _).mono ?_; rintro e w7 ⟨rfl, rfl⟩) | (go_at_call 42; refine HAD.out.mono ?_; rintro e w8 ⟨rfl, p8⟩; refine Hid.out ?_) | fail)
            refine Lib.hid ?_
            have HN : Hid (LoopI w w8 w.heap.size n1 (n1 + 1 + 1 + 1) (n1 + 1 + 1) (n1 + 1) gl bad cur9 ls (s.size + 1) fin (k + 1) (A + l.length + 1) E (some { ent with more := ent.more ++ [trim l] })) := HI.out.more HLK.out HSK.out HHD.out p8
            clear p8 g2
            go_wp2_with fail
            go_roundw
            case rel => exact ⟨k + 1, A + l.length + 1, E, _, by omega, by rw [HLZ.out]; go_num, by go_num, HN⟩
            case measure => simp [intOf]; omega
      · have HSK := Lib.hid hs
        rw [hs] at HPS
        clear hs
        go_wp2_with (first | (go_at_call 38; refine (HPS.out _).mono ?_; rintro e w6 ⟨rfl, hb6⟩; refine Hid.out ?_) | fail)
        refine Lib.hid ?_
        have HP6 := Lib.hid (HI.out.pl.on hb6)
        have HN : Hid (LoopI w w6 w.heap.size n1 (n1 + 1 + 1 + 1) (n1 + 1 + 1) (n1 + 1) gl bad cur9 ls (s.size + 1) fin (k + 1) (A + l.length + 1) E cur) := HI.out.pass HLK.out HSK.out HP6.out
        clear hb6 hc2
        go_wp2_with fail
        go_roundw
        case rel => exact ⟨k + 1, A + l.length + 1, E, cur, by omega, by rw [HLZ.out]; go_num, by go_num, HN⟩
        case measure => simp [intOf]; omega
    · have j1 : ¬ (k : Int) < (ls.length : Int) := by omega
      have HFE : Hid (fin = .inr (E, cur)) := by
        have h1 := HI.out.eq
        rw [List.drop_eq_nil_of_le (by omega)] at h1
        exact h1.symm
      have HP0 := Lib.hid HI.out.pl
      clear HMC
      have HEND : Hid (Calls Tryz.prog 40 #[.pointer (some ⟨n1 + 1 + 1, 0, none⟩)] wr (EndEnd w.heap.size wr (n1 + 1 + 1) (n1 + 1) E cur.isSome (posC cur) (keyC cur) (valC cur))) := pEnd w.heap.size wr (n1 + 1 + 1) (n1 + 1) E cur.isSome (posC cur) (keyC cur) (valC cur) HP0.out.rst (by omega) (by omega) (by omega)
      have HSPLIT : Hid ((∃ f1 f2 : Nat, f1 ≠ 0 ∧ endP E cur = .inl (f1, f2) ∧ Calls Tryz.prog 40 #[.pointer (some ⟨n1 + 1 + 1, 0, none⟩)] wr fun e w' => e = .returned (.agg #[.int .i64 (f1 : Int), .int .i64 (f2 : Int)]) ∧ PL w w' w.heap.size n1 (n1 + 1 + 1 + 1) (n1 + 1 + 1) (n1 + 1) gl bad cur9 E cur) ∨
          ∃ E2 : List KV, E2.length ≤ E.length + 1 ∧ endP E cur = .inr E2 ∧ Calls Tryz.prog 40 #[.pointer (some ⟨n1 + 1 + 1, 0, none⟩)] wr fun e w' => e = .returned (.agg #[.int .i64 0, .int .i64 0]) ∧ PL w w' w.heap.size n1 (n1 + 1 + 1 + 1) (n1 + 1 + 1) (n1 + 1) gl bad cur9 E2 cur) := by
        have h1 := HEND.out
        cases cur with
        | none => exact Or.inr ⟨E, by omega, rfl, h1.mono fun e w' ⟨q1, q2⟩ => by
            rcases q2 with ⟨_, q3, q4⟩ | ⟨q3, _⟩ | ⟨q3, _⟩
            · exact ⟨q3, HP0.out.step q1 q4⟩
            · cases q3
            · cases q3⟩
        | some ent =>
          by_cases hw : wrongP E (kvOf ent).1 (kvOf ent).2 = 0
          · exact Or.inr ⟨E ++ [kvOf ent], by simp, endP_yes hw, h1.mono fun e w' ⟨q1, q2⟩ => by
              rcases q2 with ⟨q3, _⟩ | ⟨_, q3, _⟩ | ⟨_, _, q3, q4⟩
              · cases q3
              · exact absurd hw q3
              · exact ⟨q3, HP0.out.step q1 q4⟩⟩
          · exact Or.inl ⟨_, _, hw, endP_no hw, h1.mono fun e w' ⟨q1, q2⟩ => by
              rcases q2 with ⟨q3, _⟩ | ⟨_, _, q3, q4⟩ | ⟨_, q3, _⟩
              · cases q3
              · exact ⟨q3, HP0.out.step q1 q4⟩
              · exact absurd q3 hw⟩
      clear HEND
      rcases HSPLIT.out with ⟨f1, f2, hf, he, hc29⟩ | ⟨E2, hE2, he, hc29⟩
      · have HC29 := Lib.hid hc29
        have HEQ := Lib.hid he
        clear he hc29 HSPLIT
        have HRF := Lib.hid (HR2.out E cur _ HFE.out HEQ.out)
        have k1 : ((f1 : Int) != 0) = true := by rw [bne_iff_ne]; omega
        go_wp2_with (first | (go_at_call 40; refine HC29.out.mono ?_; rintro e w8 ⟨rfl, p8⟩; refine Hid.out ?_) | fail)
        refine Lib.hid ?_
        have HP8 := Lib.hid p8
        obtain ⟨fa, fb, fc, fd⟩ := two_cells p8.h2
        have T0 : Hid (box27 ((w8.setCell ⟨n1 + 1 + 1 + 1, 0, none⟩ (.int .i64 (f1 : Int))).setCell ⟨n1 + 1 + 1 + 1, 1, none⟩ (.int .i64 (f2 : Int))) w.heap.size (0, 0)) := (box_other HP8.out.ne.2.1).trans HP8.out.h0
        have T1 : Hid (((w8.setCell ⟨n1 + 1 + 1 + 1, 0, none⟩ (.int .i64 (f1 : Int))).setCell ⟨n1 + 1 + 1 + 1, 1, none⟩ (.int .i64 (f2 : Int))).heap[n1]? = some (.cells #[.int .i64 (bad.1 : Int), .int .i64 (bad.2 : Int)] 51 (0, 0))) := (box_other HP8.out.ne.2.2.1).trans HP8.out.h1
        have T2 : Hid (((w8.setCell ⟨n1 + 1 + 1 + 1, 0, none⟩ (.int .i64 (f1 : Int))).setCell ⟨n1 + 1 + 1 + 1, 1, none⟩ (.int .i64 (f2 : Int))).heap[n1 + 1 + 1 + 1]? = some (.cells #[.int .i64 (f1 : Int), .int .i64 (f2 : Int)] 51 (0, 0))) := box_same HP8.out.h2 ((f1, f2) : Nat × Nat)
        have TB : Hid (Below w.heap.size w ((w8.setCell ⟨n1 + 1 + 1 + 1, 0, none⟩ (.int .i64 (f1 : Int))).setCell ⟨n1 + 1 + 1 + 1, 1, none⟩ (.int .i64 (f2 : Int)))) := (HP8.out.below.setCell HP8.out.ne.2.2.2.2.2 _).setCell HP8.out.ne.2.2.2.2.2 _
        clear p8
        go_wp2_with fail
        clear fa fb fc fd
        obtain ⟨ya, yb, yc, yd⟩ := two_cells T1.out
        obtain ⟨za, zb, zc, zd⟩ := two_cells T2.out
        have HPF : Hid (∀ wx, Calls Tryz.prog 44 #[.agg #[.int .i64 (bad.1 : Int), .int .i64 (bad.2 : Int)], .agg #[.int .i64 (f1 : Int), .int .i64 (f2 : Int)]] wx fun e w' => e = .returned (.agg #[.int .i64 ((firstF bad ((f1, f2) : Nat × Nat)).1 : Int), .int .i64 ((firstF bad ((f1, f2) : Nat × Nat)).2 : Int)]) ∧ Below wx.heap.size wx w') := fun wx => pFirst bad ((f1, f2) : Nat × Nat) wx
        go_step3
        refine ⟨_, by rw [HF.out]; rfl, ?_⟩
        clear HF
        go_wp2_with (first | (go_at_call 44; refine (HPF.out _).mono ?_; rintro e w9 ⟨rfl, hb9⟩; refine Hid.out ?_) | fail)
        refine Lib.hid ?_
        have T9 := Lib.hid (T0.out.on hb9)
        have TB9 := Lib.hid (TB.out.trans (hb9.mono TB.out.size))
        obtain ⟨xa, xb, xc, xd⟩ := two_cells T9.out
        clear hb9 ya yb yc yd za zb zc zd
        go_wp2_with fail
        obtain ⟨va, vb, _, _⟩ := two_cells (set_two T9.out (.int .i64 ((firstF bad ((f1, f2) : Nat × Nat)).1 : Int)) (.int .i64 ((firstF bad ((f1, f2) : Nat × Nat)).2 : Int)))
        exact bodyPost_ret (v := .tuple #[.pointer none, .agg #[.int .i64 ((firstF bad ((f1, f2) : Nat × Nat)).1 : Int), .int .i64 ((firstF bad ((f1, f2) : Nat × Nat)).2 : Int)]]) (by simp [results, Tryz.results17, go_sem, va, vb]) rfl ⟨(TB9.out.setCell (Nat.le_refl _) _).setCell (Nat.le_refl _) _, by rw [HRF.out]; rfl⟩
      · have HC29 := Lib.hid hc29
        have HEQ := Lib.hid he
        have HRR := Lib.hid (HR3.out E cur E2 HFE.out he)
        clear he hc29 HSPLIT
        by_cases hb0 : bad.1 = 0
        · have HRF : Hid (res = .inr E2) := by show _ = _; rw [HRR.out, if_pos hb0]
          have k1 : ((bad.1 : Int) != 0) = false := by rw [hb0]; rfl
          clear hb0
          go_wp2_with (first | (go_at_call 40; refine HC29.out.mono ?_; rintro e w8 ⟨rfl, p8⟩; refine Hid.out ?_) | fail)
          refine Lib.hid ?_
          have HPF8 := Lib.hid p8.fault
          obtain ⟨fa, fb, fc, fd⟩ := two_cells p8.h2
          obtain ⟨ya, yb, yc, yd⟩ := two_cells p8.h1
          have HTB := Lib.hid (fun W (hp : PL w W w.heap.size n1 (n1 + 1 + 1 + 1) (n1 + 1 + 1) (n1 + 1) gl bad cur9 E2 cur) => pTable w.heap.size W (n1 + 1 + 1) (n1 + 1) E2 cur.isSome (posC cur : Int) (keyC cur) (valC cur) hp.rst (by omega))
          clear p8
          go_wp2_with (first | (go_at_call 43; refine (HTB.out _ HPF8.out).mono ?_; rintro e w10 ⟨tb, T, sv, rfl, t1, t2, t3, t4, t5, t6, t7⟩; refine Hid.out ?_) | fail)
          refine Lib.hid ?_
          have T9 := Lib.hid (HPF8.out.h0.keep t7.keep)
          obtain ⟨xa, xb, xc, xd⟩ := two_cells T9.out
          have HNE : Hid (tb ≠ w.heap.size ∧ sv.ownBlock ≠ some w.heap.size) := ⟨by have := heap_lt HPF8.out.h0; omega, t5 _ _ _ _ HPF8.out.h0 (by decide)⟩
          have HT3 := Lib.hid t3
          have HT4 := Lib.hid t4
          have HT7 := Lib.hid (HPF8.out.below.trans t7.below)
          have HT6 : Hid (w.heap.size ≤ tb) := Nat.le_trans HPF8.out.below.size t6
          have HT5 : Hid (∀ (q : Nat) (cs : Array Value) (t : TypeId) (fz : Nat × Nat), w.heap[q]? = some (.cells cs t fz) → t ≠ 133 → sv.ownBlock ≠ some q) := fun q cs t fz hq ht => t5 q cs t fz ((HPF8.out.below.block q (heap_lt hq)).trans hq) ht
          have HT1 := Lib.hid t1
          have HT2 := Lib.hid t2
          clear t1 t2 t3 t4 t5 t6 t7 fa fb fc fd ya yb yc yd
          go_wp2_with fail
          rw [Exit.fwd_ret]
          obtain ⟨va, vb, _, _⟩ := two_cells (set_two T9.out (.int .i64 0) (.int .i64 0))
          exact bodyPost_ret (v := .tuple #[.pointer (some ⟨tb, 0, none⟩), .agg #[.int .i64 0, .int .i64 0]]) (by simp [results, Tryz.results17, go_sem, va, vb]) rfl ⟨(HT7.out.setCell (Nat.le_refl _) _).setCell (Nat.le_refl _) _, by
            rw [HRF.out]
            exact ⟨tb, T, rfl, HT1.out, HT2.out, sv, (box_other HNE.out.1).trans HT3.out, HT4.out.kept (fun b hb _ => box_other (fun e => HNE.out.2 (by rw [hb, e]))), HT6.out, HT5.out⟩⟩
        · have HRF : Hid (res = .inl (firstF bad ((0, 0) : Nat × Nat))) := by show _ = _; rw [HRR.out, if_neg hb0]; unfold firstF; rw [if_pos (Or.inl rfl)]
          have k1 : ((bad.1 : Int) != 0) = true := by rw [bne_iff_ne]; omega
          clear hb0
          go_wp2_with (first | (go_at_call 40; refine HC29.out.mono ?_; rintro e w8 ⟨rfl, p8⟩; refine Hid.out ?_) | fail)
          refine Lib.hid ?_
          have HP8 := Lib.hid p8
          obtain ⟨fa, fb, fc, fd⟩ := two_cells p8.h2
          obtain ⟨ya, yb, yc, yd⟩ := two_cells p8.h1
          have T0 : Hid (box27 ((w8.setCell ⟨n1 + 1 + 1 + 1, 0, none⟩ (.int .i64 0)).setCell ⟨n1 + 1 + 1 + 1, 1, none⟩ (.int .i64 0)) w.heap.size (0, 0)) := (box_other HP8.out.ne.2.1).trans HP8.out.h0
          have T1 : Hid (((w8.setCell ⟨n1 + 1 + 1 + 1, 0, none⟩ (.int .i64 0)).setCell ⟨n1 + 1 + 1 + 1, 1, none⟩ (.int .i64 0)).heap[n1]? = some (.cells #[.int .i64 (bad.1 : Int), .int .i64 (bad.2 : Int)] 51 (0, 0))) := (box_other HP8.out.ne.2.2.1).trans HP8.out.h1
          have T2 : Hid (((w8.setCell ⟨n1 + 1 + 1 + 1, 0, none⟩ (.int .i64 0)).setCell ⟨n1 + 1 + 1 + 1, 1, none⟩ (.int .i64 0)).heap[n1 + 1 + 1 + 1]? = some (.cells #[.int .i64 0, .int .i64 0] 51 (0, 0))) := box_same HP8.out.h2 ((0, 0) : Nat × Nat)
          have TB : Hid (Below w.heap.size w ((w8.setCell ⟨n1 + 1 + 1 + 1, 0, none⟩ (.int .i64 0)).setCell ⟨n1 + 1 + 1 + 1, 1, none⟩ (.int .i64 0))) := (HP8.out.below.setCell HP8.out.ne.2.2.2.2.2 _).setCell HP8.out.ne.2.2.2.2.2 _
          clear p8
          go_wp2_with fail
          clear fa fb fc fd ya yb yc yd
          obtain ⟨ya, yb, yc, yd⟩ := two_cells T1.out
          obtain ⟨za, zb, zc, zd⟩ := two_cells T2.out
          have HPF : Hid (∀ wx, Calls Tryz.prog 44 #[.agg #[.int .i64 (bad.1 : Int), .int .i64 (bad.2 : Int)], .agg #[.int .i64 0, .int .i64 0]] wx fun e w' => e = .returned (.agg #[.int .i64 ((firstF bad ((0, 0) : Nat × Nat)).1 : Int), .int .i64 ((firstF bad ((0, 0) : Nat × Nat)).2 : Int)]) ∧ Below wx.heap.size wx w') := fun wx => pFirst bad ((0, 0) : Nat × Nat) wx
          go_step3
          refine ⟨_, by rw [HF.out]; rfl, ?_⟩
          clear HF
          go_wp2_with (first | (go_at_call 44; refine (HPF.out _).mono ?_; rintro e w9 ⟨rfl, hb9⟩; refine Hid.out ?_) | fail)
          refine Lib.hid ?_
          have T9 := Lib.hid (T0.out.on hb9)
          have TB9 := Lib.hid (TB.out.trans (hb9.mono TB.out.size))
          obtain ⟨xa, xb, xc, xd⟩ := two_cells T9.out
          clear hb9 ya yb yc yd za zb zc zd
          go_wp2_with fail
          obtain ⟨va, vb, _, _⟩ := two_cells (set_two T9.out (.int .i64 ((firstF bad ((0, 0) : Nat × Nat)).1 : Int)) (.int .i64 ((firstF bad ((0, 0) : Nat × Nat)).2 : Int)))
          exact bodyPost_ret (v := .tuple #[.pointer none, .agg #[.int .i64 ((firstF bad ((0, 0) : Nat × Nat)).1 : Int), .int .i64 ((firstF bad ((0, 0) : Nat × Nat)).2 : Int)]]) (by simp [results, Tryz.results17, go_sem, va, vb]) rfl ⟨(TB9.out.setCell (Nat.le_refl _) _).setCell (Nat.le_refl _) _, by rw [HRF.out]; rfl⟩
end Go.Proofs.YtnehgbpfgehhiaaGreatDoor.Table
