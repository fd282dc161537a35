/-
  LINES, LinesStuffs: the walk.
-/
import Derived.Test.YtgiooblopdoobaaLpShown
namespace Go.Proofs.Ytgiooblopdoobaa.Lines
open Go.RowKit Base
/-- What is sent of bytes: nothing, if they may not be a content. -/
def outOf (l : List UInt8) : List UInt8 := if codeOf l = 0 then stuffOf l else []
def SentEnd (l : List UInt8) (w : World) (e : Ending) (w' : World) : Prop := ∃ u, e = .returned (.tuple #[u, .int .i64 (codeOf l : Int)]) ∧ Owns w' w.heap.size u (outOf l) ∧ Below w.heap.size w w'
theorem StuffEnd.sent {l : List UInt8} {w w' : World} {e : Ending} (h : StuffEnd l w e w') : SentEnd l w e w' := by
  obtain ⟨h1, ⟨h2, h3⟩ | ⟨h2, u, h3, h4⟩⟩ := h
  · exact ⟨_, h3, by unfold outOf; rw [if_neg h2]; exact owns_nil _ _, h1⟩
  · exact ⟨u, by rw [h2]; exact h3, by unfold outOf; rw [if_pos h2]; exact h4, h1⟩
theorem pSent {v : Value} {l : List UInt8} {w : World} (hr : Reads w v l) (hl : l.length ≤ 140737488351232) : Calls Try.prog 16 #[v] w (SentEnd l w) := (pStuff hr hl).mono fun _ _ h => h.sent
theorem rSent {v : Value} {l : List UInt8} {w : World} (hr : Reads w v l) (hl : l.length ≤ 140737488351232) : Calls Try.prog 17 #[v] w (SentEnd l w) := (rStuff hr hl).mono fun _ _ h => h.sent
theorem out_len (l : List UInt8) (hl : l.length ≤ 140737488351232) : (outOf l).length ≤ 190000000000000 := by
  unfold outOf
  split
  · rename_i h
    have := stuff_len h
    unfold stuffOf
    rw [List.length_append]
    simp only [List.length_cons, List.length_nil]
    omega
  · simp
theorem grown_set {g : Nat} {w w1 : World} {row : Option Nat} (h : w.grownBy w1 row) (hr : row = some g) (i : Nat) (u : Value) : w.grownBy (w1.setCell ⟨g, i, none⟩ u) row := by
  have hs := KeepX.set g w1 i u
  exact ⟨hs.os.trans h.os, hs.tape.trans h.tape, hs.output.trans h.output, Nat.le_trans h.size hs.size, fun k hk hne => (hs.block k (Nat.lt_of_lt_of_le hk h.size) (fun e => hne (by rw [hr, e]))).trans (h.block k hk hne)⟩
theorem grown_below {n : Nat} {w w1 : World} {row : Option Nat} (h : w.grownBy w1 row) (hr : ∀ b, row = some b → n ≤ b) (hn : n ≤ w.heap.size) : Below n w w1 :=
  ⟨h.os, h.tape, h.output, h.size, fun k hk => h.block k (by omega) (fun e => by have := hr k e.symm; omega)⟩
set_option maxHeartbeats 16000000 in
set_option maxRecDepth 100000 in
theorem stuffsWalk (v : Value) (l : List UInt8) (v2 : Value) (l2 : List UInt8) (w : World) (hr : Reads w v l) (hl : l.length ≤ 140737488351232) (hr2 : Reads w v2 l2) (hl2 : l2.length ≤ 140737488351232) :
    Calls Try.prog 5 #[v, v2] w fun e w' => e = .returned (.bool true) ∧ Below w.heap.size w w' := by
  have HSH := Lib.hid (pShown w)
  have HR := Lib.hid hr
  have HR2 := Lib.hid hr2
  obtain ⟨A1, q1, rfl⟩ := hr.form
  obtain ⟨A2, q2, rfl⟩ := hr2.form
  obtain ⟨n, hn⟩ : ∃ n, n = l.length := ⟨_, rfl⟩
  obtain ⟨n2, hn2⟩ : ∃ n2, n2 = l2.length := ⟨_, rfl⟩
  rw [← hn] at HR hl ⊢
  rw [← hn2] at HR2 hl2 ⊢
  have HN := Lib.hid hn
  have HN2 := Lib.hid hn2
  have HL := Lib.hid hl
  have HL2 := Lib.hid hl2
  obtain ⟨code, hcode⟩ : ∃ code, code = codeOf l := ⟨_, rfl⟩
  obtain ⟨T, hT⟩ : ∃ T, T = outOf l := ⟨_, rfl⟩
  obtain ⟨D, hD⟩ : ∃ D, D = dotOf l2 := ⟨_, rfl⟩
  have HTL : Hid (T.length ≤ 190000000000000) := by rw [hT]; exact out_len l (by omega)
  have HPS : Hid (∀ w1 u, Reads w1 u l → Calls Try.prog 16 #[u] w1 (fun e w' => ∃ u, e = .returned (.tuple #[u, .int .i64 (code : Int)]) ∧ Owns w' w1.heap.size u T ∧ Below w1.heap.size w1 w')) := fun w1 u h => by
    have := pSent h (by omega)
    rw [hcode, hT]
    exact this
  have HRS : Hid (∀ w1 u, Reads w1 u l → Calls Try.prog 17 #[u] w1 (fun e w' => ∃ u, e = .returned (.tuple #[u, .int .i64 (code : Int)]) ∧ Owns w' w1.heap.size u T ∧ Below w1.heap.size w1 w')) := fun w1 u h => by
    have := rSent h (by omega)
    rw [hcode, hT]
    exact this
  have HPC : Hid (∀ w1 u, Reads w1 u l → Calls Try.prog 18 #[u] w1 fun e w' => e = .returned (.int .i64 (code : Int)) ∧ Below w1.heap.size w1 w') := fun w1 u h => by
    rw [hcode]; exact pContent h (by omega)
  have HRC : Hid (∀ w1 u, Reads w1 u l → Calls Try.prog 21 #[u] w1 fun e w' => e = .returned (.int .i64 (code : Int)) ∧ w1 = w') := fun w1 u h => by
    rw [hcode]; exact rContent h (by omega)
  have HPD : Hid (∀ w1, Reads w1 (.slice A2 n2 q2) l2 → Calls Try.prog 19 #[.slice A2 n2 q2] w1 (DotEnd D w1)) := fun w1 h => by rw [hD]; exact pDotted h (by omega)
  have HRD : Hid (∀ w1, Reads w1 (.slice A2 n2 q2) l2 → Calls Try.prog 20 #[.slice A2 n2 q2] w1 (DotEnd D w1)) := fun w1 h => by rw [hD]; exact rDotted h (by omega)
  clear hr hr2 hn hn2 hl hl2 hcode hT hD
  go_enter Try.func5, Try.ntmps5
  go_wp2_with (first | (go_at_call 7; refine HSH.out.mono ?_; rintro e w1 ⟨rfl, hb1⟩; refine Hid.out ?_) | fail)
  refine Lib.hid ?_
  have HB1 := Lib.hid hb1
  have HRA := Lib.hid (HR.out.on hb1)
  clear hb1 HSH
  go_wp2_with (at_builtin; go_must (refine wp_append_reads _ rfl _ _ rfl w1.heap.size (.slice (some ⟨w1.heap.size, 0, none⟩) 0 0) (.slice A1 n q1) [] l rfl rfl (owns_new w1) (HRA.out.on (Below.alloc1 w1 _)) (by have := HL.out; have := HN.out; simp; omega) (Below.alloc1 w1 _).size ?_); intro u1 w2 own2 b2; refine Hid.out ?_)
  refine Lib.hid ?_
  have HO2 : Hid (Owns w2 w1.heap.size u1 l) := by show Owns _ _ _ _; simpa using own2
  have HB2 : Hid (Below w1.heap.size w1 w2) := (Below.alloc1 w1 _).trans b2
  clear own2 b2 HRA
  go_wp2_with (at_builtin; go_must (refine wp_append_reads _ rfl _ _ rfl w1.heap.size u1 _ l [177] rfl rfl (HO2.out.on (Below.alloc1 w2 _)) (reads_one w2 5 177 177 rfl) (by have := HL.out; have := HN.out; simp; omega) (Nat.le_trans HB2.out.size (Below.alloc1 w2 _).size) ?_); intro u2 w3 own3 b3; refine Hid.out ?_)
  refine Lib.hid ?_
  have HB3 : Hid (Below w1.heap.size w1 w3) := HB2.out.trans (((Below.alloc1 w2 _).mono HB2.out.size).trans b3)
  have HO3 := Lib.hid own3
  obtain ⟨gO, cO, hf3, hc3, _⟩ := own3.form2 (by simp)
  rw [List.length_append, List.length_singleton, ← HN.out] at hf3 hc3
  subst hf3
  have hgO := (own3.ge gO rfl).1
  have HGO := Lib.hid hgO
  have e1 : n ≤ cO := by omega
  have HX3 := Lib.hid (HPS.out w3 (.slice (some ⟨gO, 0, none⟩) n cO) (by
    have := own3.cut n (by rw [HN.out]; simp)
    rw [HN.out, List.take_left] at this
    rw [HN.out]; exact this))
  clear own3 b3 hc3 hgO HO2 HB2
  go_wp2_with (first | (go_at_call 16; refine HX3.out.mono ?_; rintro e w4 ⟨a, rfl, ho4, hb4⟩; refine Hid.out ?_) | fail)
  refine Lib.hid ?_
  have HO4 := Lib.hid ho4
  have HB4 := Lib.hid hb4
  have HW4 : Hid (Below w.heap.size w w4) := HB1.out.trans ((HB3.out.trans (hb4.mono HB3.out.size)).mono HB1.out.size)
  have HX4 := Lib.hid (HRS.out w4 (.slice A1 n q1) (HR.out.on HW4.out))
  clear ho4 hb4 HX3
  go_wp2_with (first | (go_at_call 17; refine HX4.out.mono ?_; rintro e w5 ⟨b, rfl, ho5, hb5⟩; refine Hid.out ?_) | fail)
  refine Lib.hid ?_
  have hoa := HO4.out.on hb5
  have hcva := conv_reads hoa.reads
  have hcvb := conv_reads ho5.reads
  have HOA := Lib.hid hoa
  have HW5 : Hid (Below w3.heap.size w3 w5) := HB4.out.trans (hb5.mono HB4.out.size)
  have HOO := Lib.hid (HO3.out.on HW5.out)
  have HB5 : Hid (Below w.heap.size w w5) := HW4.out.trans (hb5.mono HW4.out.size)
  have HZ : Hid (gO < w3.heap.size) := (HO3.out.ge gO rfl).2
  clear hoa ho5 hb5 HX4 HO4 HB4 HW4
  obtain ⟨aA, aq, haf⟩ := HOA.out.reads.form
  obtain ⟨m, hm⟩ : ∃ m, m = T.length := ⟨_, rfl⟩
  rw [← hm] at haf
  subst haf
  have HM := Lib.hid hm
  have hmb : m ≤ 190000000000000 := by have := HTL.out; omega
  clear hm
  go_wp2
  go_loopw [12] (fun iv wr => ∃ (k : Nat) (t : List UInt8), k ≤ m ∧ iv = .int .i64 (k : Int) ∧ Hid (t.length = m) ∧ Hid (Owns wr w3.heap.size (.slice aA m aq) t) ∧ Hid (w5.grownBy wr (Value.slice aA m aq).ownBlock)) (fun iv _ => m - (intOf iv).toNat)
  case atStart => exact ⟨0, T, by omega, rfl, HM.out.symm, HOA.out, ⟨rfl, rfl, rfl, Nat.le_refl _, fun _ _ _ => rfl⟩⟩
  case round =>
    clear hcva hcvb
    obtain ⟨k, t, hk, rfl, ht, hot, hgr⟩ := hrel
    by_cases hlt : k < m
    · obtain ⟨ga, ca, hfa, hca, _⟩ := hot.out.form2 (by rw [ht.out]; omega)
      rw [ht.out] at hfa
      cases hfa
      have i0 : (0 : Int) ≤ (k : Int) := by omega
      have i1 : (k : Int) < (m : Int) := by omega
      have hO : Owns wr w3.heap.size (.slice (some ⟨ga, 0, none⟩) t.length aq) t := by rw [ht.out]; exact hot.out
      have hcell := hO.cell k (by rw [ht.out]; omega)
      have hfree := hO.free k
      have HN1 : Hid (Owns (wr.setCell ⟨ga, k, none⟩ (.int .u8 77)) w3.heap.size (.slice (some ⟨ga, 0, none⟩) m aq) (t.set k 77)) := by
        have := hO.stored k 77 (by rw [ht.out]; omega)
        rw [ht.out] at this
        exact this
      have HG1 : Hid (w5.grownBy (wr.setCell ⟨ga, k, none⟩ (.int .u8 77)) (Value.slice (some ⟨ga, 0, none⟩) m aq).ownBlock) := grown_set hgr.out rfl k _
      have HTL2 : Hid ((t.set k 77).length = m) := by show _ = _; rw [List.length_set]; exact ht.out
      clear hot hgr hO ht
      go_wp2
      go_roundw
      case rel => exact ⟨k + 1, _, by omega, by go_num, HTL2, HN1, HG1⟩
      case measure => simp [intOf]; omega
    · have i1 : ¬ (k : Int) < (m : Int) := by omega
      have hbr : Below w3.heap.size w5 wr := grown_below hgr.out (fun b hb => (HOA.out.ge b hb).1) HW5.out.size
      have HB6 : Hid (Below w.heap.size w wr) := HB5.out.trans (hbr.mono (Nat.le_trans HB1.out.size HB3.out.size))
      have HOW : Hid (Owns wr w1.heap.size (.slice (some ⟨gO, 0, none⟩) (n + 1) cO) (l ++ [177])) := HOO.out.keptB fun j hj _ => hbr.block j (by cases hj; exact HZ.out)
      have hcut : Reads wr (.slice (some ⟨gO, 0, none⟩) n cO) l := by
        have := HOW.out.cut n (by rw [HN.out]; simp)
        rw [HN.out, List.take_left] at this
        rw [HN.out]; exact this
      have HX6 := Lib.hid (HPC.out wr (.slice (some ⟨gO, 0, none⟩) n cO) hcut)
      clear hcut hbr hot hgr ht HOA HOO HM
      go_wp2_with (first | (go_at_call 18; refine HX6.out.mono ?_; rintro e w7 ⟨rfl, hb7⟩; refine Hid.out ?_) | fail)
      refine Lib.hid ?_
      have HB7 : Hid (Below w.heap.size w w7) := HB6.out.trans (hb7.mono HB6.out.size)
      have HO7 := Lib.hid (HOW.out.on hb7)
      have HX7 := Lib.hid (HPD.out w7 (HR2.out.on HB7.out))
      clear hb7 HX6 HOW HB6
      go_wp2_with (first | (go_at_call 19; refine HX7.out.mono ?_; rintro e w8 ⟨cc, rfl, ho8, hb8⟩; refine Hid.out ?_) | fail)
      refine Lib.hid ?_
      have HB8 : Hid (Below w.heap.size w w8) := HB7.out.trans (hb8.mono HB7.out.size)
      have HO8 := Lib.hid (HO7.out.on hb8)
      have HC8 := Lib.hid ho8.reads
      have HX8 := Lib.hid (HRD.out w8 (HR2.out.on HB8.out))
      clear hb8 ho8 HX7 HO7 HB7
      go_wp2_with (first | (go_at_call 20; refine HX8.out.mono ?_; rintro e w9 ⟨dd, rfl, ho9, hb9⟩; refine Hid.out ?_) | fail)
      refine Lib.hid ?_
      have HB9 : Hid (Below w.heap.size w w9) := HB8.out.trans (hb9.mono HB8.out.size)
      have ho10 := HO8.out.on hb9
      have hcut : Reads w9 (.slice (some ⟨gO, 0, none⟩) n cO) l := by
        have := ho10.cut n (by rw [HN.out]; simp)
        rw [HN.out, List.take_left] at this
        rw [HN.out]; exact this
      have hdw : ∀ {u : Value} {x : List UInt8}, Reads w9 u x → ∀ k, Reads (w9.drewN k) u x := fun h k => h
      have hq1 : ∀ k, (convert 32 9 cc).run Try.prog (w9.drewN k) = .ok (.string ⟨D.1.toArray⟩) (w9.drewN k) := fun k => conv_reads (hdw (HC8.out.on hb9) k)
      have hq2 : ∀ k, (convert 32 9 dd).run Try.prog (w9.drewN k) = .ok (.string ⟨D.1.toArray⟩) (w9.drewN k) := fun k => conv_reads (hdw ho9.reads k)
      have hq3 : ∀ k, (convert 32 9 (.slice (some ⟨gO, 0, none⟩) n cO)).run Try.prog (w9.drewN k) = .ok (.string ⟨l.toArray⟩) (w9.drewN k) := fun k => conv_reads (hdw hcut k)
      have hq4 : ∀ k, (convert 32 9 (.slice A1 n q1)).run Try.prog (w9.drewN k) = .ok (.string ⟨l.toArray⟩) (w9.drewN k) := fun k => conv_reads (hdw (HR.out.on HB9.out) k)
      have hcl : ∀ k, (w9.drewN k).cell? ⟨gO, n, none⟩ = some (.int .u8 177) := fun k => by
        have hO : Owns w9 w1.heap.size (.slice (some ⟨gO, 0, none⟩) (l ++ [177]).length cO) (l ++ [177]) := by
          rw [List.length_append, ← HN.out]; exact ho10
        have := hO.cell n (by rw [List.length_append, ← HN.out]; simp)
        have e : (l ++ [177]).getD n 0 = 177 := by rw [HN.out]; simp [List.getD]
        rw [e] at this
        exact this
      have HCT : Hid (∀ k, Calls Try.prog 21 #[.slice A1 n q1] (w9.drewN k) fun e w' => e = .returned (.int .i64 (code : Int)) ∧ w9.drewN k = w') := fun k => HRC.out _ _ (hdw (HR.out.on HB9.out) k)
      have hcl0 := hcl 0
      have g0 : (0 : Int) ≤ (n : Int) := by omega
      have g1 : (n : Int) < (n : Int) + 1 := by omega
      have HBF : Hid (∀ k, Below w.heap.size w (w9.drewN k)) := fun k => ⟨HB9.out.os, HB9.out.tape, HB9.out.output, HB9.out.size, HB9.out.block⟩
      clear hb9 ho9 ho10 hcut hdw HX8 HC8 HO8 HB8
      go_wp2_with fail
      go_quiet (first | (go_at_call 21; refine (HCT.out _).mono ?_; rintro e w' ⟨rfl, rfl⟩; exact ⟨rfl, _, rfl⟩) | fail)
      go_wp2
      go_ret
      exact ⟨rfl, HBF.out _⟩
end Go.Proofs.Ytgiooblopdoobaa.Lines
