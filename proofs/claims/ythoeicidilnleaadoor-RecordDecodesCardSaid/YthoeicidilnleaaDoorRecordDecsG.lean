/-
  RECORD: the document's reading is the program's, plainly.
-/
import Derived.Test.YthoeicidilnleaaDoorRecordDecsF
namespace Go.Proofs.YthoeicidilnleaaDoor.Codec

theorem st2_no {l : List UInt8} (h : (dF l).1 ≠ 0) : (r2 l).2.2 = (dF l).1 := by
  have e : dF l = if (fixedF [87, 49, 59] l).1 = 0 then fixedF [116] (fixedF [87, 49, 59] l).2 else fixedF [87, 49, 59] l := fixed_two [87, 49, 59] [116] l
  have e1 : r1 l = ((fixedF [87, 49, 59] l).2, (fixedF [87, 49, 59] l).1) := sFixed_0 _ _
  by_cases h1 : (fixedF [87, 49, 59] l).1 = 0
  · rw [if_pos h1] at e
    rw [h1] at e1
    rw [e] at h ⊢
    unfold r2; rw [e1]; exact sNum_no h
  · rw [if_neg h1] at e
    unfold r2; rw [e, sNum_st (by rw [e1]; exact h1), e1]
theorem st2_0 {l : List UInt8} (h : (dF l).1 = 0) : r2 l = ((takeNumber (dF l).2).1, (dN l).2.2, (dN l).2.1) := by
  have e : dF l = if (fixedF [87, 49, 59] l).1 = 0 then fixedF [116] (fixedF [87, 49, 59] l).2 else fixedF [87, 49, 59] l := fixed_two [87, 49, 59] [116] l
  have e1 : r1 l = ((fixedF [87, 49, 59] l).2, (fixedF [87, 49, 59] l).1) := sFixed_0 _ _
  by_cases h1 : (fixedF [87, 49, 59] l).1 = 0
  · rw [if_pos h1] at e
    rw [h1] at e1
    unfold r2 dN; rw [e1, e]; rw [e] at h; exact sNum_0 h
  · rw [if_neg h1] at e; rw [e] at h; exact absurd h h1
theorem st2_ok {l : List UInt8} (h : (dF l).1 = 0) (h2 : (dN l).2.1 = 0) : r2 l = ((dN l).1, (dN l).2.2, 0) := by
  rw [st2_0 h, h2, show (takeNumber (dF l).2).1 = (dN l).1 from num_ok h2]
theorem st3_no {l : List UInt8} (h : (dF l).1 = 0) (h2 : (dN l).2.1 = 0) (h3 : (dS l).2.1 ≠ 0) : (r12 l).2 = (dS l).2.1 := by
  have e2 := st2_ok h h2
  have e3 : r3 l = sTxt [102] ((dN l).2.2, 0) := by unfold r3; rw [e2]
  have es : dS l = fromF (dN l).2.2 := rfl
  rw [es] at h3 ⊢
  unfold fromF at h3 ⊢
  by_cases f1 : (fixedF [102] (dN l).2.2).1 = 0
  · rw [if_neg (by simp [f1])] at h3 ⊢
    rw [sTxt_0 f1] at e3
    by_cases f2 : (textF (fixedF [102] (dN l).2.2).2).2.1 = 0
    · rw [if_neg (by simp [f2])] at h3 ⊢
      by_cases f3 : fromB (textF (fixedF [102] (dN l).2.2).2).1 = true
      · rw [if_pos f3] at h3; exact absurd f2 h3
      · rw [if_neg f3]
        have e4 : (r4 l).2 = 30 := by
          unfold r4; rw [e3, f2, (text_ok f2).1]; unfold sAsk sFail; rw [if_neg f3, if_pos rfl]
        rw [fin4 (by rw [e4]; decide), e4]
    · rw [if_pos f2]
      have e4 : (r3 l).2.2 = (textF (fixedF [102] (dN l).2.2).2).2.1 := by rw [e3]
      rw [fin3 (by rw [e4]; exact f2), e4]
  · rw [if_pos f1]
    have e4 : (r3 l).2.2 = (fixedF [102] (dN l).2.2).1 := by rw [e3]; exact sTxt_no f1
    rw [fin3 (by rw [e4]; exact f1), e4]
theorem st3_ok {l : List UInt8} (h : (dF l).1 = 0) (h2 : (dN l).2.1 = 0) (h3 : (dS l).2.1 = 0) : (r3 l).1 = (dS l).1 ∧ r4 l = ((dS l).2.2, 0) ∧ fromB (dS l).1 = true ∧ 102 :: textBytes (dS l).1 ++ (dS l).2.2 = (dN l).2.2 ∧ (dS l).1.length ≤ 1048576 := by
  have e2 := st2_ok h h2
  have e3 : r3 l = sTxt [102] ((dN l).2.2, 0) := by unfold r3; rw [e2]
  have es : dS l = fromF (dN l).2.2 := rfl
  rw [es] at h3 ⊢
  unfold fromF at h3 ⊢
  by_cases f1 : (fixedF [102] (dN l).2.2).1 = 0
  · rw [if_neg (by simp [f1])] at h3 ⊢
    rw [sTxt_0 f1] at e3
    by_cases f2 : (textF (fixedF [102] (dN l).2.2).2).2.1 = 0
    · rw [if_neg (by simp [f2])] at h3 ⊢
      by_cases f3 : fromB (textF (fixedF [102] (dN l).2.2).2).1 = true
      · rw [if_pos f3]
        have c1 := fixedF_canon [102] _ f1
        have c2 := textF_canon f2
        refine ⟨by rw [e3]; exact (text_ok f2).1, ?_, f3, ?_, c2.1⟩
        · unfold r4; rw [e3, f2, (text_ok f2).1]; unfold sAsk; rw [if_pos f3]
        · rw [List.cons_append, ← c2.2]; exact c1.symm
      · rw [if_neg f3] at h3; exact absurd h3 (by simp)
    · rw [if_pos f2] at h3; exact absurd h3 f2
  · rw [if_pos f1] at h3; exact absurd h3 f1
theorem st7_no {l : List UInt8} (h : (dF l).1 = 0) (h2 : (dN l).2.1 = 0) (h3 : (dS l).2.1 = 0) (h4 : (dR l).2.1 ≠ 0) : (r12 l).2 = (dR l).2.1 := by
  obtain ⟨_, e4, _⟩ := st3_ok h h2 h3
  have e5 : r5 l = sNum [110] ((dS l).2.2, 0) := by unfold r5; rw [e4]
  have er : dR l = rcptsF l.length (dS l).2.2 := rfl
  rw [er] at h4 ⊢
  by_cases f1 : (fixedF [110] (dS l).2.2).1 = 0
  · rw [sNum_0 f1] at e5
    by_cases f2 : (numF (fixedF [110] (dS l).2.2).2).2.1 = 0
    · rw [f2, num_ok f2] at e5
      by_cases f3 : 1 ≤ (numF (fixedF [110] (dS l).2.2).2).1 ∧ (numF (fixedF [110] (dS l).2.2).2).1 ≤ 200
      · rw [rcptsF_4 f1 f2 f3] at h4 ⊢
        have e6 : r6 l = ((numF (fixedF [110] (dS l).2.2).2).2.2, 0) := by
          unfold r6; rw [e5]; unfold sAsk; rw [if_pos (by simpa using f3)]
        obtain ⟨a1, _⟩ := sRcs_0 l.length (numF (fixedF [110] (dS l).2.2).2).1.toNat (numF (fixedF [110] (dS l).2.2).2).2.2 [] []
        have e7 : (r7 l).2.2 = (rcsF l.length (numF (fixedF [110] (dS l).2.2).2).1.toNat (numF (fixedF [110] (dS l).2.2).2).2.2 [] []).2.1 := by
          unfold r7; rw [e6, e5]; exact a1
        rw [fin7 (by rw [e7]; exact h4), e7]
      · rw [rcptsF_3 f1 f2 f3]
        have e6 : (r6 l).2 = 30 := by
          unfold r6; rw [e5]; unfold sAsk sFail; rw [if_neg (by simpa using f3), if_pos rfl]
        rw [fin6 (by rw [e6]; decide), e6]
    · rw [rcptsF_2 f1 f2]
      have e6 : (r5 l).2.2 = (numF (fixedF [110] (dS l).2.2).2).2.1 := by rw [e5]
      rw [fin5 (by rw [e6]; exact f2), e6]
  · rw [rcptsF_1 f1]
    have e6 : (r5 l).2.2 = (fixedF [110] (dS l).2.2).1 := by rw [e5]; exact sNum_no f1
    rw [fin5 (by rw [e6]; exact f1), e6]
theorem st7_ok {l : List UInt8} (h : (dF l).1 = 0) (h2 : (dN l).2.1 = 0) (h3 : (dS l).2.1 = 0) (h4 : (dR l).2.1 = 0) : r7 l = ((dR l).1, (dR l).2.2.1, 0) ∧ 1 ≤ (dR l).1.length ∧ (dR l).1.length ≤ 200 ∧ (∀ x ∈ (dR l).1, rcB x = true) ∧ 110 :: numBytes (dR l).1.length ++ rcsBytes false (dR l).1 ++ (dR l).2.2.1 = (dS l).2.2 := by
  obtain ⟨_, e4, _⟩ := st3_ok h h2 h3
  have e5 : r5 l = sNum [110] ((dS l).2.2, 0) := by unfold r5; rw [e4]
  have er : dR l = rcptsF l.length (dS l).2.2 := rfl
  rw [er] at h4 ⊢
  by_cases f1 : (fixedF [110] (dS l).2.2).1 = 0
  · rw [sNum_0 f1] at e5
    by_cases f2 : (numF (fixedF [110] (dS l).2.2).2).2.1 = 0
    · rw [f2, num_ok f2] at e5
      by_cases f3 : 1 ≤ (numF (fixedF [110] (dS l).2.2).2).1 ∧ (numF (fixedF [110] (dS l).2.2).2).1 ≤ 200
      · rw [rcptsF_4 f1 f2 f3] at h4 ⊢
        have e6 : r6 l = ((numF (fixedF [110] (dS l).2.2).2).2.2, 0) := by
          unfold r6; rw [e5]; unfold sAsk; rw [if_pos (by simpa using f3)]
        obtain ⟨_, a2⟩ := sRcs_0 l.length (numF (fixedF [110] (dS l).2.2).2).1.toNat (numF (fixedF [110] (dS l).2.2).2).2.2 [] []
        obtain ⟨rs, b1, b2, b3, b4⟩ := rcsF_canon l.length _ _ _ _ h4
        obtain ⟨n, c1, c2, c3⟩ := numF_canon f2
        have c4 := fixedF_canon [110] _ f1
        rw [List.nil_append] at b1
        refine ⟨by unfold r7; rw [e6, e5]; exact a2 h4, by rw [b1, b2]; omega, by rw [b1, b2]; omega, by rw [b1]; exact b3, ?_⟩
        rw [b1, b2, c1, Int.toNat_natCast]
        rw [c1, Int.toNat_natCast] at b4
        rw [show 110 :: numBytes n ++ rcsBytes false rs = [110] ++ (numBytes n ++ rcsBytes false rs) by rfl, List.append_assoc, List.append_assoc, ← b4, ← c3]
        exact c4.symm
      · rw [rcptsF_3 f1 f2 f3] at h4; exact absurd h4 (by simp)
    · rw [rcptsF_2 f1 f2] at h4; exact absurd h4 f2
  · rw [rcptsF_1 f1] at h4; exact absurd h4 f1
/-- All is read up to the data's end. -/
structure AllRead (l : List UInt8) : Prop where
  f : (dF l).1 = 0
  n : (dN l).2.1 = 0
  s : (dS l).2.1 = 0
  r : (dR l).2.1 = 0
  d : (dD l).1 = 0
  t : (dT l).2.1 = 0
def dM (l : List UInt8) : Msg := ⟨(dN l).1, ⟨(dS l).1.toArray⟩, (dR l).1, (dT l).1⟩
theorem st8_no1 {l : List UInt8} (h : (dF l).1 = 0) (h2 : (dN l).2.1 = 0) (h3 : (dS l).2.1 = 0) (h4 : (dR l).2.1 = 0) (h5 : (dD l).1 ≠ 0) : (r12 l).2 = (dD l).1 := by
  obtain ⟨e7, _⟩ := st7_ok h h2 h3 h4
  have e8 : (r8 l).2.2 = (dD l).1 := by unfold r8; rw [e7]; exact sTxt_no h5
  rw [fin8 (by rw [e8]; exact h5), e8]
theorem st8_0 {l : List UInt8} (h : (dF l).1 = 0) (h2 : (dN l).2.1 = 0) (h3 : (dS l).2.1 = 0) (h4 : (dR l).2.1 = 0) (h5 : (dD l).1 = 0) : r8 l = ((takeText (dD l).2).1, (dT l).2.2, (dT l).2.1) := by
  obtain ⟨e7, _⟩ := st7_ok h h2 h3 h4
  unfold r8; rw [e7]; exact sTxt_0 h5
theorem st8_no2 {l : List UInt8} (h : (dF l).1 = 0) (h2 : (dN l).2.1 = 0) (h3 : (dS l).2.1 = 0) (h4 : (dR l).2.1 = 0) (h5 : (dD l).1 = 0) (h6 : (dT l).2.1 ≠ 0) : (r12 l).2 = (dT l).2.1 := by
  have e8 : (r8 l).2.2 = (dT l).2.1 := by rw [st8_0 h h2 h3 h4 h5]
  rw [fin8 (by rw [e8]; exact h6), e8]
theorem AllRead.r8 {l : List UInt8} (h : AllRead l) : Codec.r8 l = ((dT l).1, (dT l).2.2, 0) := by
  rw [st8_0 h.f h.n h.s h.r h.d, h.t, show (takeText (dD l).2).1 = (dT l).1 from (text_ok h.t).1]
theorem AllRead.rM {l : List UInt8} (h : AllRead l) : Codec.rM l = dM l := by
  unfold Codec.rM dM
  rw [h.r8, (st7_ok h.f h.n h.s h.r).1, (st3_ok h.f h.n h.s).1, st2_ok h.f h.n]
theorem AllRead.good {l : List UInt8} (h : AllRead l) : Valid (dM l) ∧ formB (dM l) = true ∧ l = headOf (dM l) ++ rcsBytes false (dM l).rcpts ++ (100 :: textBytes (dM l).data ++ (dT l).2.2) := by
  obtain ⟨n, a1, a2, a3⟩ := numF_canon (r := (dF l).2) h.n
  obtain ⟨_, _, b1, b2, b3⟩ := st3_ok h.f h.n h.s
  obtain ⟨_, c1, c2, c3, c4⟩ := st7_ok h.f h.n h.s h.r
  have d1 := fixedF_canon [100] _ h.d
  have d2 := textF_canon (r := (dD l).2) h.t
  have e1 : l = [87, 49, 59, 116] ++ (dF l).2 := fixedF_canon [87, 49, 59, 116] l h.f
  have a3 : (dF l).2 = numBytes n ++ (dN l).2.2 := a3
  have hsz : (⟨(dS l).1.toArray⟩ : ByteArray).size = (dS l).1.length := List.size_toArray
  have hN : (dN l).1 = (n : Int) := a1
  have hrc : ∀ r ∈ (dR l).1, r.1.size ≤ 320 := fun r hr => by
    have := c3 r hr
    unfold rcB at this
    rw [Bool.and_eq_true] at this
    have := (addr_len this.1).2
    rwa [show r.1.data.toList.length = r.1.size from Array.length_toList] at this
  refine ⟨⟨by show 0 ≤ (dN l).1; omega, by show (dN l).1 ≤ _; omega, ?_, c1, c2, hrc, d2.1⟩, ?_, ?_⟩
  · show (⟨(dS l).1.toArray⟩ : ByteArray).size ≤ 320
    rw [hsz]; exact from_len b1
  · unfold formB dM
    dsimp only
    rw [b1]
    simp only [Bool.and_eq_true, List.all_eq_true, decide_eq_true_eq]
    exact ⟨⟨⟨⟨by omega, by omega⟩, trivial⟩, ⟨c1, c2⟩⟩, c3⟩
  · unfold headOf dM
    dsimp only
    rw [hN, Int.toNat_natCast]
    have d3 : (dR l).2.2.1 = 100 :: textBytes (dT l).1 ++ (dT l).2.2 := by
      rw [d1, List.cons_append, List.cons_append]
      exact congrArg _ d2.2
    rw [← d3]
    have e2 : [87, 49, 59, 116] ++ (dF l).2 = [87, 49, 59, 116] ++ (numBytes n ++ (102 :: textBytes (dS l).1 ++ (110 :: numBytes (dR l).1.length ++ rcsBytes false (dR l).1 ++ (dR l).2.2.1))) := by rw [c4, b2, a3]
    refine e1.trans (e2.trans ?_)
    simp
theorem AllRead.end {l : List UInt8} (h : AllRead l) : refDec l = (if dE l ≠ 0 then (msg0, dE l) else (dM l, 0)) := by
  obtain ⟨v, f, e⟩ := h.good
  obtain ⟨_, _, _, _, _, _, _, _, _, _, a11, _, a13⟩ := read_back v f (dM l).data (dT l).2.2 l v.2.2.2.2.2.2 e
  have e8 := h.r8
  rw [a11]
  have e9 : Codec.r9 l = ((fixedF [101] (dT l).2.2).2, (fixedF [101] (dT l).2.2).1) := by unfold Codec.r9; rw [e8]; exact sFixed_0 _ _
  have hsum : crc (bodyOf true (Codec.rM l)) = crc (setAll (l.take (l.length - (dT l).2.2.length)) (markPos l.length (dM l).rcpts (100 :: textBytes (dM l).data ++ (dT l).2.2))) := by
    rw [a13, h.rM]; rfl
  generalize hmk : markPos l.length (dM l).rcpts (100 :: textBytes (dM l).data ++ (dT l).2.2) = MK at *
  by_cases g1 : (fixedF [101] (dT l).2.2).1 = 0
  · rw [g1] at e9
    by_cases g2 : (takeHex (fixedF [101] (dT l).2.2).2).2 = 0
    · have e10 : Codec.r10 l = ((fixedF [101] (dT l).2.2).2.drop 8, 0) := by
        unfold Codec.r10; rw [e9]; dsimp only; unfold sTook; rw [if_pos rfl, if_pos g2]; rfl
      have e11 : Codec.r11 l = ((fixedF [10] ((fixedF [101] (dT l).2.2).2.drop 8)).2, (fixedF [10] ((fixedF [101] (dT l).2.2).2.drop 8)).1) := by unfold Codec.r11; rw [e10]; exact sFixed_0 _ _
      by_cases g3 : (fixedF [10] ((fixedF [101] (dT l).2.2).2.drop 8)).1 = 0
      · rw [g3] at e11
        by_cases g4 : (fixedF [10] ((fixedF [101] (dT l).2.2).2.drop 8)).2 = []
        · have e12 : (r12 l).2 = 0 := by unfold r12; rw [e11, g4]; rfl
          by_cases g5 : (takeHex (fixedF [101] (dT l).2.2).2).1 = crc (setAll (l.take (l.length - (dT l).2.2.length)) MK)
          · have hE : endF l (dT l).2.2 MK = 0 := by
              unfold endF; rw [if_neg (by simp [g1]), if_neg (by simp [g2]), if_neg (by simp [g3]), if_neg (by simp [g4]), if_neg (by simp [g5])]
            rw [hE, if_neg (by simp)]
            unfold refDec
            rw [if_neg (by simp [e12]), e9, hsum, if_neg (by simp [g5]), h.rM]
          · have hE : endF l (dT l).2.2 MK = 33 := by
              unfold endF; rw [if_neg (by simp [g1]), if_neg (by simp [g2]), if_neg (by simp [g3]), if_neg (by simp [g4]), if_pos g5]
            rw [hE, if_pos (by decide)]
            unfold refDec
            rw [if_neg (by simp [e12]), e9, hsum, if_pos g5]
        · have hE : endF l (dT l).2.2 MK = 30 := by
            unfold endF; rw [if_neg (by simp [g1]), if_neg (by simp [g2]), if_neg (by simp [g3]), if_pos g4]
          rw [hE, if_pos (by decide)]
          have e12 : (r12 l).2 = 30 := by
            unfold r12; rw [e11]; unfold sAsk sFail; rw [if_neg (by simpa using g4), if_pos rfl]
          exact ref_bad e12 (by decide)
      · have hE : endF l (dT l).2.2 MK = (fixedF [10] ((fixedF [101] (dT l).2.2).2.drop 8)).1 := by
          unfold endF; rw [if_neg (by simp [g1]), if_neg (by simp [g2]), if_pos g3]
        rw [hE, if_pos g3]
        exact ref_bad (by rw [fin11 (by rw [e11]; exact g3), e11]) g3
    · have hE : endF l (dT l).2.2 MK = toldOf (takeHex (fixedF [101] (dT l).2.2).2).2 := by
        unfold endF; rw [if_neg (by simp [g1]), if_pos g2]
      have ht : toldOf (takeHex (fixedF [101] (dT l).2.2).2).2 ≠ 0 := by
        unfold toldOf; rw [if_neg g2]; split <;> decide
      rw [hE, if_pos ht]
      have e10 : (Codec.r10 l).2 = toldOf (takeHex (fixedF [101] (dT l).2.2).2).2 := by
        unfold Codec.r10; rw [e9]; dsimp only; unfold sTook; rw [if_pos rfl, if_neg g2]
      exact ref_bad (by rw [fin10 (by rw [e10]; exact ht), e10]) ht
  · have hE : endF l (dT l).2.2 MK = (fixedF [101] (dT l).2.2).1 := by
      unfold endF; rw [if_pos g1]
    rw [hE, if_pos g1]
    exact ref_bad (by rw [fin9 (by rw [e9]; exact g1), e9]) g1
/-- The document's reading is the program's. -/
theorem refDec_eq (l : List UInt8) : refDec l = decodeF l := by
  unfold decodeF
  by_cases h1 : (dF l).1 = 0
  · rw [if_neg (by simp [h1])]
    by_cases h2 : (dN l).2.1 = 0
    · rw [if_neg (by simp [h2])]
      by_cases h3 : (dS l).2.1 = 0
      · rw [if_neg (by simp [h3])]
        by_cases h4 : (dR l).2.1 = 0
        · rw [if_neg (by simp [h4])]
          by_cases h5 : (dD l).1 = 0
          · rw [if_neg (by simp [h5])]
            by_cases h6 : (dT l).2.1 = 0
            · rw [if_neg (by simp [h6])]
              exact AllRead.end ⟨h1, h2, h3, h4, h5, h6⟩
            · rw [if_pos h6]; exact ref_bad (st8_no2 h1 h2 h3 h4 h5 h6) h6
          · rw [if_pos h5]; exact ref_bad (st8_no1 h1 h2 h3 h4 h5) h5
        · rw [if_pos h4]; exact ref_bad (st7_no h1 h2 h3 h4) h4
      · rw [if_pos h3]; exact ref_bad (st3_no h1 h2 h3) h3
    · rw [if_pos h2]
      have e : (r2 l).2.2 = (dN l).2.1 := by rw [st2_0 h1]
      exact ref_bad (by rw [fin2 (by rw [e]; exact h2), e]) h2
  · rw [if_pos h1]
    exact ref_bad (by rw [fin2 (by rw [st2_no h1]; exact h1), st2_no h1]) h1
/-- Without a fault all was read: the message may be. -/
theorem r12_read {l : List UInt8} (h : (r12 l).2 = 0) : AllRead l := by
  have k1 : (dF l).1 = 0 := by
    by_cases h1 : (dF l).1 = 0
    · exact h1
    · have := fin2 (l := l) (by rw [st2_no h1]; exact h1); rw [st2_no h1] at this; omega
  have k2 : (dN l).2.1 = 0 := by
    by_cases h2 : (dN l).2.1 = 0
    · exact h2
    · have e : (r2 l).2.2 = (dN l).2.1 := by rw [st2_0 k1]
      have := fin2 (l := l) (by rw [e]; exact h2); rw [e] at this; omega
  have k3 : (dS l).2.1 = 0 := by
    by_cases h3 : (dS l).2.1 = 0
    · exact h3
    · have := st3_no k1 k2 h3; omega
  have k4 : (dR l).2.1 = 0 := by
    by_cases h4 : (dR l).2.1 = 0
    · exact h4
    · have := st7_no k1 k2 k3 h4; omega
  have k5 : (dD l).1 = 0 := by
    by_cases h5 : (dD l).1 = 0
    · exact h5
    · have := st8_no1 k1 k2 k3 k4 h5; omega
  have k6 : (dT l).2.1 = 0 := by
    by_cases h6 : (dT l).2.1 = 0
    · exact h6
    · have := st8_no2 k1 k2 k3 k4 k5 h6; omega
  exact ⟨k1, k2, k3, k4, k5, k6⟩
theorem r12_valid {l : List UInt8} (h : (r12 l).2 = 0) : Valid (rM l) := by
  have a := r12_read h
  rw [a.rM]; exact a.good.1
end Go.Proofs.YthoeicidilnleaaDoor.Codec
