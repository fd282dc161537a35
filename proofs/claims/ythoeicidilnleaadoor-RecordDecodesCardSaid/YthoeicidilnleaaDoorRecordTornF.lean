/-
  RECORD: a beginning of a message's bytes is too short, plainly.
-/
import Derived.Test.YthoeicidilnleaaDoorRecordBackF
namespace Go.Proofs.YthoeicidilnleaaDoor.Codec

theorem take_past {A R : List UInt8} {j : Nat} (h : A.length ≤ j) : (A ++ R).take j = A ++ R.take (j - A.length) := by
  rw [List.take_append, List.take_of_length_le h]
theorem take_in {A R : List UInt8} {j : Nat} (h : j ≤ A.length) : (A ++ R).take j = A.take j := List.take_append_of_le_length h
theorem fixedF_cut (s : List UInt8) : ∀ j, j < s.length → fixedF s (s.take j) = (32, []) := by
  induction s with
  | nil => intro j h; simp at h
  | cons c s ih =>
    intro j h
    cases j with
    | zero => rfl
    | succ j => rw [List.take_succ_cons, fixedF, if_pos rfl]; exact ih j (by simpa using h)
theorem numF_cut {n j : Nat} (h : n ≤ 9007199254740992) (hj : j < (numBytes n).length) (R : List UInt8) : (numF ((numBytes n ++ R).take j)).2.1 = 32 := by
  rw [take_in (by omega)]
  unfold numF
  rw [number_torn h hj]
  rfl
theorem textF_cut {s : List UInt8} {j : Nat} (h : s.length ≤ 1048576) (hj : j < (textBytes s).length) (R : List UInt8) : (textF ((textBytes s ++ R).take j)).2.1 = 32 := by
  rw [take_in (by omega)]
  unfold textF
  have := text_torn h hj
  rw [if_neg (by omega), this]
  rfl
theorem fromF_cut {s : List UInt8} {j : Nat} (hl : s.length ≤ 1048576) (hj : j < (102 :: textBytes s).length) (R : List UInt8) : (fromF ((102 :: textBytes s ++ R).take j)).2.1 = 32 := by
  have e : 102 :: textBytes s ++ R = [102] ++ (textBytes s ++ R) := rfl
  rw [e]
  cases j with
  | zero => rfl
  | succ j =>
    rw [take_past (by simp)]
    have hc := textF_cut hl (j := j + 1 - 1) (by simpa using hj) R
    unfold fromF
    rw [fixedF_all, if_neg (by simp)]
    dsimp only [List.length_cons, List.length_nil] at hc ⊢
    rw [if_pos (by rw [hc]; simp)]
    exact hc
theorem rcF_cut (L : Nat) {r : Rc} (h : rcB r = true) {j : Nat} (hj : j < (rcBytes false r).length) (R : List UInt8) : (rcF L ((rcBytes false r ++ R).take j)).2.1 = 32 := by
  unfold rcB at h
  rw [Bool.and_eq_true] at h
  have hs : r.1.data.toList.length ≤ 1048576 := by have := (addr_len h.1).2; omega
  have e : rcBytes false r ++ R = [114] ++ ([r.2] ++ (textBytes r.1.data.toList ++ R)) := by simp [rcBytes]
  have hl : (rcBytes false r).length = (textBytes r.1.data.toList).length + 2 := by simp [rcBytes]
  rw [e]
  match j, hj with
  | 0, _ => rw [rcF_1 (by simp [fixedF])]; rfl
  | 1, _ =>
    rw [take_past (by simp), rcF_2 (by rw [fixedF_all]) (by rw [fixedF_all]; simp [markF]), fixedF_all]; rfl
  | j + 2, hj =>
    have hc := textF_cut hs (j := j) (by omega) R
    have e2 : ([114] ++ ([r.2] ++ (textBytes r.1.data.toList ++ R))).take (j + 2) = [114] ++ (r.2 :: (textBytes r.1.data.toList ++ R).take j) := rfl
    have hm : markF L (r.2 :: (textBytes r.1.data.toList ++ R).take j) = (r.2, 0, (textBytes r.1.data.toList ++ R).take j, [L - (r.2 :: (textBytes r.1.data.toList ++ R).take j).length]) := by
      show (if markB r.2 = true then _ else _) = _; rw [if_pos h.2]
    rw [e2, rcF_3 (by rw [fixedF_all]) (by rw [fixedF_all, hm]) (by rw [fixedF_all, hm]; dsimp only; rw [hc]; simp), fixedF_all, hm]
    exact hc
theorem rcsF_cut (L : Nat) (R : List UInt8) : ∀ (rs acc : List Rc) (mk : List Nat) (j : Nat), (∀ r ∈ rs, rcB r = true) → j < (rcsBytes false rs).length → (rcsF L rs.length ((rcsBytes false rs ++ R).take j) acc mk).2.1 = 32 := by
  intro rs
  induction rs with
  | nil => intro acc mk j _ h; simp [rcsBytes] at h
  | cons r t ih =>
    intro acc mk j hr hj
    have e : rcsBytes false (r :: t) ++ R = rcBytes false r ++ (rcsBytes false t ++ R) := by simp [rcsBytes]
    have hl : (rcsBytes false (r :: t)).length = (rcBytes false r).length + (rcsBytes false t).length := by simp [rcsBytes]
    rw [List.length_cons, rcsF, e]
    by_cases hlt : j < (rcBytes false r).length
    · have hc := rcF_cut L (hr r (by simp)) hlt (rcsBytes false t ++ R)
      rw [if_pos (by rw [hc]; simp)]
      exact hc
    · rw [take_past (by omega), rcF_back L (hr r (by simp))]
      dsimp only
      rw [if_neg (by simp)]
      exact ih _ _ _ (fun x hx => hr x (by simp [hx])) (by omega)
theorem endF_cut (l : List UInt8) (ml : List Nat) (c j : Nat) (hc : c ≤ 4294967295) (hj : j < 10) : endF l ((101 :: hexOf c ++ [10]).take j) ml = 32 := by
  have hx : (hexOf c).length = 8 := rfl
  cases j with
  | zero => unfold endF; rfl
  | succ j =>
    have e : (101 :: hexOf c ++ [10]).take (j + 1) = [101] ++ (hexOf c ++ [10]).take j := rfl
    unfold endF
    rw [e, fixedF_all, if_neg (by simp)]
    dsimp only
    by_cases h8 : j < 8
    · have : takeHex ((hexOf c ++ [10]).take j) = (0, 20) := by
        unfold takeHex; rw [if_pos (by rw [List.length_take]; omega)]
      rw [this, if_pos (by simp)]; rfl
    · obtain rfl : j = 8 := by omega
      have e2 : (hexOf c ++ [10]).take 8 = hexOf c ++ [] := by rw [take_in (by omega), List.append_nil, List.take_of_length_le (by omega)]
      rw [e2, takeHex_hexOf c hc, if_neg (by simp)]
      have hd : (hexOf c ++ ([] : List UInt8)).drop 8 = [] := List.drop_left' (by simp [hexOf])
      rw [hd, if_pos (by simp [fixedF])]
      rfl
theorem decode_cut {m : Msg} (hv : Valid m) (hf : formB m = true) {k : Nat} (hk : k < (bytesOf m).length) : (decodeF ((bytesOf m).take k)).2 = 32 := by
  have hv0 := hv
  obtain ⟨h1, h2, h3, h4, h5, h6, h7⟩ := hv
  have hfb : fromB m.sender.data.toList = true := by
    unfold formB at hf; simp only [Bool.and_eq_true] at hf; exact hf.1.1.2
  have hsl : m.sender.data.toList.length = m.sender.size := Array.length_toList
  obtain ⟨l, hl⟩ : ∃ l, l = (bytesOf m).take k := ⟨_, rfl⟩
  rw [← hl]
  have e0 : bytesOf m = [87, 49, 59, 116] ++ (numBytes m.time.toNat ++ (102 :: textBytes m.sender.data.toList ++ (110 :: (numBytes m.rcpts.length ++ (rcsBytes false m.rcpts ++ (100 :: (textBytes m.data ++ (101 :: hexOf (crc (bodyOf true m)) ++ [10])))))))) := by
    rw [bytesOf]; simp [bodyOf, headOf]
  have hlen := congrArg List.length e0
  have hx : (hexOf (crc (bodyOf true m))).length = 8 := rfl
  simp only [List.length_append, List.length_cons, List.length_nil, hx] at hlen
  rw [e0] at hl
  -- the fixed bytes
  by_cases c0 : k < 4
  · have : dF l = (32, []) := by unfold dF; rw [hl, take_in (by simp; omega)]; exact fixedF_cut _ _ (by simpa using c0)
    unfold decodeF; rw [if_pos (by rw [this]; simp), this]
  rw [take_past (by simp; omega)] at hl
  have a0 : dF l = (0, (numBytes m.time.toNat ++ (102 :: textBytes m.sender.data.toList ++ (110 :: (numBytes m.rcpts.length ++ (rcsBytes false m.rcpts ++ (100 :: (textBytes m.data ++ (101 :: hexOf (crc (bodyOf true m)) ++ [10])))))))).take (k - 4)) := by unfold dF; rw [hl, fixedF_all]; rfl
  by_cases c1 : k - 4 < (numBytes m.time.toNat).length
  · have : (dN l).2.1 = 32 := by unfold dN; rw [a0]; exact numF_cut (by omega) c1 _
    unfold decodeF; rw [if_neg (by rw [a0]; simp), if_pos (by rw [this]; simp), this]
  rw [take_past (by omega)] at a0
  have a1 : dN l = (m.time, 0, (102 :: textBytes m.sender.data.toList ++ (110 :: (numBytes m.rcpts.length ++ (rcsBytes false m.rcpts ++ (100 :: (textBytes m.data ++ (101 :: hexOf (crc (bodyOf true m)) ++ [10]))))))).take (k - 4 - (numBytes m.time.toNat).length)) := by
    unfold dN; rw [a0]; dsimp only; rw [numF_back (by omega), show ((m.time.toNat : Nat) : Int) = m.time by omega]
  generalize hk1 : k - 4 - (numBytes m.time.toNat).length = k1 at a1
  by_cases c2 : k1 < (102 :: textBytes m.sender.data.toList).length
  · have : (dS l).2.1 = 32 := by unfold dS; rw [a1]; exact fromF_cut (by omega) c2 _
    unfold decodeF; rw [if_neg (by rw [a0]; simp), if_neg (by rw [a1]; simp), if_pos (by rw [this]; simp), this]
  rw [take_past (by omega)] at a1
  have a2 : dS l = (m.sender.data.toList, 0, (110 :: (numBytes m.rcpts.length ++ (rcsBytes false m.rcpts ++ (100 :: (textBytes m.data ++ (101 :: hexOf (crc (bodyOf true m)) ++ [10])))))).take (k1 - (102 :: textBytes m.sender.data.toList).length)) := by
    unfold dS; rw [a1]; dsimp only; rw [fromF_back hfb (by omega)]
  generalize hk2 : k1 - (102 :: textBytes m.sender.data.toList).length = k2 at a2
  have z0 : (dF l).1 = 0 := by rw [a0]
  have z1 : (dN l).2.1 = 0 := by rw [a1]
  have z2 : (dS l).2.1 = 0 := by rw [a2]
  have bad3 : (dR l).2.1 = 32 → (decodeF l).2 = 32 := fun h => by
    unfold decodeF; rw [if_neg (by simp [z0]), if_neg (by simp [z1]), if_neg (by simp [z2]), if_pos (by rw [h]; simp), h]
  cases k2 with
  | zero =>
    apply bad3
    unfold dR; rw [a2]
    rw [List.take_zero, rcptsF_1 (by simp [fixedF])]; rfl
  | succ k2 =>
    have e3 : (110 :: (numBytes m.rcpts.length ++ (rcsBytes false m.rcpts ++ (100 :: (textBytes m.data ++ (101 :: hexOf (crc (bodyOf true m)) ++ [10])))))).take (k2 + 1) = [110] ++ (numBytes m.rcpts.length ++ (rcsBytes false m.rcpts ++ (100 :: (textBytes m.data ++ (101 :: hexOf (crc (bodyOf true m)) ++ [10]))))).take k2 := rfl
    rw [e3] at a2
    by_cases c3 : k2 < (numBytes m.rcpts.length).length
    · apply bad3
      have hc := numF_cut (n := m.rcpts.length) (by omega) c3 (rcsBytes false m.rcpts ++ (100 :: (textBytes m.data ++ (101 :: hexOf (crc (bodyOf true m)) ++ [10]))))
      unfold dR; rw [a2]; dsimp only
      rw [rcptsF_2 (by rw [fixedF_all]) (by rw [fixedF_all]; dsimp only; rw [hc]; simp), fixedF_all]
      exact hc
    rw [take_past (by omega)] at a2
    generalize hk3 : k2 - (numBytes m.rcpts.length).length = k3 at a2
    have a3 : dR l = rcsF l.length m.rcpts.length ((rcsBytes false m.rcpts ++ (100 :: (textBytes m.data ++ (101 :: hexOf (crc (bodyOf true m)) ++ [10])))).take k3) [] [] := by
      unfold dR; rw [a2]; dsimp only
      rw [rcptsF_4 (by rw [fixedF_all]) (by rw [fixedF_all]; dsimp only; rw [numF_back (by omega)]) (by rw [fixedF_all]; dsimp only; rw [numF_back (by omega)]; dsimp only; omega), fixedF_all]
      dsimp only
      rw [numF_back (by omega)]
      dsimp only
      rw [show ((m.rcpts.length : Nat) : Int).toNat = m.rcpts.length by omega]
    by_cases c4 : k3 < (rcsBytes false m.rcpts).length
    · apply bad3
      rw [a3]
      exact rcsF_cut _ _ _ _ _ _ (form_rcs hf) c4
    rw [take_past (by omega), rcsF_back _ _ _ _ _ (form_rcs hf)] at a3
    generalize hk4 : k3 - (rcsBytes false m.rcpts).length = k4 at a3
    have z3 : (dR l).2.1 = 0 := by rw [a3]
    have bad4 : (dD l).1 = 32 → (decodeF l).2 = 32 := fun h => by
      unfold decodeF; rw [if_neg (by simp [z0]), if_neg (by simp [z1]), if_neg (by simp [z2]), if_neg (by simp [z3]), if_pos (by rw [h]; simp), h]
    cases k4 with
    | zero => apply bad4; unfold dD; rw [a3]; rfl
    | succ k4 =>
      have a4 : dD l = (0, (textBytes m.data ++ (101 :: hexOf (crc (bodyOf true m)) ++ [10])).take k4) := by
        unfold dD; rw [a3]; dsimp only
        exact fixedF_all [100] _
      have z4 : (dD l).1 = 0 := by rw [a4]
      by_cases c5 : k4 < (textBytes m.data).length
      · have : (dT l).2.1 = 32 := by unfold dT; rw [a4]; exact textF_cut h7 c5 _
        unfold decodeF; rw [if_neg (by simp [z0]), if_neg (by simp [z1]), if_neg (by simp [z2]), if_neg (by simp [z3]), if_neg (by simp [z4]), if_pos (by rw [this]; simp), this]
      rw [take_past (by omega)] at a4
      have a5 : dT l = (m.data, 0, (101 :: hexOf (crc (bodyOf true m)) ++ [10]).take (k4 - (textBytes m.data).length)) := by
        unfold dT; rw [a4]; dsimp only; rw [textF_back h7]
      have z5 : (dT l).2.1 = 0 := by rw [a5]
      have : dE l = 32 := by
        unfold dE; rw [a5]
        simp only [List.length_cons] at hk2
        exact endF_cut _ _ _ _ (crc_le _) (by omega)
      unfold decodeF; rw [if_neg (by simp [z0]), if_neg (by simp [z1]), if_neg (by simp [z2]), if_neg (by simp [z3]), if_neg (by simp [z4]), if_neg (by simp [z5]), if_pos (by rw [this]; simp), this]

theorem decode_more {m : Msg} (hv : Valid m) (hf : formB m = true) (b : UInt8) : (decodeF (bytesOf m ++ [b])).2 = 30 := by
  obtain ⟨a1, a2, a3, a4, a5, a6, a7, a8, a9, a10, a11, a12, a13⟩ := read_back hv hf m.data (101 :: hexOf (crc (bodyOf true m)) ++ [10] ++ [b]) (bytesOf m ++ [b]) hv.2.2.2.2.2.2 (by simp [bytesOf, bodyOf])
  rw [end_back _ _ _ _ (crc_le _) [b] a13] at a11
  have hE : dE (bytesOf m ++ [b]) = 30 := by rw [a11]; simp
  unfold decodeF
  rw [if_neg (by simp [a1]), if_neg (by simp [a2]), if_neg (by simp [a4]), if_neg (by simp [a6]), if_neg (by simp [a8]), if_neg (by simp [a9]), if_pos (by simp [hE]), hE]
/-- Where the data begins. -/
def dataAt (m : Msg) : Nat := (headOf m ++ rcsBytes false m.rcpts).length + 1 + (Lib.decDigits m.data.length).length + 1
theorem dataAt_len (m : Msg) : (bytesOf m).length = dataAt m + m.data.length + 11 := by
  have hx : ∀ n, (hexOf n).length = 8 := fun _ => rfl
  unfold dataAt bytesOf
  generalize crc (bodyOf true m) = c
  unfold bodyOf
  simp only [List.length_append, List.length_cons, List.length_nil, text_len, hx]
  omega
theorem textBytes_set (d : List UInt8) (j : Nat) (y : UInt8) : (textBytes d).set ((Lib.decDigits d.length).length + 1 + j) y = if j < d.length then textBytes (d.set j y) else (textBytes d).set ((Lib.decDigits d.length).length + 1 + j) y := by
  by_cases h : j < d.length
  · rw [if_pos h]
    unfold textBytes
    rw [List.length_set, List.set_append_right _ _ (by omega), show (Lib.decDigits d.length).length + 1 + j - (Lib.decDigits d.length).length = j + 1 by omega, List.set_cons_succ, List.set_append_left _ _ h]
  · rw [if_neg h]
theorem decode_turned {m : Msg} (hv : Valid m) (hf : formB m = true) {j : Nat} (hj : j < m.data.length) (y : UInt8) (hy : y ≠ m.data.getD j 0) :
    (decodeF ((bytesOf m).set (dataAt m + j) y)).2 = 33 := by
  have hset : ∀ (P : List UInt8) (E : List UInt8), (P ++ 100 :: textBytes m.data ++ E).set (P.length + 1 + (Lib.decDigits m.data.length).length + 1 + j) y = P ++ 100 :: textBytes (m.data.set j y) ++ E := fun P E => by
    have ht := textBytes_set m.data j y
    rw [if_pos hj] at ht
    have hl : (Lib.decDigits m.data.length).length + 1 + j < (textBytes m.data).length := by rw [text_len]; omega
    rw [List.append_assoc, List.set_append_right _ _ (by omega), show P.length + 1 + (Lib.decDigits m.data.length).length + 1 + j - P.length = ((Lib.decDigits m.data.length).length + 1 + j) + 1 by omega]
    rw [List.cons_append, List.set_cons_succ, List.set_append_left _ _ hl, ht]
    simp
  have e : (bytesOf m).set (dataAt m + j) y = headOf m ++ rcsBytes false m.rcpts ++ (100 :: textBytes (m.data.set j y) ++ (101 :: hexOf (crc (bodyOf true m)) ++ [10] ++ [])) := by
    have := hset (headOf m ++ rcsBytes false m.rcpts) (101 :: hexOf (crc (bodyOf true m)) ++ [10])
    have eb : bytesOf m = headOf m ++ rcsBytes false m.rcpts ++ 100 :: textBytes m.data ++ (101 :: hexOf (crc (bodyOf true m)) ++ [10]) := by simp [bytesOf, bodyOf]
    rw [eb, dataAt, this]; simp
  obtain ⟨l, hl⟩ : ∃ l, l = (bytesOf m).set (dataAt m + j) y := ⟨_, rfl⟩
  rw [← hl] at e ⊢
  obtain ⟨a1, a2, a3, a4, a5, a6, a7, a8, a9, a10, a11, a12, a13⟩ := read_back hv hf (m.data.set j y) (101 :: hexOf (crc (bodyOf true m)) ++ [10] ++ []) l (by rw [List.length_set]; exact hv.2.2.2.2.2.2) e
  rw [end_back _ _ _ _ (crc_le _) [] a13] at a11
  have hM : headOf m ++ rcsBytes true m.rcpts ++ 100 :: textBytes (m.data.set j y) = (bodyOf true m).set ((headOf m ++ rcsBytes true m.rcpts).length + 1 + (Lib.decDigits m.data.length).length + 1 + j) y := by
    have := hset (headOf m ++ rcsBytes true m.rcpts) []
    simp only [List.append_nil] at this
    exact this.symm
  have hkl : (headOf m ++ rcsBytes true m.rcpts).length + 1 + (Lib.decDigits m.data.length).length + 1 + j < (bodyOf true m).length := by
    unfold bodyOf; simp only [List.length_append, List.length_cons, text_len]; omega
  have hg : (bodyOf true m).getD ((headOf m ++ rcsBytes true m.rcpts).length + 1 + (Lib.decDigits m.data.length).length + 1 + j) 0 = m.data.getD j 0 := by
    unfold bodyOf textBytes
    rw [List.getD_eq_getElem?_getD, List.getElem?_append_right (by omega), show (headOf m ++ rcsBytes true m.rcpts).length + 1 + (Lib.decDigits m.data.length).length + 1 + j - (headOf m ++ rcsBytes true m.rcpts).length = ((Lib.decDigits m.data.length).length + 1 + j) + 1 by omega, List.getElem?_cons_succ, List.getElem?_append_right (by omega), show (Lib.decDigits m.data.length).length + 1 + j - (Lib.decDigits m.data.length).length = j + 1 by omega, List.getElem?_cons_succ, List.getElem?_append_left hj, List.getD_eq_getElem?_getD]
  have hne := crc_turned (bodyOf true m) _ hkl y (by rw [hg]; exact hy)
  have hE : dE l = 33 := by rw [a11, if_neg (by simp), if_pos]; rw [hM]; exact fun h => hne h.symm
  unfold decodeF
  rw [if_neg (by simp [a1]), if_neg (by simp [a2]), if_neg (by simp [a4]), if_neg (by simp [a6]), if_neg (by simp [a8]), if_neg (by simp [a9]), if_pos (by simp [hE]), hE]
end Go.Proofs.YthoeicidilnleaaDoor.Codec
