/-
  RECORD: what is laid down of a message is read again, plainly.
-/
import Derived.Test.YthoeicidilnleaaDoorRecordDecF
namespace Go.Proofs.YthoeicidilnleaaDoor.Codec

theorem fixedF_all (s r : List UInt8) : fixedF s (s ++ r) = (0, r) := by
  induction s with
  | nil => rfl
  | cons c s ih => rw [List.cons_append, fixedF, if_pos rfl]; exact ih
theorem numF_back {n : Nat} (h : n ≤ 9007199254740992) (r : List UInt8) : numF (numBytes n ++ r) = ((n : Int), 0, r) := by
  unfold numF; rw [number_back h]; simp
theorem textF_back {s : List UInt8} (h : s.length ≤ 1048576) (r : List UInt8) : textF (textBytes s ++ r) = (s, 0, r) := by
  unfold textF; rw [text_back h]; simp
theorem rcF_back (L : Nat) {r : Rc} (h : rcB r = true) (rest : List UInt8) : rcF L (rcBytes false r ++ rest) = (r, 0, rest, [L - ((rcBytes false r ++ rest).length - 1)]) := by
  unfold rcB at h
  rw [Bool.and_eq_true] at h
  have hs : r.1.data.toList.length ≤ 1048576 := by have := (addr_len h.1).2; omega
  have e : rcBytes false r ++ rest = [114] ++ (r.2 :: (textBytes r.1.data.toList ++ rest)) := by simp [rcBytes]
  have hm : markF L (r.2 :: (textBytes r.1.data.toList ++ rest)) = (r.2, 0, textBytes r.1.data.toList ++ rest, [L - (r.2 :: (textBytes r.1.data.toList ++ rest)).length]) := by
    show (if markB r.2 = true then _ else _) = _; rw [if_pos h.2]
  have hl : (rcBytes false r ++ rest).length - 1 = (r.2 :: (textBytes r.1.data.toList ++ rest)).length := by rw [e]; simp
  rw [hl, e, rcF_4 (by rw [fixedF_all]) (by rw [fixedF_all, hm]) (by rw [fixedF_all, hm]; dsimp only; rw [textF_back hs]) (by rw [fixedF_all, hm]; dsimp only; rw [textF_back hs]; exact h.1)]
  rw [fixedF_all, hm]
  dsimp only
  rw [textF_back hs]
/-- Where the marks stand, told from the end. -/
def markPos (L : Nat) : List Rc → List UInt8 → List Nat
  | [], _ => []
  | r :: t, rest => (L - ((rcsBytes false (r :: t) ++ rest).length - 1)) :: markPos L t rest
theorem rcsF_back (L : Nat) (rest : List UInt8) : ∀ (rs : List Rc) (acc : List Rc) (mk : List Nat), (∀ r ∈ rs, rcB r = true) → rcsF L rs.length (rcsBytes false rs ++ rest) acc mk = (acc ++ rs, 0, rest, mk ++ markPos L rs rest) := by
  intro rs
  induction rs with
  | nil => intro acc mk _; simp [rcsF, rcsBytes, markPos]
  | cons r t ih =>
    intro acc mk h
    have e : rcsBytes false (r :: t) ++ rest = rcBytes false r ++ (rcsBytes false t ++ rest) := by simp [rcsBytes]
    have hb := rcF_back L (h r (by simp)) (rcsBytes false t ++ rest)
    rw [List.length_cons, rcsF, e, hb]
    dsimp only
    rw [if_neg (by simp), ih _ _ (fun x hx => h x (by simp [hx]))]
    simp [markPos, e]

theorem markPos_set (L : Nat) (rest suf : List UInt8) : ∀ (rs : List Rc) (pre : List UInt8), (pre ++ rcsBytes false rs ++ rest).length = L →
    setAll (pre ++ rcsBytes false rs ++ suf) (markPos L rs rest) = pre ++ rcsBytes true rs ++ suf := by
  intro rs
  induction rs with
  | nil => intro pre _; simp [markPos, rcsBytes, setAll]
  | cons r t ih =>
    intro pre hL
    have e1 : rcsBytes false (r :: t) = 114 :: r.2 :: (textBytes r.1.data.toList ++ rcsBytes false t) := by simp [rcsBytes, rcBytes]
    have e2 : rcsBytes true (r :: t) = 114 :: 80 :: (textBytes r.1.data.toList ++ rcsBytes true t) := by simp [rcsBytes, rcBytes]
    have hpos : L - ((rcsBytes false (r :: t) ++ rest).length - 1) = pre.length + 1 := by
      rw [← hL]; simp only [List.length_append]; rw [e1]; simp only [List.length_cons]; omega
    have e3 : pre ++ rcsBytes false (r :: t) ++ suf = pre ++ 114 :: r.2 :: (textBytes r.1.data.toList ++ rcsBytes false t ++ suf) := by rw [e1]; simp
    have h2 := ih (pre ++ 114 :: 80 :: textBytes r.1.data.toList) (by
      rw [← hL, e1]; simp only [List.length_append, List.length_cons]; omega)
    have e4 : pre ++ 114 :: 80 :: (textBytes r.1.data.toList ++ rcsBytes false t ++ suf) = pre ++ 114 :: 80 :: textBytes r.1.data.toList ++ rcsBytes false t ++ suf := by simp
    have e5 : pre ++ rcsBytes true (r :: t) ++ suf = pre ++ 114 :: 80 :: textBytes r.1.data.toList ++ rcsBytes true t ++ suf := by rw [e2]; simp
    rw [markPos, setAll, hpos, e3, set_mid pre _ 114 r.2 80 _ rfl, e4, e5]
    exact h2
/-- What stands behind the recipients. -/
def tailOf (m : Msg) : List UInt8 := 100 :: textBytes m.data ++ 101 :: hexOf (crc (bodyOf true m)) ++ [10]
theorem bytesOf_split (m : Msg) : bytesOf m = headOf m ++ rcsBytes false m.rcpts ++ tailOf m := by simp [bytesOf, bodyOf, tailOf]

theorem hexVal_char : ∀ d, d < 16 → hexVal (hexChar d).toNat = some d := by decide +kernel
theorem takeHex_hexOf (n : Nat) (h : n ≤ 4294967295) (r : List UInt8) : takeHex (hexOf n ++ r) = (n, 0) := by
  unfold takeHex
  rw [if_neg (by simp [hexOf])]
  have e : (hexOf n ++ r).take 8 = hexOf n := List.take_left' (by simp [hexOf])
  rw [e]
  have m : ∀ x : Nat, x % 16 < 16 := fun x => Nat.mod_lt _ (by omega)
  simp only [hexOf, hexFrom, hexVal_char _ (m _)]
  simp only [Prod.mk.injEq, and_true]
  omega
theorem fromF_back {s : List UInt8} (h : fromB s = true) (hl : s.length ≤ 1048576) (r : List UInt8) : fromF (102 :: textBytes s ++ r) = (s, 0, r) := by
  have e : 102 :: textBytes s ++ r = [102] ++ (textBytes s ++ r) := rfl
  unfold fromF
  rw [e, fixedF_all, if_neg (by simp)]
  dsimp only
  rw [textF_back hl, if_neg (by simp), if_pos h]

/-- The head's parts are read one behind the other. -/
theorem head_back {m : Msg} (hv : Valid m) (hf : formB m = true) (l R : List UInt8) (hl : l = headOf m ++ R) :
    dF l = (0, numBytes m.time.toNat ++ (102 :: textBytes m.sender.data.toList ++ (110 :: numBytes m.rcpts.length ++ R))) ∧ dN l = (m.time, 0, 102 :: textBytes m.sender.data.toList ++ (110 :: numBytes m.rcpts.length ++ R)) ∧ dS l = (m.sender.data.toList, 0, 110 :: numBytes m.rcpts.length ++ R) ∧ dR l = rcsF l.length m.rcpts.length R [] [] := by
  obtain ⟨h1, h2, h3, h4, h5, h6, h7⟩ := hv
  have hfb : fromB m.sender.data.toList = true := by
    unfold formB at hf; simp only [Bool.and_eq_true] at hf; exact hf.1.1.2
  have hsl : m.sender.data.toList.length = m.sender.size := Array.length_toList
  have e0 : dF l = (0, numBytes m.time.toNat ++ (102 :: textBytes m.sender.data.toList ++ (110 :: numBytes m.rcpts.length ++ R))) := by
    have : l = [87, 49, 59, 116] ++ (numBytes m.time.toNat ++ (102 :: textBytes m.sender.data.toList ++ (110 :: numBytes m.rcpts.length ++ R))) := by rw [hl]; simp [headOf]
    unfold dF; rw [this, fixedF_all]
  have e1 : dN l = (m.time, 0, 102 :: textBytes m.sender.data.toList ++ (110 :: numBytes m.rcpts.length ++ R)) := by
    unfold dN; rw [e0]; dsimp only; rw [numF_back (by omega)]
    rw [show ((m.time.toNat : Nat) : Int) = m.time by omega]
  have e2 : dS l = (m.sender.data.toList, 0, 110 :: numBytes m.rcpts.length ++ R) := by
    unfold dS; rw [e1]; dsimp only; rw [fromF_back hfb (by omega)]
  refine ⟨e0, e1, e2, ?_⟩
  have e3 : (110 :: numBytes m.rcpts.length ++ R) = [110] ++ (numBytes m.rcpts.length ++ R) := rfl
  unfold dR; rw [e2]; dsimp only
  rw [e3, rcptsF_4 (by rw [fixedF_all]) (by rw [fixedF_all]; dsimp only; rw [numF_back (by omega)]) (by rw [fixedF_all]; dsimp only; rw [numF_back (by omega)]; dsimp only; omega), fixedF_all]
  dsimp only
  rw [numF_back (by omega)]
  dsimp only
  rw [show ((m.rcpts.length : Nat) : Int).toNat = m.rcpts.length by omega]
theorem form_rcs {m : Msg} (hf : formB m = true) : ∀ r ∈ m.rcpts, rcB r = true := by
  unfold formB at hf; simp only [Bool.and_eq_true, List.all_eq_true] at hf; exact hf.2

/-- With any data and any digits behind: what is read, up to the sum. -/
theorem read_back {m : Msg} (hv : Valid m) (hf : formB m = true) (data E l : List UInt8) (hd : data.length ≤ 1048576) (hl : l = headOf m ++ rcsBytes false m.rcpts ++ (100 :: textBytes data ++ E)) :
    (dF l).1 = 0 ∧ (dN l).2.1 = 0 ∧ (dN l).1 = m.time ∧ (dS l).2.1 = 0 ∧ (dS l).1 = m.sender.data.toList ∧ (dR l).2.1 = 0 ∧ (dR l).1 = m.rcpts ∧ (dD l).1 = 0 ∧ (dT l).2.1 = 0 ∧ (dT l).1 = data ∧
      dE l = endF l E (markPos l.length m.rcpts (100 :: textBytes data ++ E)) ∧ l.take (l.length - E.length) = headOf m ++ rcsBytes false m.rcpts ++ 100 :: textBytes data ∧
      setAll (l.take (l.length - E.length)) (markPos l.length m.rcpts (100 :: textBytes data ++ E)) = headOf m ++ rcsBytes true m.rcpts ++ 100 :: textBytes data := by
  obtain ⟨e0, e1, e2, e3⟩ := head_back hv hf l (rcsBytes false m.rcpts ++ (100 :: textBytes data ++ E)) (by rw [hl]; simp)
  rw [rcsF_back l.length (100 :: textBytes data ++ E) m.rcpts [] [] (form_rcs hf)] at e3
  simp only [List.nil_append] at e3
  have e4 : dD l = (0, textBytes data ++ E) := by
    unfold dD; rw [e3]; dsimp only
    exact fixedF_all [100] _
  have e5 : dT l = (data, 0, E) := by unfold dT; rw [e4]; dsimp only; rw [textF_back hd]
  have ht : l.take (l.length - E.length) = headOf m ++ rcsBytes false m.rcpts ++ 100 :: textBytes data := by
    have : l = (headOf m ++ rcsBytes false m.rcpts ++ 100 :: textBytes data) ++ E := by rw [hl]; simp
    rw [this, List.length_append, Nat.add_sub_cancel, List.take_left']
    rfl
  refine ⟨by rw [e0], by rw [e1], by rw [e1], by rw [e2], by rw [e2], by rw [e3], by rw [e3], by rw [e4], by rw [e5], by rw [e5], by unfold dE; rw [e3, e5], ht, ?_⟩
  rw [ht]
  exact markPos_set l.length (100 :: textBytes data ++ E) (100 :: textBytes data) m.rcpts (headOf m) (by rw [hl])
theorem end_back (l M : List UInt8) (ml : List Nat) (c : Nat) (hc : c ≤ 4294967295) (b : List UInt8) (hs : setAll (l.take (l.length - (101 :: hexOf c ++ [10] ++ b).length)) ml = M) :
    endF l (101 :: hexOf c ++ [10] ++ b) ml = if b ≠ [] then 30 else if c ≠ crc M then 33 else 0 := by
  have e : (101 :: hexOf c ++ [10] ++ b) = [101] ++ (hexOf c ++ ([10] ++ b)) := by simp
  unfold endF
  rw [hs, e, fixedF_all]
  dsimp only
  rw [if_neg (by simp), takeHex_hexOf c hc, if_neg (by simp)]
  have hdrop : (hexOf c ++ ([10] ++ b)).drop 8 = [10] ++ b := List.drop_left' (by simp [hexOf])
  rw [hdrop, fixedF_all, if_neg (by simp)]
theorem decode_back {m : Msg} (hv : Valid m) (hf : formB m = true) : decodeF (bytesOf m) = (m, 0) := by
  obtain ⟨a1, a2, a3, a4, a5, a6, a7, a8, a9, a10, a11, a12, a13⟩ := read_back hv hf m.data (101 :: hexOf (crc (bodyOf true m)) ++ [10] ++ []) (bytesOf m) hv.2.2.2.2.2.2 (by simp [bytesOf, bodyOf])
  rw [end_back _ _ _ _ (crc_le _) [] a13] at a11
  have hE : dE (bytesOf m) = 0 := by rw [a11]; simp [bodyOf]
  unfold decodeF
  rw [if_neg (by simp [a1]), if_neg (by simp [a2]), if_neg (by simp [a4]), if_neg (by simp [a6]), if_neg (by simp [a8]), if_neg (by simp [a9]), if_neg (by simp [hE]), a3, a5, a7, a10]
end Go.Proofs.YthoeicidilnleaaDoor.Codec
