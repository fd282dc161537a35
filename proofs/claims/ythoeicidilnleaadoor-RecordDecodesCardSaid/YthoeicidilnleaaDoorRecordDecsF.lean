/-
  RECORD: how the document reads a record, plainly, and that the program's reading is the same.
-/
import Derived.Test.YthoeicidilnleaaDoorRecordBackF
namespace Go.Proofs.YthoeicidilnleaaDoor.Codec

/-! ### What was read has just these bytes -/
theorem dec_snoc {u d : Nat} (hu : 1 ≤ u) (hd : d < 10) : Lib.decDigits (10 * u + d) = Lib.decDigits u ++ [UInt8.ofNat (48 + d)] := by
  rw [Lib.decDigits, dif_neg (by omega), show (10 * u + d) / 10 = u by omega, show (10 * u + d) % 10 = d by omega]
theorem byte_digit {c : UInt8} (h : 48 ≤ c.toNat) : UInt8.ofNat (48 + (c.toNat - 48)) = c := by
  rw [show 48 + (c.toNat - 48) = c.toNat by omega]; exact UInt8.ofNat_toNat
theorem take_canon (e d m : Int) : ∀ (l : List UInt8) (i u : Nat) (v k : Int), 1 ≤ i → (2 ≤ i → 1 ≤ u) → takeFrom e d m l i u = (v, k, 0) →
    ∃ (ds : List UInt8) (c : UInt8) (r : List UInt8) (u' : Nat), l = ds ++ c :: r ∧ (c.toNat : Int) = e ∧ v = (u' : Int) ∧ v ≤ m ∧ Lib.decDigits u ++ ds = Lib.decDigits u' ∧ k = (i : Int) + ds.length + 1 := by
  intro l
  induction l with
  | nil => intro i u v k _ _ h; simp [takeFrom] at h
  | cons c t ih =>
    intro i u v k hi hu h
    rw [takeFrom] at h
    split at h
    · rename_i h1
      split at h
      · simp at h
      · simp only [Prod.mk.injEq, and_true] at h
        exact ⟨[], c, t, u, rfl, h1.1, h.1.symm, by omega, by simp, by rw [← h.2]; simp⟩
    · split at h
      · simp at h
      · rename_i h1 h2
        have hc : 48 ≤ c.toNat ∧ c.toNat ≤ 57 := by omega
        have hu1 : 1 ≤ u := by
          rcases Nat.lt_or_ge 1 i with h3 | h3
          · exact hu h3
          · omega
        have en : (10 * (u : Int) + ((c.toNat : Int) - 48)) = ((10 * u + (c.toNat - 48) : Nat) : Int) := by omega
        rw [en] at h
        obtain ⟨ds, x, r, u', e1, e2, e3, e4, e5, e6⟩ := ih (i + 1) _ v k (by omega) (fun _ => by omega) h
        refine ⟨c :: ds, x, r, u', by rw [e1]; rfl, e2, e3, e4, ?_, by rw [e6]; simp; omega⟩
        rw [← e5, dec_snoc hu1 (by omega), byte_digit hc.1]; simp
theorem take_canon0 (e d m : Int) (l : List UInt8) (v k : Int) (h : takeFrom e d m l 0 0 = (v, k, 0)) :
    ∃ (c : UInt8) (r : List UInt8) (u : Nat), l = Lib.decDigits u ++ c :: r ∧ (c.toNat : Int) = e ∧ v = (u : Int) ∧ v ≤ m ∧ k = ((Lib.decDigits u).length : Int) + 1 := by
  cases l with
  | nil => simp [takeFrom] at h
  | cons c t =>
    rw [takeFrom, if_neg (by omega)] at h
    split at h
    · simp at h
    · rename_i h2
      have hc : 48 ≤ c.toNat ∧ c.toNat ≤ 57 := by omega
      have en : (10 * (0 : Int) + ((c.toNat : Int) - 48)) = ((c.toNat - 48 : Nat) : Int) := by omega
      rw [en] at h
      obtain ⟨ds, x, r, u', e1, e2, e3, e4, e5, e6⟩ := take_canon e d m t 1 _ v k (by omega) (fun h => by omega) h
      have e7 : Lib.decDigits (c.toNat - 48) = [c] := by rw [Lib.decDigits_one (by omega), byte_digit hc.1]
      rw [e7] at e5
      exact ⟨x, r, u', by rw [← e5, e1]; rfl, e2, e3, e4, by rw [e6, ← e5]; simp; omega⟩
theorem byte_of {c : UInt8} {n : Nat} (h : (c.toNat : Int) = (n : Int)) (_hn : n < 256) : c = UInt8.ofNat n := by
  have : c.toNat = n := by omega
  rw [← this]; exact UInt8.ofNat_toNat.symm
theorem numF_canon {r : List UInt8} (h : (numF r).2.1 = 0) : ∃ n : Nat, (numF r).1 = (n : Int) ∧ n ≤ 9007199254740992 ∧ r = numBytes n ++ (numF r).2.2 := by
  rcases takeNumber_cases r with ⟨z, h1, h2, h3⟩ | ⟨n, k, h1, h2, h3, h4⟩
  · unfold numF at h; rw [h3] at h; have hz : z ≠ 0 := by omega
    simp [hz] at h; exact absurd h (toldOf_pos h1)
  · have hn : numF r = ((n : Int), 0, r.drop k) := by unfold numF; rw [h4]; simp
    rw [hn]
    obtain ⟨c, t, u, e1, e2, e3, e4, e5⟩ := take_canon0 59 16 9007199254740992 r n k h4
    have hc : c = 59 := byte_of (n := 59) e2 (by omega)
    obtain rfl : n = u := by omega
    have hk : k = (numBytes n).length := by unfold numBytes; simp; omega
    refine ⟨n, rfl, by omega, ?_⟩
    dsimp only
    have e6 : r = numBytes n ++ t := by rw [e1, hc]; simp [numBytes]
    rw [hk]
    conv => rhs; rw [e6]
    rw [List.drop_left' rfl]; exact e6
theorem textF_canon {r : List UInt8} (h : (textF r).2.1 = 0) : (textF r).1.length ≤ 1048576 ∧ r = textBytes (textF r).1 ++ (textF r).2.2 := by
  have h0 : (takeText r).2.2 = 0 := by
    rcases takeText_cases r with ⟨z, h1, h2, h3⟩ | ⟨t, k, h1, h2, h3, h4⟩
    · unfold textF at h; rw [h3] at h; have hz : z ≠ 0 := by omega
      simp [hz] at h; exact absurd h (toldOf_pos h1)
    · rw [h4]
  have ht : textF r = ((takeText r).1, 0, r.drop (takeText r).2.1.toNat) := by unfold textF; rw [if_pos h0]
  rw [ht]
  rcases text_ways r with ⟨z, h1, h2, h3, h4⟩ | ⟨n, k, h1, h2, h3, h4, h5⟩
  · rw [h4] at h0; dsimp only at h0; omega
  · rcases h5 with ⟨_, h5⟩ | ⟨_, _, h5⟩ | ⟨h5, h6, h7⟩
    · rw [h5] at h0; exact absurd h0 (by decide)
    · rw [h5] at h0; exact absurd h0 (by decide)
    · rw [h7]
      dsimp only
      obtain ⟨c, t, u, e1, e2, e3, e4, e5⟩ := take_canon0 58 7 1048576 r n k h4
      have hc : c = 58 := byte_of (n := 58) e2 (by omega)
      obtain rfl : n = u := by omega
      have hk : k = (Lib.decDigits n).length + 1 := by omega
      have hl := congrArg List.length e1
      simp only [List.length_append, List.length_cons] at hl
      have hd : r.drop k = t := by
        rw [e1, hk, show Lib.decDigits n ++ c :: t = (Lib.decDigits n ++ [c]) ++ t by simp]; exact List.drop_left' (by simp)
      have hg : t.getD n 0 = 44 := by
        rw [← h6, ← hd, List.getD_eq_getElem?_getD, List.getD_eq_getElem?_getD, List.getElem?_drop]
      have hs : t = t.take n ++ 44 :: t.drop (n + 1) := by
        have : t.drop n = 44 :: t.drop (n + 1) := by
          rw [List.drop_eq_getElem_cons (by omega)]
          congr 1
          rw [List.getD_eq_getElem?_getD, List.getElem?_eq_getElem (by omega)] at hg
          exact hg
        rw [← this, List.take_append_drop]
      have hlen : (t.take n).length = n := by rw [List.length_take]; omega
      have e6 : r = textBytes (t.take n) ++ t.drop (n + 1) := by
        rw [e1, hc]
        conv => lhs; rw [hs]
        unfold textBytes
        rw [hlen]; simp
      rw [hd]
      refine ⟨by omega, ?_⟩
      have hk2 : ((k : Int) + n + 1).toNat = (textBytes (t.take n)).length := by rw [text_len, hlen]; omega
      rw [hk2]
      conv => rhs; rw [e6]
      rw [List.drop_left' rfl]; exact e6
theorem fixedF_canon (c : List UInt8) : ∀ r, (fixedF c r).1 = 0 → r = c ++ (fixedF c r).2 := by
  induction c with
  | nil => intro r _; rfl
  | cons x c ih =>
    intro r h
    cases r with
    | nil => exact absurd h (by simp [fixedF])
    | cons y r =>
      rw [fixedF] at h ⊢
      split
      · rename_i hy
        rw [if_pos hy] at h
        rw [hy, List.cons_append]
        exact congrArg _ (ih r h)
      · rename_i hy
        rw [if_neg hy] at h; exact absurd h (by simp)
theorem rcF_canon {L : Nat} {r : List UInt8} (h : (rcF L r).2.1 = 0) : rcB (rcF L r).1 = true ∧ r = rcBytes false (rcF L r).1 ++ (rcF L r).2.2.1 := by
  by_cases h1 : (fixedF [114] r).1 = 0
  · by_cases h2 : (markF L (fixedF [114] r).2).2.1 = 0
    · by_cases h3 : (textF (markF L (fixedF [114] r).2).2.2.1).2.1 = 0
      · by_cases h4 : addrB (textF (markF L (fixedF [114] r).2).2.2.1).1 = true
        · rw [rcF_4 h1 h2 h3 h4]
          have f1 := fixedF_canon [114] r h1
          have f3 := (textF_canon h3).2
          generalize fixedF [114] r = F at *
          obtain ⟨F1, F2⟩ := F
          dsimp only at *
          cases F2 with
          | nil => exact absurd h2 (by simp [markF])
          | cons c t =>
            by_cases hm : markB c = true
            · have hmk : markF L (c :: t) = (c, 0, t, [L - (c :: t).length]) := by show (if markB c = true then _ else _) = _; rw [if_pos hm]
              rw [hmk] at f3 h4 ⊢
              dsimp only at f3 h4 ⊢
              refine ⟨by unfold rcB; simp [h4, hm], ?_⟩
              rw [f1]
              conv => lhs; rw [f3]
              simp [rcBytes]
            · have hmk : markF L (c :: t) = (0, 30, c :: t, []) := by show (if markB c = true then _ else _) = _; rw [if_neg hm]
              rw [hmk] at h2; exact absurd h2 (by simp)
        · rw [rcF_5 h1 h2 h3 (by simpa using h4)] at h; exact absurd h (by simp)
      · unfold rcF at h; rw [if_neg (by simp [h1]), if_neg (by simp [h2]), if_pos h3] at h; exact absurd h h3
    · unfold rcF at h; rw [if_neg (by simp [h1]), if_pos h2] at h; exact absurd h h2
  · unfold rcF at h; rw [if_pos h1] at h; exact absurd h h1
theorem rcsF_canon (L : Nat) : ∀ (n : Nat) (r : List UInt8) (acc : List Rc) (mk : List Nat), (rcsF L n r acc mk).2.1 = 0 →
    ∃ rs, (rcsF L n r acc mk).1 = acc ++ rs ∧ rs.length = n ∧ (∀ x ∈ rs, rcB x = true) ∧ r = rcsBytes false rs ++ (rcsF L n r acc mk).2.2.1 := by
  intro n
  induction n with
  | zero => intro r acc mk _; exact ⟨[], by simp [rcsF], rfl, by simp, by simp [rcsF, rcsBytes]⟩
  | succ n ih =>
    intro r acc mk h
    rw [rcsF] at h ⊢
    by_cases h1 : (rcF L r).2.1 = 0
    · rw [if_neg (by simp [h1])] at h ⊢
      obtain ⟨c1, c2⟩ := rcF_canon h1
      obtain ⟨rs, e1, e2, e3, e4⟩ := ih _ _ _ h
      refine ⟨(rcF L r).1 :: rs, by rw [e1]; simp, by simp [e2], fun x hx => ?_, ?_⟩
      · rcases List.mem_cons.1 hx with rfl | hx
        · exact c1
        · exact e3 x hx
      · rw [show rcsBytes false ((rcF L r).1 :: rs) = rcBytes false (rcF L r).1 ++ rcsBytes false rs by simp [rcsBytes], List.append_assoc, ← e4]; exact c2
    · rw [if_pos h1] at h; exact absurd h h1

/-! ### The document's reader: what is left, the first fault -/
abbrev St := List UInt8 × Int
def sFail (z : Int) (s : St) : St := if s.2 = 0 then (s.1, z) else s
def sAsk (ok : Bool) (s : St) : St := if ok then s else sFail 30 s
def sFixed (c : List UInt8) (s : St) : St := if s.2 = 0 then ((fixedF c s.1).2, (fixedF c s.1).1) else s
def sTook (n z : Int) (s : St) : St := if s.2 = 0 then (if z = 0 then (s.1.drop n.toNat, 0) else (s.1, toldOf z)) else s
def sNum (k : List UInt8) (s : St) : Int × St := ((takeNumber (sFixed k s).1).1, sTook (takeNumber (sFixed k s).1).2.1 (takeNumber (sFixed k s).1).2.2 (sFixed k s))
def sTxt (k : List UInt8) (s : St) : List UInt8 × St := ((takeText (sFixed k s).1).1, sTook (takeText (sFixed k s).1).2.1 (takeText (sFixed k s).1).2.2 (sFixed k s))
def sMk (s : St) : UInt8 × St := if s.2 = 0 then (match s.1 with | [] => (0, ([], 32)) | c :: r => (c, (r, if markB c then 0 else 30))) else (0, s)
def sMark (s : St) : UInt8 × St := sMk (sFixed [114] s)
def sRc (s : St) : Rc × St := ((⟨(sTxt [] (sMark s).2).1.toArray⟩, (sMark s).1), sAsk (addrB (sTxt [] (sMark s).2).1) (sTxt [] (sMark s).2).2)
def sRcs : Nat → St → List Rc → List Rc × St
  | 0, s, acc => (acc, s)
  | n + 1, s, acc => if s.2 = 0 then sRcs n (sRc s).2 (acc ++ [(sRc s).1]) else (acc, s)
def r1 (l : List UInt8) : St := sFixed [87, 49, 59] (l, 0)
def r2 (l : List UInt8) : Int × St := sNum [116] (r1 l)
def r3 (l : List UInt8) : List UInt8 × St := sTxt [102] (r2 l).2
def r4 (l : List UInt8) : St := sAsk (fromB (r3 l).1) (r3 l).2
def r5 (l : List UInt8) : Int × St := sNum [110] (r4 l)
def r6 (l : List UInt8) : St := sAsk (decide (1 ≤ (r5 l).1 ∧ (r5 l).1 ≤ 200)) (r5 l).2
def r7 (l : List UInt8) : List Rc × St := sRcs (r5 l).1.toNat (r6 l) []
def r8 (l : List UInt8) : List UInt8 × St := sTxt [100] (r7 l).2
def r9 (l : List UInt8) : St := sFixed [101] (r8 l).2
def r10 (l : List UInt8) : St := sTook 8 (takeHex (r9 l).1).2 (r9 l)
def r11 (l : List UInt8) : St := sFixed [10] (r10 l)
def r12 (l : List UInt8) : St := sAsk (r11 l).1.isEmpty (r11 l)
def rM (l : List UInt8) : Msg := ⟨(r2 l).1, ⟨(r3 l).1.toArray⟩, (r7 l).1, (r8 l).1⟩
/-- What the document's reader answers. -/
def refDec (l : List UInt8) : Msg × Int :=
  if (r12 l).2 ≠ 0 then (msg0, (r12 l).2)
  else if (takeHex (r9 l).1).1 ≠ crc (bodyOf true (rM l)) then (msg0, 33)
  else (rM l, 0)

/-! Behind a fault nothing moves. -/
theorem sAsk_st {ok : Bool} {s : St} (h : s.2 ≠ 0) : sAsk ok s = s := by unfold sAsk sFail; rw [if_neg h]; simp
theorem sFixed_st {c : List UInt8} {s : St} (h : s.2 ≠ 0) : sFixed c s = s := by unfold sFixed; rw [if_neg h]
theorem sTook_st {n z : Int} {s : St} (h : s.2 ≠ 0) : sTook n z s = s := by unfold sTook; rw [if_neg h]
theorem sNum_st {k : List UInt8} {s : St} (h : s.2 ≠ 0) : (sNum k s).2 = s := by unfold sNum; dsimp only; rw [sFixed_st h, sTook_st h]
theorem sTxt_st {k : List UInt8} {s : St} (h : s.2 ≠ 0) : (sTxt k s).2 = s := by unfold sTxt; dsimp only; rw [sFixed_st h, sTook_st h]
theorem sRcs_st {n : Nat} {s : St} {acc : List Rc} (h : s.2 ≠ 0) : sRcs n s acc = (acc, s) := by
  cases n with
  | zero => rfl
  | succ n => rw [sRcs, if_neg h]
theorem fin11 {l : List UInt8} (h : (r11 l).2 ≠ 0) : (r12 l).2 = (r11 l).2 := by rw [r12, sAsk_st h]
theorem fin10 {l : List UInt8} (h : (r10 l).2 ≠ 0) : (r12 l).2 = (r10 l).2 := by
  have e : r11 l = r10 l := sFixed_st h
  rw [fin11 (by rw [e]; exact h), e]
theorem fin9 {l : List UInt8} (h : (r9 l).2 ≠ 0) : (r12 l).2 = (r9 l).2 := by
  have e : r10 l = r9 l := sTook_st h
  rw [fin10 (by rw [e]; exact h), e]
theorem fin8 {l : List UInt8} (h : (r8 l).2.2 ≠ 0) : (r12 l).2 = (r8 l).2.2 := by
  have e : r9 l = (r8 l).2 := sFixed_st h
  rw [fin9 (by rw [e]; exact h), e]
theorem fin7 {l : List UInt8} (h : (r7 l).2.2 ≠ 0) : (r12 l).2 = (r7 l).2.2 := by
  have e : (r8 l).2 = (r7 l).2 := sTxt_st h
  rw [fin8 (by rw [e]; exact h), e]
theorem fin6 {l : List UInt8} (h : (r6 l).2 ≠ 0) : (r12 l).2 = (r6 l).2 := by
  have e : (r7 l).2 = r6 l := by rw [r7, sRcs_st h]
  rw [fin7 (by rw [e]; exact h), e]
theorem fin5 {l : List UInt8} (h : (r5 l).2.2 ≠ 0) : (r12 l).2 = (r5 l).2.2 := by
  have e : r6 l = (r5 l).2 := sAsk_st h
  rw [fin6 (by rw [e]; exact h), e]
theorem fin4 {l : List UInt8} (h : (r4 l).2 ≠ 0) : (r12 l).2 = (r4 l).2 := by
  have e : (r5 l).2 = r4 l := sNum_st h
  rw [fin5 (by rw [e]; exact h), e]
theorem fin3 {l : List UInt8} (h : (r3 l).2.2 ≠ 0) : (r12 l).2 = (r3 l).2.2 := by
  have e : r4 l = (r3 l).2 := sAsk_st h
  rw [fin4 (by rw [e]; exact h), e]
theorem fin2 {l : List UInt8} (h : (r2 l).2.2 ≠ 0) : (r12 l).2 = (r2 l).2.2 := by
  have e : (r3 l).2 = (r2 l).2 := sTxt_st h
  rw [fin3 (by rw [e]; exact h), e]
theorem ref_bad {l : List UInt8} {z : Int} (h : (r12 l).2 = z) (hz : z ≠ 0) : refDec l = (msg0, z) := by
  unfold refDec; rw [if_pos (by rw [h]; exact hz), h]

/-! Ahead of one each step is the program's. -/
theorem sFixed_0 (c r : List UInt8) : sFixed c (r, 0) = ((fixedF c r).2, (fixedF c r).1) := by unfold sFixed; rw [if_pos rfl]
theorem sTook_num (r : List UInt8) : sTook (takeNumber r).2.1 (takeNumber r).2.2 (r, 0) = ((numF r).2.2, (numF r).2.1) := by
  unfold sTook numF; rw [if_pos rfl]; split <;> rfl
theorem sTook_txt (r : List UInt8) : sTook (takeText r).2.1 (takeText r).2.2 (r, 0) = ((textF r).2.2, (textF r).2.1) := by
  unfold sTook textF; rw [if_pos rfl]; split <;> rfl
theorem sNum_no {k r : List UInt8} (h : (fixedF k r).1 ≠ 0) : (sNum k (r, 0)).2.2 = (fixedF k r).1 := by
  unfold sNum; dsimp only; rw [sFixed_0, sTook_st h]
theorem sNum_0 {k r : List UInt8} (h : (fixedF k r).1 = 0) : sNum k (r, 0) = ((takeNumber (fixedF k r).2).1, (numF (fixedF k r).2).2.2, (numF (fixedF k r).2).2.1) := by
  unfold sNum; rw [sFixed_0, h]; dsimp only; rw [sTook_num]
theorem sTxt_no {k r : List UInt8} (h : (fixedF k r).1 ≠ 0) : (sTxt k (r, 0)).2.2 = (fixedF k r).1 := by
  unfold sTxt; dsimp only; rw [sFixed_0, sTook_st h]
theorem sTxt_0 {k r : List UInt8} (h : (fixedF k r).1 = 0) : sTxt k (r, 0) = ((takeText (fixedF k r).2).1, (textF (fixedF k r).2).2.2, (textF (fixedF k r).2).2.1) := by
  unfold sTxt; rw [sFixed_0, h]; dsimp only; rw [sTook_txt]
theorem fixed_two (a b : List UInt8) : ∀ r, fixedF (a ++ b) r = if (fixedF a r).1 = 0 then fixedF b (fixedF a r).2 else fixedF a r := by
  induction a with
  | nil => intro r; simp [fixedF]
  | cons c a ih =>
    intro r
    cases r with
    | nil => simp [fixedF]
    | cons x r =>
      rw [List.cons_append, fixedF, fixedF]
      by_cases h : x = c
      · rw [if_pos h, if_pos h]; exact ih r
      · rw [if_neg h, if_neg h]; simp
/-- A recipient: the same fault, and the same recipient. -/
theorem sRc_0 (L : Nat) (r : List UInt8) : (sRc (r, 0)).2.2 = (rcF L r).2.1 ∧ ((rcF L r).2.1 = 0 → sRc (r, 0) = ((rcF L r).1, (rcF L r).2.2.1, 0)) := by
  by_cases h1 : (fixedF [114] r).1 = 0
  · have e1 : sFixed [114] (r, 0) = ((fixedF [114] r).2, 0) := by rw [sFixed_0, h1]
    generalize hF : fixedF [114] r = F at *
    obtain ⟨F1, F2⟩ := F
    dsimp only at h1 e1
    subst h1
    cases F2 with
    | nil =>
      have e2 : sMark (r, 0) = (0, [], 32) := by unfold sMark; rw [e1]; simp [sMk]
      have e3 : (sTxt [] (sMark (r, 0)).2).2 = ([], 32) := by rw [e2]; exact sTxt_st (by simp)
      have e4 : rcF L r = (rc0, 32, [], []) := by unfold rcF; rw [hF]; simp [markF]
      refine ⟨?_, fun h => ?_⟩
      · unfold sRc; dsimp only; rw [e3, sAsk_st (by simp), e4]
      · rw [e4] at h; exact absurd h (by simp)
    | cons c t =>
      by_cases hm : markB c = true
      · have e2 : sMark (r, 0) = (c, t, 0) := by unfold sMark; rw [e1]; simp [sMk, hm]
        have e3 : sTxt [] (sMark (r, 0)).2 = ((takeText t).1, (textF t).2.2, (textF t).2.1) := by
          rw [e2]; exact sTxt_0 (k := []) (r := t) rfl
        have hmk : markF L (c :: t) = (c, 0, t, [L - (c :: t).length]) := by show (if markB c = true then _ else _) = _; rw [if_pos hm]
        have g1 : (fixedF [114] r).1 = 0 := by rw [hF]
        have g2 : (markF L (fixedF [114] r).2).2.1 = 0 := by rw [hF, hmk]
        have g0 : (markF L (fixedF [114] r).2).2.2.1 = t := by rw [hF, hmk]
        have g5 : (markF L (fixedF [114] r).2).1 = c := by rw [hF, hmk]
        by_cases h3 : (textF t).2.1 = 0
        · have ht := (text_ok h3).1
          by_cases h4 : addrB (textF t).1 = true
          · have e4 := rcF_4 (L := L) g1 g2 (by rw [g0]; exact h3) (by rw [g0]; exact h4)
            rw [g0, g5] at e4
            have e5 : sRc (r, 0) = ((⟨(textF t).1.toArray⟩, c), (textF t).2.2, 0) := by
              unfold sRc; rw [e3, e2, ht]; unfold sAsk; rw [if_pos h4, h3]
            rw [e4, e5]
            exact ⟨rfl, fun _ => rfl⟩
          · have e4 := rcF_5 (L := L) g1 g2 (by rw [g0]; exact h3) (by rw [g0]; simpa using h4)
            rw [e4]
            refine ⟨?_, fun h => absurd h (by simp)⟩
            unfold sRc; rw [e3, ht]; unfold sAsk sFail; rw [if_neg h4, h3, if_pos rfl]
        · have e4 : (rcF L r).2.1 = (textF t).2.1 := by
            unfold rcF; rw [if_neg (by simp [g1]), if_neg (by simp [g2]), g0, if_pos h3]
          rw [e4]
          refine ⟨?_, fun h => absurd h h3⟩
          unfold sRc; dsimp only; rw [e3, sAsk_st h3]
      · have e2 : sMark (r, 0) = (c, t, 30) := by unfold sMark; rw [e1]; simp [sMk, hm]
        have e3 : (sTxt [] (sMark (r, 0)).2).2 = (t, 30) := by rw [e2]; exact sTxt_st (by simp)
        have hmk : markF L (c :: t) = (0, 30, c :: t, []) := by show (if markB c = true then _ else _) = _; rw [if_neg hm]
        have e4 : (rcF L r).2.1 = 30 := by unfold rcF; rw [hF, hmk]; simp
        rw [e4]
        refine ⟨?_, fun h => absurd h (by decide)⟩
        unfold sRc; dsimp only; rw [e3, sAsk_st (by simp)]
  · have e1 : sFixed [114] (r, 0) = ((fixedF [114] r).2, (fixedF [114] r).1) := sFixed_0 _ _
    have e2 : (sMark (r, 0)).2 = ((fixedF [114] r).2, (fixedF [114] r).1) := by unfold sMark sMk; rw [e1, if_neg h1]
    have e3 : (sTxt [] (sMark (r, 0)).2).2 = ((fixedF [114] r).2, (fixedF [114] r).1) := by rw [e2]; exact sTxt_st h1
    have e4 : (rcF L r).2.1 = (fixedF [114] r).1 := by unfold rcF; rw [if_pos h1]
    rw [e4]
    refine ⟨?_, fun h => absurd h h1⟩
    unfold sRc; dsimp only; rw [e3, sAsk_st h1]
theorem sRcs_0 (L : Nat) : ∀ (n : Nat) (r : List UInt8) (acc : List Rc) (mk : List Nat), (sRcs n (r, 0) acc).2.2 = (rcsF L n r acc mk).2.1 ∧ ((rcsF L n r acc mk).2.1 = 0 → sRcs n (r, 0) acc = ((rcsF L n r acc mk).1, (rcsF L n r acc mk).2.2.1, 0)) := by
  intro n
  induction n with
  | zero => intro r acc mk; exact ⟨rfl, fun _ => rfl⟩
  | succ n ih =>
    intro r acc mk
    obtain ⟨a1, a2⟩ := sRc_0 L r
    rw [sRcs, if_pos rfl, rcsF]
    by_cases h1 : (rcF L r).2.1 = 0
    · rw [if_neg (by simp [h1]), a2 h1]
      exact ih _ _ _
    · rw [if_pos h1]
      have e : (sRcs n (sRc (r, 0)).2 (acc ++ [(sRc (r, 0)).1])).2 = (sRc (r, 0)).2 := by rw [sRcs_st (by rw [a1]; exact h1)]
      rw [e]
      exact ⟨a1, fun h => absurd h h1⟩
end Go.Proofs.YthoeicidilnleaaDoor.Codec
