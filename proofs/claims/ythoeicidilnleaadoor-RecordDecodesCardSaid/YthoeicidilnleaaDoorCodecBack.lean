/-
  CODEC: what is laid down is read again; each beginning of it is too short: over the plain functions.
-/
import Derived.Test.YthoeicidilnleaaDoorCodecMore
namespace Go.Proofs.YthoeicidilnleaaDoor.Codec

/-- The number that digits have, behind a number. -/
def valFrom : List UInt8 → Int → Int
  | [], n => n
  | c :: t, n => valFrom t (10 * n + ((c.toNat : Int) - 48))
theorem valFrom_append (a b : List UInt8) : ∀ n, valFrom (a ++ b) n = valFrom b (valFrom a n) := by
  induction a with
  | nil => intro n; rfl
  | cons c t ih => intro n; exact ih _
def IsDigits (l : List UInt8) : Prop := ∀ c ∈ l, 48 ≤ c.toNat ∧ c.toNat ≤ 57

/-- Over digits the reader only counts on. -/
theorem take_digits (e d m : Int) (he : 58 ≤ e) (r : List UInt8) : ∀ (ds : List UInt8) (i : Nat) (n : Int), IsDigits ds → (i : Int) + ds.length ≤ d → (∀ j, j < ds.length → i + j = 1 → valFrom (ds.take j) n ≠ 0) →
    takeFrom e d m (ds ++ r) i n = takeFrom e d m r (i + ds.length) (valFrom ds n) := by
  intro ds
  induction ds with
  | nil => intro i n _ _ _; rfl
  | cons c t ih =>
    intro i n hd hl hz
    have hc := hd c (by simp)
    simp only [List.length_cons] at hl
    rw [List.cons_append, takeFrom, if_neg (by omega), if_neg]
    · rw [ih (i + 1) _ (fun x hx => hd x (by simp [hx])) (by omega) (fun j hj h1 => by
        have := hz (j + 1) (by simp; omega) (by omega)
        exact this)]
      simp only [List.length_cons]
      rw [show i + 1 + t.length = i + (t.length + 1) by omega]
      rfl
    · have h0 : i = 1 → n ≠ 0 := fun h => hz 0 (by simp) (by omega)
      rintro (h | h | h | ⟨h, h'⟩)
      · omega
      · omega
      · omega
      · exact h0 h h'

theorem dec_facts : ∀ u : Nat, IsDigits (Lib.decDigits u) ∧ valFrom (Lib.decDigits u) 0 = (u : Int) ∧ ∃ c t, Lib.decDigits u = c :: t ∧ (1 ≤ u → 48 < c.toNat) ∧ (u < 10 → t = []) := by
  intro u
  induction u using Nat.strongRecOn with
  | _ u ih =>
    rw [Lib.decDigits]
    split
    · rename_i h
      have hc : (UInt8.ofNat (48 + u)).toNat = 48 + u := by simp; omega
      refine ⟨fun c hc' => ?_, ?_, _, _, rfl, fun h1 => by rw [hc]; omega, fun _ => rfl⟩
      · rw [List.mem_singleton] at hc'; subst hc'; omega
      · simp only [valFrom]; omega
    · rename_i h
      have hc : (UInt8.ofNat (48 + u % 10)).toNat = 48 + u % 10 := by simp; omega
      obtain ⟨h1, h2, c, t, h3, h4, _⟩ := ih (u / 10) (by omega)
      refine ⟨fun x hx => ?_, ?_, c, t ++ [UInt8.ofNat (48 + u % 10)], by rw [h3]; rfl, fun _ => h4 (by omega), fun h => by omega⟩
      · rw [List.mem_append] at hx
        rcases hx with hx | hx
        · exact h1 x hx
        · rw [List.mem_singleton] at hx; subst hx; omega
      · rw [valFrom_append, h2]; simp only [valFrom]; omega

/-- What is laid down of a number, in front of anything. -/
theorem take_dec (e d m : Int) (he : 58 ≤ e) (u : Nat) (hl : ((Lib.decDigits u).length : Int) ≤ d) (k : Nat) (r : List UInt8) :
    takeFrom e d m ((Lib.decDigits u).take k ++ r) 0 0 = takeFrom e d m r ((Lib.decDigits u).take k).length (valFrom ((Lib.decDigits u).take k) 0) := by
  obtain ⟨h1, h2, c, t, h3, h4, h5⟩ := dec_facts u
  have := take_digits e d m he r ((Lib.decDigits u).take k) 0 0 (fun x hx => h1 x (List.mem_of_mem_take hx)) (by have := List.length_take_le' k (Lib.decDigits u); omega) (fun j hj hj1 => by
    obtain rfl : j = 1 := by omega
    rw [List.take_take, h3] at *
    have hk : 1 < k := by rw [List.length_take] at hj; omega
    have hu : 10 ≤ u := by
      rcases Nat.lt_or_ge u 10 with h | h
      · rw [h5 h] at hj; simp at hj; omega
      · exact h
    rw [Nat.min_eq_left (by omega)]
    have := h4 (by omega)
    simp [valFrom]; omega)
  rw [Nat.zero_add] at this
  exact this

theorem dec_len {u : Nat} : 1 ≤ (Lib.decDigits u).length := by obtain ⟨_, _, c, t, h, _⟩ := dec_facts u; rw [h]; simp
theorem take_whole (e d m : Int) (c : UInt8) (hce : (c.toNat : Int) = e) (he : 58 ≤ e) (u : Nat) (hl : ((Lib.decDigits u).length : Int) ≤ d) (hm : (u : Int) ≤ m) (r : List UInt8) :
    takeFrom e d m (Lib.decDigits u ++ c :: r) 0 0 = ((u : Int), ((Lib.decDigits u).length : Int) + 1, 0) := by
  have := take_dec e d m he u hl (Lib.decDigits u).length (c :: r)
  rw [List.take_length, (dec_facts u).2.1] at this
  rw [this, takeFrom, if_pos ⟨hce, by have := dec_len (u := u); omega⟩, if_neg (by omega)]
theorem take_part (e d m : Int) (he : 58 ≤ e) (u : Nat) (hl : ((Lib.decDigits u).length : Int) ≤ d) (k : Nat) : takeFrom e d m ((Lib.decDigits u).take k) 0 0 = (0, 0, 20) := by
  have := take_dec e d m he u hl k []
  rw [List.append_nil] at this
  rw [this]; rfl

theorem dec_16 {n : Nat} (h : n ≤ 9007199254740992) : ((Lib.decDigits n).length : Int) ≤ 16 := by
  have e : (10 : Nat) ^ (15 + 1) = 10000000000000000 := by decide
  have := decDigits_le 15 n (by omega)
  omega
theorem dec_7 {n : Nat} (h : n ≤ 1048576) : ((Lib.decDigits n).length : Int) ≤ 7 := by
  have e : (10 : Nat) ^ (6 + 1) = 10000000 := by decide
  have := decDigits_le 6 n (by omega)
  omega

/-! ### What is laid down is read again; a beginning is too short -/
theorem number_back {n : Nat} (h : n ≤ 9007199254740992) (r : List UInt8) : takeNumber (numBytes n ++ r) = ((n : Int), ((numBytes n).length : Int), 0) := by
  unfold takeNumber numBytes
  rw [List.append_assoc]
  have := take_whole 59 16 9007199254740992 59 (by decide) (by omega) n (dec_16 h) (by omega) r
  rw [List.length_append]
  simpa using this
theorem number_torn {n : Nat} (h : n ≤ 9007199254740992) {k : Nat} (hk : k < (numBytes n).length) : takeNumber ((numBytes n).take k) = (0, 0, 20) := by
  unfold numBytes at hk ⊢
  rw [List.length_append, List.length_singleton] at hk
  rw [List.take_append_of_le_length (by omega)]
  exact take_part 59 16 9007199254740992 (by omega) n (dec_16 h) k

theorem text_take {s : List UInt8} (h : s.length ≤ 1048576) (r : List UInt8) : takeFrom 58 7 1048576 (Lib.decDigits s.length ++ 58 :: r) 0 0 = ((s.length : Int), ((Lib.decDigits s.length).length : Int) + 1, 0) :=
  take_whole 58 7 1048576 58 (by decide) (by omega) s.length (dec_7 h) (by omega) r
theorem text_len (s : List UInt8) : (textBytes s).length = (Lib.decDigits s.length).length + s.length + 2 := by unfold textBytes; simp; omega
theorem text_back {s : List UInt8} (h : s.length ≤ 1048576) (r : List UInt8) : takeText (textBytes s ++ r) = (s, ((textBytes s).length : Int), 0) := by
  have e : textBytes s ++ r = Lib.decDigits s.length ++ 58 :: (s ++ 44 :: r) := by unfold textBytes; simp
  have ht := text_take h (s ++ 44 :: r)
  have hl : (textBytes s ++ r).length = (Lib.decDigits s.length).length + s.length + 2 + r.length := by rw [List.length_append, text_len]
  rw [text_len]
  unfold takeText
  rw [e] at hl ⊢
  rw [ht]
  generalize (Lib.decDigits s.length) = D at *
  have e1 : ((D.length : Int) + 1 + (s.length : Int)).toNat = D.length + 1 + s.length := by omega
  have e2 : ((D.length : Int) + 1).toNat = D.length + 1 := by omega
  have e3 : ((s.length : Int)).toNat = s.length := by omega
  have ed : (D ++ 58 :: (s ++ 44 :: r)).drop (D.length + 1) = s ++ 44 :: r := by
    rw [show D ++ 58 :: (s ++ 44 :: r) = (D ++ [58]) ++ (s ++ 44 :: r) by simp]
    exact List.drop_left' (by simp)
  have eg : (D ++ 58 :: (s ++ 44 :: r)).getD (D.length + 1 + s.length) 0 = 44 := by
    rw [List.getD_eq_getElem?_getD, ← List.getElem?_drop, ed]
    simp
  dsimp only
  rw [if_neg (by simp), if_neg (by rw [hl]; omega)]
  rw [e1, e2, e3, if_neg (by rw [eg]; simp), ed, List.take_left' rfl]
  simp only [Prod.mk.injEq, true_and, and_true]
  omega
theorem text_torn {s : List UInt8} (h : s.length ≤ 1048576) {k : Nat} (hk : k < (textBytes s).length) : (takeText ((textBytes s).take k)).2.2 = 20 := by
  rw [text_len] at hk
  by_cases hd : k ≤ (Lib.decDigits s.length).length
  · have e : (textBytes s).take k = (Lib.decDigits s.length).take k := by unfold textBytes; rw [List.take_append_of_le_length hd]
    have := take_part 58 7 1048576 (by omega) s.length (dec_7 h) k
    rw [e]
    unfold takeText
    rw [this]
    simp
  · have e : (textBytes s).take k = Lib.decDigits s.length ++ 58 :: (s ++ [44]).take (k - (Lib.decDigits s.length).length - 1) := by
      unfold textBytes
      rw [List.take_append, List.take_of_length_le (by omega)]
      congr 1
      obtain ⟨j, hj⟩ : ∃ j, k - (Lib.decDigits s.length).length = j + 1 := ⟨k - (Lib.decDigits s.length).length - 1, by omega⟩
      rw [hj]; rfl
    have hl : ((textBytes s).take k).length = k := by rw [List.length_take, text_len]; omega
    have ht := text_take h ((s ++ [44]).take (k - (Lib.decDigits s.length).length - 1))
    rw [← e] at ht
    unfold takeText
    rw [ht, hl, if_neg (by simp), if_pos (by dsimp only; omega)]
end Go.Proofs.YthoeicidilnleaaDoor.Codec
