/-
  RECORD: how a whole record is read, plainly.
-/
import Derived.Test.YthoeicidilnleaaDoorRecordRd7
namespace Go.Proofs.YthoeicidilnleaaDoor.Codec

theorem fixedF_le (s : List UInt8) : ∀ r, (fixedF s r).2.length ≤ r.length := by
  induction s with
  | nil => intro r; exact Nat.le_refl _
  | cons c s ih =>
    intro r
    cases r with
    | nil => exact Nat.le_refl _
    | cons x r =>
      rw [fixedF]
      split
      · exact Nat.le_trans (ih r) (by simp)
      · exact Nat.le_refl _
theorem numF_le (r : List UInt8) : (numF r).2.2.length ≤ r.length := by unfold numF; split <;> simp
theorem textF_le (r : List UInt8) : (textF r).2.2.length ≤ r.length := by unfold textF; split <;> simp
theorem markF_le (L : Nat) (r : List UInt8) (h : r.length ≤ L) : (markF L r).2.2.1.length ≤ r.length ∧ ∀ m ∈ (markF L r).2.2.2, m + (markF L r).2.2.1.length < L := by
  cases r with
  | nil => simp [markF]
  | cons c r =>
    simp only [markF]
    split
    · simp at h ⊢; omega
    · simp
theorem rcF_le (L : Nat) (r : List UInt8) (h : r.length ≤ L) : (rcF L r).2.2.1.length ≤ r.length ∧ ∀ m ∈ (rcF L r).2.2.2, m + (rcF L r).2.2.1.length < L := by
  have h1 := fixedF_le [114] r
  have h2 := markF_le L (fixedF [114] r).2 (by omega)
  have h3 := textF_le (markF L (fixedF [114] r).2).2.2.1
  unfold rcF
  generalize textF (markF L (fixedF [114] r).2).2.2.1 = T at *
  generalize markF L (fixedF [114] r).2 = M at *
  generalize fixedF [114] r = F at *
  have hm : ∀ m ∈ M.2.2.2, m + T.2.2.length < L := fun m hm => by have := h2.2 m hm; omega
  split
  · exact ⟨h1, fun m hm => by cases hm⟩
  · split
    · exact ⟨by dsimp only; omega, h2.2⟩
    · split
      · exact ⟨by dsimp only; omega, hm⟩
      · split <;> exact ⟨by dsimp only; omega, hm⟩
theorem rcsF_le (L : Nat) : ∀ (n : Nat) (r : List UInt8) (acc : List Rc) (mk : List Nat), r.length ≤ L → (∀ m ∈ mk, m + r.length < L) →
    (rcsF L n r acc mk).2.2.1.length ≤ r.length ∧ (∀ m ∈ (rcsF L n r acc mk).2.2.2, m + (rcsF L n r acc mk).2.2.1.length < L) ∧ (rcsF L n r acc mk).2.2.2.length ≤ mk.length + n := by
  intro n
  induction n with
  | zero => intro r acc mk _ hm; exact ⟨Nat.le_refl _, hm, Nat.le_refl _⟩
  | succ n ih =>
    intro r acc mk hr hm
    have h1 := rcF_le L r hr
    have h2 := rcF_marks L r
    rw [rcsF]
    generalize rcF L r = R at *
    have hm2 : ∀ m ∈ mk ++ R.2.2.2, m + R.2.2.1.length < L := fun m hx => by
      rw [List.mem_append] at hx
      rcases hx with hx | hx
      · have := hm m hx; omega
      · exact h1.2 m hx
    split
    · exact ⟨h1.1, hm2, by rw [List.length_append]; omega⟩
    · have := ih R.2.2.1 (acc ++ [R.1]) (mk ++ R.2.2.2) (by omega) hm2
      rw [List.length_append] at this
      exact ⟨by omega, this.2.1, by omega⟩
theorem rcptsF_le (L : Nat) (r : List UInt8) (h : r.length ≤ L) : (rcptsF L r).2.2.1.length ≤ r.length ∧ (∀ m ∈ (rcptsF L r).2.2.2, m + (rcptsF L r).2.2.1.length < L) ∧ (rcptsF L r).2.2.2.length ≤ 200 := by
  have h1 := fixedF_le [110] r
  have h2 := numF_le (fixedF [110] r).2
  unfold rcptsF
  split
  · exact ⟨h1, (fun m hm => by cases hm), by simp⟩
  · split
    · exact ⟨by dsimp only; omega, (fun m hm => by cases hm), by simp⟩
    · split
      · rename_i hn
        have := rcsF_le L (numF (fixedF [110] r).2).1.toNat (numF (fixedF [110] r).2).2.2 [] [] (by omega) (fun m hm => by cases hm)
        refine ⟨by omega, this.2.1, ?_⟩
        have h3 := this.2.2
        simp only [List.length_nil] at h3
        omega
      · exact ⟨by dsimp only; omega, (fun m hm => by cases hm), by simp⟩
theorem fromF_le (r : List UInt8) : (fromF r).2.2.length ≤ r.length := by
  have h1 := fixedF_le [102] r
  have h2 := textF_le (fixedF [102] r).2
  unfold fromF
  split
  · exact h1
  · split
    · dsimp only; omega
    · split
      · omega
      · dsimp only; omega

def dF (l : List UInt8) := fixedF [87, 49, 59, 116] l
def dN (l : List UInt8) := numF (dF l).2
def dS (l : List UInt8) := fromF (dN l).2.2
def dR (l : List UInt8) := rcptsF l.length (dS l).2.2
def dD (l : List UInt8) := fixedF [100] (dR l).2.2.1
def dT (l : List UInt8) := textF (dD l).2
def dE (l : List UInt8) := endF l (dT l).2.2 (dR l).2.2.2
def msg0 : Msg := ⟨0, ⟨#[]⟩, [], []⟩
/-- Of any bytes: the message, or the fault. -/
def decodeF (l : List UInt8) : Msg × Int :=
  if (dF l).1 ≠ 0 then (msg0, (dF l).1)
  else if (dN l).2.1 ≠ 0 then (msg0, (dN l).2.1)
  else if (dS l).2.1 ≠ 0 then (msg0, (dS l).2.1)
  else if (dR l).2.1 ≠ 0 then (msg0, (dR l).2.1)
  else if (dD l).1 ≠ 0 then (msg0, (dD l).1)
  else if (dT l).2.1 ≠ 0 then (msg0, (dT l).2.1)
  else if dE l ≠ 0 then (msg0, dE l)
  else (⟨(dN l).1, ⟨(dS l).1.toArray⟩, (dR l).1, (dT l).1⟩, 0)
theorem d_le (l : List UInt8) : (∀ m ∈ (dR l).2.2.2, m + (dT l).2.2.length < l.length) ∧ (dR l).2.2.2.length ≤ 200 := by
  have a1 : (dF l).2.length ≤ l.length := fixedF_le _ l
  have a2 : (dN l).2.2.length ≤ (dF l).2.length := numF_le _
  have a3 : (dS l).2.2.length ≤ (dN l).2.2.length := fromF_le _
  have a4 : (dR l).2.2.1.length ≤ (dS l).2.2.length ∧ (∀ m ∈ (dR l).2.2.2, m + (dR l).2.2.1.length < l.length) ∧ (dR l).2.2.2.length ≤ 200 := rcptsF_le l.length (dS l).2.2 (by omega)
  have a5 : (dD l).2.length ≤ (dR l).2.2.1.length := fixedF_le _ _
  have a6 : (dT l).2.2.length ≤ (dD l).2.length := textF_le _
  exact ⟨fun m hm => by have := a4.2.1 m hm; omega, a4.2.2⟩
end Go.Proofs.YthoeicidilnleaaDoor.Codec
