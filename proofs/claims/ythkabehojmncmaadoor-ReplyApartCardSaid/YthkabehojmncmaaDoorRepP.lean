/-
  REPLY, plain: what a reply is, its bytes, what is read of bytes; what is printed is read again.
-/
import Derived.Test.YthkabehojmncmaaDoorStrBase
import Derived.Lib.IndexLaws
namespace Go.Proofs.YthkabehojmncmaaDoor.Reply
open Go.RowKit Base
/-- A code may be. -/
def codeB (c : Int) : Bool := decide (200 ≤ c ∧ c ≤ 599 ∧ c / 10 % 10 ≤ 5)
def okC (c : UInt8) : Bool := decide (c.toNat = 9 ∨ (32 ≤ c.toNat ∧ c.toNat ≤ 126))
def textB (l : List UInt8) : Bool := decide (l.length ≤ 506) && l.all okC
def rightB (c : Int) (ls : List (List UInt8)) : Bool := codeB c && decide (1 ≤ ls.length ∧ ls.length ≤ 50) && ls.all textB
theorem codeB_rng {c : Int} (h : codeB c = true) : 200 ≤ c ∧ c ≤ 599 := by
  unfold codeB at h
  have := of_decide_eq_true h
  exact ⟨this.1, this.2.1⟩
/-- The three digits. -/
def digs (n : Nat) : List UInt8 := [UInt8.ofNat (48 + n / 100), UInt8.ofNat (48 + n / 10 % 10), UInt8.ofNat (48 + n % 10)]
def markB (fin : Bool) : UInt8 := if fin = true then 32 else 45
def lineB (n : Nat) (fin : Bool) (x : List UInt8) : List UInt8 := digs n ++ markB fin :: (x ++ [13, 10])
def outK (n : Nat) (ls : List (List UInt8)) : Nat → List UInt8
  | 0 => []
  | k + 1 => outK n ls k ++ lineB n (decide (k + 1 = ls.length)) (ls.getD k [])
def printB (n : Nat) (ls : List (List UInt8)) : List UInt8 := outK n ls ls.length
theorem lineB_len (n : Nat) (fin : Bool) (x : List UInt8) : (lineB n fin x).length = x.length + 6 := by simp [lineB, digs]
theorem textB_len {l : List UInt8} (h : textB l = true) : l.length ≤ 506 := by
  unfold textB at h
  rw [Bool.and_eq_true] at h
  exact of_decide_eq_true h.1
theorem all_get {ls : List (List UInt8)} (h : ls.all textB = true) (k : Nat) : textB (ls.getD k []) = true := by
  rw [List.getD_eq_getElem?_getD]
  cases hk : ls[k]? with
  | none => decide
  | some x => exact List.all_eq_true.1 h x (List.mem_of_getElem? hk)
theorem outK_len (n : Nat) {ls : List (List UInt8)} (h : ls.all textB = true) : ∀ k, (outK n ls k).length ≤ 512 * k
  | 0 => by simp [outK]
  | k + 1 => by
    have := outK_len n h k
    have h2 := textB_len (all_get h k)
    rw [outK, List.length_append, lineB_len]
    omega
/-! ### Reading -/
def digC (c : UInt8) : Bool := decide (48 ≤ c.toNat ∧ c.toNat ≤ 57)
def num3 (b : List UInt8) : Nat := 100 * ((b.getD 0 0).toNat - 48) + 10 * ((b.getD 1 0).toNat - 48) + ((b.getD 2 0).toNat - 48)
def textR (b : List UInt8) : List UInt8 := (b.take (b.length - 2)).drop 4
def endsB (b : List UInt8) : Bool := decide (5 ≤ b.length) && (decide ((b.getD (b.length - 1) 0).toNat = 10) && decide ((b.getD (b.length - 2) 0).toNat = 13))
def digs3 (b : List UInt8) : Bool := digC (b.getD 0 0) && (digC (b.getD 1 0) && digC (b.getD 2 0))
def sepB (c : UInt8) : Bool := decide (c.toNat = 45 ∨ c.toNat = 32)
def lineR (b : List UInt8) : Option (Nat × Bool × List UInt8) :=
  if endsB b && (digs3 b && codeB (num3 b)) then
    if b.length = 5 then some (num3 b, false, [])
    else if textB (textR b) && sepB (b.getD 3 0) then some (num3 b, decide ((b.getD 3 0).toNat = 45), textR b) else none
  else none
/-- Where the first byte 10 stands within the first f bytes. -/
def firstT : List UInt8 → Nat → Option Nat
  | _, 0 => none
  | [], _ + 1 => none
  | x :: r, f + 1 => if x.toNat = 10 then some 0 else (firstT r f).map (· + 1)
abbrev Res := Nat × List (List UInt8) × Nat × Nat
def readK : Nat → List UInt8 → Nat → Nat → List (List UInt8) → Res
  | 0, _, _, _, _ => (0, [], 0, 142)
  | f + 1, l, at_, c, ls =>
    match firstT l 512 with
    | none => (0, [], 0, if 512 ≤ l.length then 142 else 140)
    | some i =>
      match lineR (l.take (i + 1)) with
      | none => (0, [], 0, 141)
      | some p =>
        if ls ≠ [] ∧ p.1 ≠ c then (0, [], 0, 141)
        else if ls.length = 50 then (0, [], 0, 142)
        else if p.2.1 = true then readK f (l.drop (i + 1)) (at_ + i + 1) p.1 (ls ++ [p.2.2])
        else (p.1, ls ++ [p.2.2], at_ + i + 1, 0)
def readR (l : List UInt8) : Res := readK 51 l 0 0 []
theorem firstT_lt : ∀ {l : List UInt8} {f i : Nat}, firstT l f = some i → i < l.length ∧ i < f
  | l, 0, i, h => by cases l <;> cases h
  | [], f + 1, i, h => by cases h
  | x :: r, f + 1, i, h => by
    rw [firstT] at h
    split at h
    · cases h; simp
    · cases hr : firstT r f with
      | none => rw [hr] at h; cases h
      | some j =>
        rw [hr] at h
        have := firstT_lt hr
        simp at h
        simp; omega
theorem firstT_idx : ∀ (l : List UInt8) (f : Nat), Lib.indexByte (l.take f) 10 = match firstT l f with | some i => (i : Int) | none => -1
  | l, 0 => by cases l <;> rfl
  | [], f + 1 => rfl
  | x :: r, f + 1 => by
    have ih := firstT_idx r f
    rw [List.take_succ_cons, Lib.indexByte, firstT]
    by_cases hx : x.toNat = 10
    · have : x = 10 := UInt8.toNat_inj.1 hx
      subst this
      simp
    · have h1 : ¬ x = 10 := fun e => hx (by rw [e]; rfl)
      rw [if_neg (by simpa using h1), if_neg hx, ih]
      cases firstT r f with
      | none => simp
      | some j => simp <;> omega
/-! ### What is printed is read again -/
def prI (n N : Nat) : Nat → List (List UInt8) → List UInt8
  | _, [] => []
  | i, x :: r => lineB n (decide (i + 1 = N)) x ++ prI n N (i + 1) r
theorem out_pr (n : Nat) (ls : List (List UInt8)) : ∀ k, k ≤ ls.length → outK n ls k ++ prI n ls.length k (ls.drop k) = prI n ls.length 0 ls
  | 0, _ => by simp [outK]
  | k + 1, h => by
    rw [← out_pr n ls k (by omega), outK, List.append_assoc]
    congr 1
    rw [List.drop_eq_getElem_cons (show k < ls.length by omega), prI]
    simp [List.getD, List.getElem?_eq_getElem (show k < ls.length by omega)]
theorem print_pr (n : Nat) (ls : List (List UInt8)) : printB n ls = prI n ls.length 0 ls := by
  rw [← out_pr n ls ls.length (Nat.le_refl _), List.drop_length, prI, List.append_nil]; rfl
theorem firstT_at : ∀ {p : List UInt8} {r : List UInt8} {f : Nat}, (∀ c ∈ p, c.toNat ≠ 10) → p.length < f → firstT (p ++ 10 :: r) f = some p.length
  | [], r, f + 1, _, _ => by simp [firstT]
  | x :: p, r, f + 1, h, hl => by
    have ih := firstT_at (p := p) (r := r) (f := f) (fun c hc => h c (List.mem_cons_of_mem _ hc)) (by simp at hl; omega)
    rw [List.cons_append, firstT, if_neg (h x List.mem_cons_self), ih]
    rfl
  | _, _, 0, _, hl => by omega
theorem firstT_none : ∀ {p : List UInt8} {f : Nat}, (∀ c ∈ p, c.toNat ≠ 10) → firstT p f = none
  | l, 0, _ => by cases l <;> rfl
  | [], f + 1, _ => rfl
  | x :: p, f + 1, h => by rw [firstT, if_neg (h x List.mem_cons_self), firstT_none fun c hc => h c (List.mem_cons_of_mem _ hc)]; rfl
theorem ofNat_dig (k : Nat) (h : k ≤ 9) : (UInt8.ofNat (48 + k)).toNat = 48 + k := by
  have : (UInt8.ofNat (48 + k)).toNat = (48 + k) % 256 := by simp
  rw [this]; omega
/-- A line without its last byte. -/
def lineC (n : Nat) (fin : Bool) (x : List UInt8) : List UInt8 := digs n ++ markB fin :: (x ++ [13])
theorem lineB_C (n : Nat) (fin : Bool) (x : List UInt8) : lineB n fin x = lineC n fin x ++ [10] := by simp [lineB, lineC]
theorem lineC_len (n : Nat) (fin : Bool) (x : List UInt8) : (lineC n fin x).length = x.length + 5 := by simp [lineC, digs]
theorem lineC_no {n : Nat} {fin : Bool} {x : List UInt8} (hn : n ≤ 999) (hx : textB x = true) : ∀ c ∈ lineC n fin x, c.toNat ≠ 10 := by
  have hx2 : x.all okC = true := by unfold textB at hx; rw [Bool.and_eq_true] at hx; exact hx.2
  intro c hc
  unfold lineC digs at hc
  simp only [List.mem_append, List.mem_cons, List.not_mem_nil, or_false] at hc
  rcases hc with (h | h | h) | h | h | h
  · rw [h, ofNat_dig _ (by omega)]; omega
  · rw [h, ofNat_dig _ (by omega)]; omega
  · rw [h, ofNat_dig _ (by omega)]; omega
  · rw [h]; cases fin <;> decide
  · have := List.all_eq_true.1 hx2 c h
    unfold okC at this
    have := of_decide_eq_true this
    omega
  · rw [h]; decide
theorem lineR_B {n : Nat} {fin : Bool} {x : List UInt8} (hc : codeB n = true) (hx : textB x = true) : lineR (lineB n fin x) = some (n, !fin, x) := by
  have hr := codeB_rng hc
  have hl := lineB_len n fin x
  have g0 : (lineB n fin x).getD 0 0 = UInt8.ofNat (48 + n / 100) := rfl
  have g1 : (lineB n fin x).getD 1 0 = UInt8.ofNat (48 + n / 10 % 10) := rfl
  have g2 : (lineB n fin x).getD 2 0 = UInt8.ofNat (48 + n % 10) := rfl
  have g3 : (lineB n fin x).getD 3 0 = markB fin := rfl
  have e1 : (lineB n fin x).getD ((lineB n fin x).length - 1) 0 = 10 := by
    rw [hl, show lineB n fin x = (digs n ++ markB fin :: (x ++ [13])) ++ [10] by simp [lineB], List.getD_eq_getElem?_getD, List.getElem?_append_right (by simp [digs])]
    simp [digs]
  have e2 : (lineB n fin x).getD ((lineB n fin x).length - 2) 0 = 13 := by
    rw [hl, show lineB n fin x = (digs n ++ markB fin :: x) ++ [13, 10] by simp [lineB], List.getD_eq_getElem?_getD, List.getElem?_append_right (by simp [digs])]
    simp [digs]
  have ht : textR (lineB n fin x) = x := by
    unfold textR
    rw [hl, show x.length + 6 - 2 = (digs n ++ markB fin :: x).length by simp [digs], show lineB n fin x = (digs n ++ markB fin :: x) ++ [13, 10] by simp [lineB], List.take_left]
    simp [digs]
  have hnum : num3 (lineB n fin x) = n := by
    unfold num3
    rw [g0, g1, g2, ofNat_dig _ (by omega), ofNat_dig _ (by omega), ofNat_dig _ (by omega)]
    omega
  have hd : digs3 (lineB n fin x) = true := by
    unfold digs3 digC
    rw [g0, g1, g2, ofNat_dig _ (by omega), ofNat_dig _ (by omega), ofNat_dig _ (by omega)]
    simp; omega
  have he : endsB (lineB n fin x) = true := by
    unfold endsB
    rw [e1, e2, hl]
    simp
  unfold lineR
  rw [he, hd, hnum, hc, ht, hx, g3, if_pos (by rfl), if_neg (by omega), if_pos (by cases fin <;> rfl)]
  cases fin <;> rfl
theorem back_step {n : Nat} {fin : Bool} {x r : List UInt8} (hc : codeB n = true) (hx : textB x = true) (f at_ c : Nat) (ls : List (List UInt8)) (hk : ls = [] ∨ c = n) (h50 : ls.length ≠ 50) :
    readK (f + 1) (lineB n fin x ++ r) at_ c ls = if fin = true then (n, ls ++ [x], at_ + (lineB n fin x).length, 0) else readK f r (at_ + (lineB n fin x).length) n (ls ++ [x]) := by
  have hr := codeB_rng hc
  have hxl := textB_len hx
  have hcl := lineC_len n fin x
  have hbl := lineB_len n fin x
  have h1 : firstT (lineB n fin x ++ r) 512 = some (lineC n fin x).length := by
    rw [lineB_C, List.append_assoc]
    exact firstT_at (lineC_no (by omega) hx) (by omega)
  have h2 : (lineB n fin x ++ r).take ((lineC n fin x).length + 1) = lineB n fin x := by
    rw [show (lineC n fin x).length + 1 = (lineB n fin x).length by omega, List.take_left]
  have h3 : (lineB n fin x ++ r).drop ((lineC n fin x).length + 1) = r := by
    rw [show (lineC n fin x).length + 1 = (lineB n fin x).length by omega, List.drop_left]
  have h4 : at_ + (lineC n fin x).length + 1 = at_ + (lineB n fin x).length := by omega
  rw [readK, h1]
  dsimp only
  rw [h2, h3, h4, lineR_B hc hx]
  dsimp only
  rw [if_neg (fun h => by rcases hk with rfl | rfl <;> simp at h), if_neg h50]
  cases fin <;> rfl
theorem back_all {n N : Nat} (hc : codeB n = true) (hN : N ≤ 50) (more : List UInt8) : ∀ (r : List (List UInt8)) (i at_ c : Nat) (acc : List (List UInt8)), r.all textB = true → acc.length = i → i + r.length = N → r ≠ [] → (acc = [] ∨ c = n) →
    readK (51 - i) (prI n N i r ++ more) at_ c acc = (n, acc ++ r, at_ + (prI n N i r).length, 0)
  | [], _, _, _, _, _, _, _, h, _ => (h rfl).elim
  | x :: r, i, at_, c, acc, hall, hi, hl, _, hk => by
    have hx : textB x = true := List.all_eq_true.1 hall x List.mem_cons_self
    have hr : r.all textB = true := List.all_eq_true.2 fun y hy => List.all_eq_true.1 hall y (List.mem_cons_of_mem _ hy)
    simp only [List.length_cons] at hl
    rw [show 51 - i = (50 - i) + 1 by omega, prI, List.append_assoc, back_step hc hx _ _ _ _ hk (by omega)]
    by_cases hf : i + 1 = N
    · have : r = [] := List.eq_nil_of_length_eq_zero (by omega)
      subst this
      rw [if_pos (by simpa using hf)]
      simp [prI]
    · rw [if_neg (by simpa using hf), show 50 - i = 51 - (i + 1) by omega,
        back_all hc hN more r (i + 1) _ n (acc ++ [x]) hr (by simp; omega) (by omega) (fun h => by subst h; simp at hl; omega) (Or.inr rfl)]
      simp; omega
theorem right_parts {c : Int} {ls : List (List UInt8)} (h : rightB c ls = true) : codeB c = true ∧ 1 ≤ ls.length ∧ ls.length ≤ 50 ∧ ls.all textB = true := by
  unfold rightB at h
  rw [Bool.and_eq_true, Bool.and_eq_true] at h
  have := of_decide_eq_true h.1.2
  exact ⟨h.1.1, this.1, this.2, h.2⟩
/-- What is printed is read again, whatever stands behind it. -/
theorem back {n : Nat} {ls : List (List UInt8)} (h : rightB n ls = true) (more : List UInt8) : readR (printB n ls ++ more) = (n, ls, (printB n ls).length, 0) := by
  obtain ⟨h1, h2, h3, h4⟩ := right_parts h
  have := back_all h1 h3 more ls 0 0 0 [] h4 rfl (by omega) (fun e => by subst e; simp at h2) (Or.inl rfl)
  rw [print_pr]
  simpa [readR] using this
theorem torn_all {n N : Nat} (hc : codeB n = true) (hN : N ≤ 50) : ∀ (r : List (List UInt8)) (i at_ c : Nat) (acc : List (List UInt8)) (cut : Nat), r.all textB = true → acc.length = i → i + r.length = N → (acc = [] ∨ c = n) → cut < (prI n N i r).length →
    readK (51 - i) ((prI n N i r).take cut) at_ c acc = (0, [], 0, 140)
  | [], i, _, _, _, cut, _, _, _, _, h => by simp [prI] at h
  | x :: r, i, at_, c, acc, cut, hall, hi, hl, hk, hcut => by
    have hx : textB x = true := List.all_eq_true.1 hall x List.mem_cons_self
    have hr : r.all textB = true := List.all_eq_true.2 fun y hy => List.all_eq_true.1 hall y (List.mem_cons_of_mem _ hy)
    have hrg := codeB_rng hc
    have hxl := textB_len hx
    simp only [List.length_cons] at hl
    have hbl := lineB_len n (decide (i + 1 = N)) x
    have hcl := lineC_len n (decide (i + 1 = N)) x
    rw [prI, List.length_append] at hcut
    rw [show 51 - i = (50 - i) + 1 by omega, prI]
    by_cases hs : cut < (lineB n (decide (i + 1 = N)) x).length
    · have ht : (lineB n (decide (i + 1 = N)) x ++ prI n N (i + 1) r).take cut = (lineC n (decide (i + 1 = N)) x).take cut := by
        rw [lineB_C, List.append_assoc, List.take_append_of_le_length (by omega)]
      rw [ht, readK, firstT_none fun y hy => lineC_no (by omega) hx y (List.mem_of_mem_take hy)]
      dsimp only
      rw [if_neg (by simp; omega)]
    · obtain ⟨k, rfl⟩ : ∃ k, cut = (lineB n (decide (i + 1 = N)) x).length + k := ⟨cut - (lineB n (decide (i + 1 = N)) x).length, by omega⟩
      rw [List.take_length_add_append, back_step hc hx _ _ _ _ hk (by omega)]
      by_cases hf : i + 1 = N
      · have : r = [] := List.eq_nil_of_length_eq_zero (by omega)
        subst this
        simp only [prI, List.length_nil] at hcut
        omega
      · rw [if_neg (by simpa using hf), show 50 - i = 51 - (i + 1) by omega]
        exact torn_all hc hN r (i + 1) _ n (acc ++ [x]) k hr (by simp; omega) (by omega) (Or.inr rfl) (by omega)
/-- Each beginning of it that is not all of it is too short. -/
theorem torn {n : Nat} {ls : List (List UInt8)} (h : rightB n ls = true) {cut : Nat} (hc : cut < (printB n ls).length) : readR ((printB n ls).take cut) = (0, [], 0, 140) := by
  obtain ⟨h1, h2, h3, h4⟩ := right_parts h
  rw [print_pr] at hc ⊢
  exact torn_all h1 h3 ls 0 0 0 [] cut h4 rfl (by omega) (Or.inl rfl) hc
theorem lineR_ok {b : List UInt8} {p : Nat × Bool × List UInt8} (h : lineR b = some p) : codeB p.1 = true ∧ textB p.2.2 = true := by
  unfold lineR at h
  split at h
  · rename_i h1
    rw [Bool.and_eq_true, Bool.and_eq_true] at h1
    split at h
    · cases h; exact ⟨h1.2.2, rfl⟩
    · split at h
      · rename_i h3
        rw [Bool.and_eq_true] at h3
        cases h; exact ⟨h1.2.2, h3.1⟩
      · cases h
  · cases h
theorem read_ok : ∀ (f : Nat) (l : List UInt8) (at_ c : Nat) (ls : List (List UInt8)) {c' : Nat} {ls' : List (List UInt8)} {n : Nat}, ls.length ≤ 50 → ls.all textB = true → readK f l at_ c ls = (c', ls', n, 0) →
    rightB c' ls' = true ∧ at_ + 1 ≤ n ∧ n ≤ at_ + l.length
  | 0, _, _, _, _, _, _, _, _, _, h => by simp [readK] at h
  | f + 1, l, at_, c, ls, c', ls', n, hl, hall, h => by
    rw [readK] at h
    split at h
    · split at h <;> simp at h
    · rename_i i hi
      have hi2 := firstT_lt hi
      split at h
      · simp at h
      · rename_i p hp
        have hp2 := lineR_ok hp
        split at h
        · simp at h
        · split at h
          · simp at h
          · rename_i h50
            have hall2 : (ls ++ [p.2.2]).all textB = true := by simp [hall, hp2.2]
            split at h
            · have := read_ok f (l.drop (i + 1)) (at_ + i + 1) p.1 (ls ++ [p.2.2]) (by simp; omega) hall2 h
              rw [List.length_drop] at this
              exact ⟨this.1, by omega, by omega⟩
            · simp only [Prod.mk.injEq] at h
              obtain ⟨rfl, rfl, rfl, _⟩ := h
              refine ⟨?_, by omega, by omega⟩
              unfold rightB
              rw [hp2.1, hall2]
              simp; omega
theorem readR_ok {l : List UInt8} {c : Nat} {ls : List (List UInt8)} {n : Nat} (h : readR l = (c, ls, n, 0)) : rightB c ls = true ∧ 1 ≤ n ∧ n ≤ l.length := by
  have := read_ok 51 l 0 0 [] (by simp) rfl h
  exact ⟨this.1, by omega, by omega⟩
/-- None's bytes are a beginning of another one's. -/
theorem apart {n m : Nat} {ls ks : List (List UInt8)} (h1 : rightB n ls = true) (h2 : rightB m ks = true) (h : printB n ls <+: printB m ks) : n = m ∧ ls = ks ∧ (printB n ls).length = (printB m ks).length := by
  obtain ⟨r, hr⟩ := h
  have b1 := back h1 r
  have b2 := back h2 []
  rw [List.append_nil, ← hr, b1] at b2
  simp only [Prod.mk.injEq] at b2
  refine ⟨b2.1, b2.2.1, ?_⟩
  rw [b2.2.2.1, hr]
end Go.Proofs.YthkabehojmncmaaDoor.Reply
