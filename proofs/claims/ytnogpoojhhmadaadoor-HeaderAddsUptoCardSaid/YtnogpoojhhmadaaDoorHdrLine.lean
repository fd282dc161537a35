/-
  HEADER, the given answers: the end of a line; where a field's colon stands.
-/
import Derived.Test.YtnogpoojhhmadaaDoorHdrLower
namespace Go.Proofs.YtnogpoojhhmadaaDoor.Header
open Go.RowKit Base
/-- Bytes of a slice that came in, by place. -/
theorem reads_cells {w : World} {A : Option Addr} {n c : Nat} {l : List UInt8} (h : Reads w (.slice A n c) l) {i : Nat} (hi : i < l.length) : ∃ b o, A = some ⟨b, o, none⟩ ∧ n = l.length ∧ l.length ≤ c ∧ ∀ j, j < l.length → w.cell? ⟨b, o + j, none⟩ = some (.int .u8 ((l.getD j 0).toNat : Int)) := by
  rcases h with ⟨rfl, _⟩ | ⟨b, o, c, he, h1, h2⟩
  · simp at hi
  · cases he
    exact ⟨b, o, rfl, rfl, h1, h2⟩
theorem Reads.take {w : World} {A : Option Addr} {n c k : Nat} {l : List UInt8} (h : Reads w (.slice A n c) l) (hk : k ≤ l.length) : Reads w (.slice A k c) (l.take k) := by
  have hl : (l.take k).length = k := by rw [List.length_take]; omega
  rcases h with ⟨rfl, a, c', he, hn⟩ | ⟨b, o, c', he, h1, h2⟩
  · cases he
    have : k = 0 := by simpa using hk
    subst this
    exact Or.inl ⟨rfl, A, c, rfl, hn⟩
  · cases he
    refine Or.inr ⟨b, o, c, by rw [hl], by omega, fun i hi => ?_⟩
    rw [hl] at hi
    rw [h2 i (by omega)]
    congr 3
    simp [List.getD, List.getElem?_take_of_lt hi]
/-- A part of it. -/
theorem Reads.part {w : World} {A : Option Addr} {n c at_ e : Nat} {l : List UInt8} (h : Reads w (.slice A n c) l) (hle : at_ ≤ e) (he : e ≤ l.length) :
    Reads w (.slice (if c = at_ then A else Option.map (fun x => x.add at_) A) (e - at_) (c - at_)) ((l.take e).drop at_) := by
  have h2 := Reads.take h he
  have hl : (l.take e).length = e := by rw [List.length_take]; omega
  have h3 : Reads w (.slice A (l.take e).length c) (l.take e) := by rw [hl]; exact h2
  have := Base.Reads.tail h3 (at_ := at_) (by omega)
  rwa [hl] at this
/-- How long a line is, without its end and with it. -/
def lineL : List UInt8 → Nat × Nat
  | [] => (0, 0)
  | [_] => (1, 1)
  | c :: d :: r => if c.toNat = 13 ∧ d.toNat = 10 then (0, 2) else ((lineL (d :: r)).1 + 1, (lineL (d :: r)).2 + 1)
def lineOf (l : List UInt8) (at_ : Nat) : Nat × Nat := (at_ + (lineL (l.drop at_)).1, at_ + (lineL (l.drop at_)).2)
theorem lineL_le : ∀ (l : List UInt8), (lineL l).1 ≤ (lineL l).2 ∧ (lineL l).2 ≤ l.length ∧ (l ≠ [] → 0 < (lineL l).2)
  | [] => by simp [lineL]
  | [_] => by simp [lineL]
  | c :: d :: r => by
    obtain ⟨h1, h2, _⟩ := lineL_le (d :: r)
    unfold lineL
    split
    · simp
    · simp only [List.length_cons] at h2 ⊢
      refine ⟨by omega, by omega, fun _ => by omega⟩
theorem drop_two {l : List UInt8} {i : Nat} (h : i + 1 < l.length) : l.drop i = l.getD i 0 :: l.getD (i + 1) 0 :: l.drop (i + 2) := by
  rw [List.drop_eq_getElem_cons (by omega), List.drop_eq_getElem_cons h]
  simp [List.getD, List.getElem?_eq_getElem (show i < l.length by omega), List.getElem?_eq_getElem h]
theorem drop_one {l : List UInt8} {i : Nat} (h : i + 1 < l.length) : l.drop (i + 1) = l.getD (i + 1) 0 :: l.drop (i + 2) := by
  rw [List.drop_eq_getElem_cons h]
  simp [List.getD, List.getElem?_eq_getElem h]
theorem line_yes {l : List UInt8} {i : Nat} (h : i + 1 < l.length) (h1 : (l.getD i 0).toNat = 13) (h2 : (l.getD (i + 1) 0).toNat = 10) : lineOf l i = (i, i + 2) := by
  unfold lineOf
  rw [drop_two h, lineL, if_pos ⟨h1, h2⟩]; rfl
theorem line_no {l : List UInt8} {i : Nat} (h : i + 1 < l.length) (h1 : ¬ ((l.getD i 0).toNat = 13 ∧ (l.getD (i + 1) 0).toNat = 10)) : lineOf l i = lineOf l (i + 1) := by
  unfold lineOf
  rw [drop_one h, drop_two h, lineL, if_neg h1]
  show (_, _) = (_, _)
  congr 1 <;> omega
theorem line_end {l : List UInt8} {i : Nat} (h : l.length ≤ i + 1) (hi : i ≤ l.length) : lineOf l i = (l.length, l.length) := by
  unfold lineOf
  by_cases e : i = l.length
  · rw [List.drop_eq_nil_of_le (by omega), lineL, e]; rfl
  · have : l.drop i = [l[i]] := by rw [List.drop_eq_getElem_cons (by omega), List.drop_eq_nil_of_le (by omega)]
    rw [this, lineL]
    show (i + 1, i + 1) = _
    congr 1 <;> omega
theorem line_bounds {l : List UInt8} {at_ : Nat} (h : at_ < l.length) : at_ ≤ (lineOf l at_).1 ∧ (lineOf l at_).1 ≤ (lineOf l at_).2 ∧ (lineOf l at_).2 ≤ l.length ∧ at_ < (lineOf l at_).2 := by
  obtain ⟨h1, h2, h3⟩ := lineL_le (l.drop at_)
  have h4 := h3 (by intro e; have := congrArg List.length e; rw [List.length_drop] at this; simp at this; omega)
  rw [List.length_drop] at h2
  unfold lineOf
  refine ⟨by simp, by simp; omega, by simp; omega, by simp; omega⟩
set_option maxHeartbeats 4000000 in
set_option maxRecDepth 100000 in
theorem rLine (A : Option Addr) (c : Nat) (l : List UInt8) (at_ : Nat) (w : World) (hr : Reads w (.slice A l.length c) l) (hat : at_ ≤ l.length) (hl : l.length ≤ 140737488355328) :
    Calls Tryd.prog 21 #[.slice A l.length c, .int .i64 (at_ : Int)] w fun e w' => e = .returned (.tuple #[.int .i64 ((lineOf l at_).1 : Int), .int .i64 ((lineOf l at_).2 : Int)]) ∧ w = w' := by
  obtain ⟨fin, hfin⟩ : ∃ fin, fin = lineOf l at_ := ⟨_, rfl⟩
  have HF0 : Hid (lineOf l at_ = fin) := hfin.symm
  rw [← hfin]
  clear hfin
  have HR := Lib.hid hr
  clear hr
  go_enter Tryd.func21, Tryd.ntmps21
  go_wp2
  go_loop [6] (fun i => ∃ j : Nat, at_ ≤ j ∧ j ≤ l.length ∧ i = .int .i64 (j : Int) ∧ Hid (lineOf l j = fin)) (fun i => l.length - (intOf i).toNat)
  case atStart => exact ⟨at_, Nat.le_refl _, hat, rfl, HF0⟩
  case round =>
    clear HF0
    obtain ⟨j, hj0, hj, rfl, HF⟩ := hrel
    have i0 : (0 : Int) ≤ (j : Int) := by omega
    by_cases hlt : j + 1 < l.length
    · obtain ⟨b, o, hA, _, hc, hcell⟩ := reads_cells HR.out (i := j) (by omega)
      subst hA
      have c0 := hcell j (by omega)
      have c1 := hcell (j + 1) hlt
      have i1 : (j : Int) + 1 < (l.length : Int) := by omega
      have i2 : (j : Int) < (l.length : Int) := by omega
      have i3 : (0 : Int) ≤ (j : Int) + 1 := by omega
      clear hcell
      by_cases h13 : (l.getD j 0).toNat = 13
      · have e1 : (((l.getD j 0).toNat : Int) == 13) = true := by rw [h13]; rfl
        by_cases h10 : (l.getD (j + 1) 0).toNat = 10
        · have e2 : (((l.getD (j + 1) 0).toNat : Int) == 10) = true := by rw [h10]; rfl
          have HY : Hid ((j, j + 2) = fin) := by show _ = _; rw [← HF.out, line_yes hlt h13 h10]
          clear h13 h10 HF
          generalize (l.getD j 0).toNat = x at c0 e1
          generalize (l.getD (j + 1) 0).toNat = y at c1 e2
          go_wp2
          go_ret2
          exact ⟨by rw [← HY.out]; first | rfl | (congr 3; go_num), rfl⟩
        · have e2 : (((l.getD (j + 1) 0).toNat : Int) == 10) = false := by rw [beq_eq_false_iff_ne]; omega
          have HN : Hid (lineOf l (j + 1) = fin) := by show _ = _; rw [← HF.out, line_no hlt (fun h => h10 h.2)]
          clear h13 h10 HF
          generalize (l.getD j 0).toNat = x at c0 e1
          generalize (l.getD (j + 1) 0).toNat = y at c1 e2
          go_wp2
          go_round
          case rel => exact ⟨j + 1, by omega, by omega, by go_num, HN⟩
          case measure => simp [intOf]; omega
      · have e1 : (((l.getD j 0).toNat : Int) == 13) = false := by rw [beq_eq_false_iff_ne]; omega
        have HN : Hid (lineOf l (j + 1) = fin) := by show _ = _; rw [← HF.out, line_no hlt (fun h => h13 h.1)]
        clear h13 HF
        generalize (l.getD j 0).toNat = x at c0 e1
        go_wp2
        go_round
        case rel => exact ⟨j + 1, by omega, by omega, by go_num, HN⟩
        case measure => simp [intOf]; omega
    · have i1 : ¬ (j : Int) + 1 < (l.length : Int) := by omega
      have HY : Hid ((l.length, l.length) = fin) := by show _ = _; rw [← HF.out, line_end (by omega) hj]
      clear HF
      go_wp2
      go_ret2
      exact ⟨by rw [← HY.out]; rfl, rfl⟩
def notColon (c : UInt8) : Bool := decide (c.toNat ≠ 58)
/-- Where the colon of a line stands that begins a field. -/
def colonOf (s : List UInt8) : Option Nat := if (s.takeWhile notColon).length < s.length ∧ nameB (s.takeWhile notColon) = true then some (s.takeWhile notColon).length else none
def colV : Option Nat → Int
  | none => -1
  | some k => (k : Int)
theorem tw_at : ∀ (s : List UInt8) (k : Nat), k < s.length → (∀ c ∈ s.take k, notColon c = true) → (s.getD k 0).toNat = 58 → s.takeWhile notColon = s.take k
  | [], k, h, _, _ => by simp at h
  | c :: r, 0, _, _, h2 => by
    have : notColon c = false := by unfold notColon; rw [decide_eq_false_iff_not]; simpa using h2
    rw [List.takeWhile_cons_of_neg (by rw [this]; simp), List.take_zero]
  | c :: r, k + 1, h, h1, h2 => by
    have hc : notColon c = true := h1 c (by simp)
    rw [List.takeWhile_cons_of_pos hc, List.take_succ_cons, tw_at r k (by simpa using h) (fun x hx => h1 x (by rw [List.take_succ_cons]; exact List.mem_cons_of_mem _ hx)) (by simpa using h2)]
theorem tw_all : ∀ (s : List UInt8), (∀ c ∈ s, notColon c = true) → s.takeWhile notColon = s
  | [], _ => rfl
  | c :: r, h => by rw [List.takeWhile_cons_of_pos (h c List.mem_cons_self), tw_all r fun x hx => h x (List.mem_cons_of_mem _ hx)]
theorem colon_at {s : List UInt8} {k : Nat} (hk : k < s.length) (h : ∀ c ∈ s.take k, notColon c = true) (h2 : (s.getD k 0).toNat = 58) : colonOf s = if nameB (s.take k) = true then some k else none := by
  unfold colonOf
  rw [tw_at s k hk h h2]
  have hl : (s.take k).length = k := by rw [List.length_take]; omega
  rw [hl]
  by_cases hn : nameB (s.take k) = true
  · rw [if_pos ⟨hk, hn⟩, if_pos hn]
  · rw [if_neg (fun x => hn x.2), if_neg hn]
theorem colon_none {s : List UInt8} (h : ∀ c ∈ s, notColon c = true) : colonOf s = none := by
  unfold colonOf
  rw [tw_all s h, if_neg (fun x => absurd x.1 (Nat.lt_irrefl _))]
set_option maxHeartbeats 4000000 in
set_option maxRecDepth 100000 in
theorem rColon (A : Option Addr) (n c : Nat) (l : List UInt8) (w : World) (hr : Reads w (.slice A n c) l) (hn : n = l.length) (hl : l.length ≤ 140737488355328) :
    Calls Tryd.prog 22 #[.slice A n c] w fun e w' => e = .returned (.int .i64 (colV (colonOf l))) ∧ w = w' := by
  obtain ⟨fin, hfin⟩ : ∃ fin, fin = colV (colonOf l) := ⟨_, rfl⟩
  have HF0 : Hid (colV (colonOf l) = fin) := hfin.symm
  rw [← hfin]
  clear hfin
  have HR := Lib.hid hr
  subst hn
  clear hr
  go_enter Tryd.func22, Tryd.ntmps22
  go_wp2
  go_loop [3, 4] (fun i _ => ∃ j : Nat, j ≤ l.length ∧ i = .int .i64 (j : Int) ∧ Hid (∀ c ∈ l.take j, notColon c = true)) (fun i _ => l.length - (intOf i).toNat)
  case atStart => exact ⟨0, by omega, rfl, fun c hc => by simp at hc⟩
  case round =>
    obtain ⟨j, hj, rfl, HC⟩ := hrel
    have i0 : (0 : Int) ≤ (j : Int) := by omega
    by_cases hlt : j < l.length
    · obtain ⟨b, o, hA, _, hc, hcell⟩ := reads_cells HR.out (i := j) hlt
      subst hA
      have c0 := hcell j hlt
      have i1 : (j : Int) < (l.length : Int) := by omega
      have i2 : (j : Int) ≤ (c : Int) := by omega
      by_cases h58 : (l.getD j 0).toNat = 58
      · have e1 : (((l.getD j 0).toNat : Int) == 58) = true := by rw [h58]; rfl
        have hco := colon_at hlt HC.out h58
        have hcv := conv_reads (Reads.take HR.out (k := j) (by omega))
        have HNM := Lib.hid (rName ⟨(l.take j).toArray⟩ w (by show (l.take j).toArray.size ≤ _; simp; omega))
        cases hb : nameB (l.take j)
        · have HE : Hid (fin = -1) := by show _ = _; rw [← HF0.out, hco, hb]; rfl
          have HN2 : Hid (Calls Tryd.prog 31 #[.string ⟨(l.take j).toArray⟩] w fun e w' => e = .returned (.bool false) ∧ w = w') := HNM.out.mono fun e w' h => ⟨by rw [h.1]; show Ending.returned (.bool (nameB (l.take j))) = _; rw [hb], h.2⟩
          clear h58 hco hb HNM HF0 HC hcell
          generalize (l.getD j 0).toNat = x at c0 e1
          go_wp2_with (first | (go_at_call 31; refine HN2.out.mono ?_; rintro e w' ⟨rfl, rfl⟩; refine Hid.out ?_) | fail)
          refine Lib.hid ?_
          go_wp2
          go_ret
          exact ⟨by rw [HE.out]; rfl, rfl⟩
        · have HE : Hid (fin = (j : Int)) := by show _ = _; rw [← HF0.out, hco, hb]; rfl
          have HN2 : Hid (Calls Tryd.prog 31 #[.string ⟨(l.take j).toArray⟩] w fun e w' => e = .returned (.bool true) ∧ w = w') := HNM.out.mono fun e w' h => ⟨by rw [h.1]; show Ending.returned (.bool (nameB (l.take j))) = _; rw [hb], h.2⟩
          clear h58 hco hb HNM HF0 HC hcell
          generalize (l.getD j 0).toNat = x at c0 e1
          go_wp2_with (first | (go_at_call 31; refine HN2.out.mono ?_; rintro e w' ⟨rfl, rfl⟩; refine Hid.out ?_) | fail)
          refine Lib.hid ?_
          go_wp2
          go_ret
          exact ⟨by rw [HE.out]; rfl, rfl⟩
      · have e1 : (((l.getD j 0).toNat : Int) == 58) = false := by rw [beq_eq_false_iff_ne]; omega
        have HC2 : Hid (∀ c ∈ l.take (j + 1), notColon c = true) := fun x hx => by
          rw [List.take_succ_eq_append_getElem hlt] at hx
          rcases List.mem_append.1 hx with hx | hx
          · exact HC.out x hx
          · rw [List.mem_singleton.1 hx]
            unfold notColon
            rw [decide_eq_true_eq]
            simpa [List.getD, List.getElem?_eq_getElem hlt] using h58
        clear h58 HC hcell
        generalize (l.getD j 0).toNat = x at c0 e1
        go_wp2
        go_round
        case rel => exact ⟨j + 1, by omega, by go_num, HC2⟩
        case measure => simp [intOf]; omega
    · have i1 : ¬ (j : Int) < (l.length : Int) := by omega
      have HE : Hid (fin = -1) := by show _ = _; rw [← HF0.out, colon_none (fun x hx => HC.out x (by rw [List.take_of_length_le (by omega)]; exact hx))]; rfl
      clear HC HF0
      go_wp2
      go_ret
      exact ⟨by rw [HE.out]; rfl, rfl⟩
end Go.Proofs.YtnogpoojhhmadaaDoor.Header
