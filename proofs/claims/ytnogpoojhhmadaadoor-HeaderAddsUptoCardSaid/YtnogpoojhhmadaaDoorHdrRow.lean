/-
  HEADER, the given answers: rows of fields; whether a header is too long; the same fields; hops.
-/
import Derived.Test.YtnogpoojhhmadaaDoorHdrLine
import Derived.Test.YtnogpoojhhmadaaDoorRowBase
import Derived.Deep.RegionHeld3
import Derived.BigRegion
namespace Go.Proofs.YtnogpoojhhmadaaDoor.Header
open Go.RowKit Base
structure Fld where
  nm : List UInt8
  bd : List UInt8
  fr : Nat
  en : Nat
def cells4 (f : Fld) : List Value := [S f.nm, S f.bd, .int .i64 (f.fr : Int), .int .i64 (f.en : Int)]
theorem flat4 : ∀ (T : List Fld) (i k : Nat) (p : Fld), T[i]? = some p → k < 4 → (T.flatMap cells4)[i * 4 + k]? = (cells4 p)[k]?
  | [], i, k, p, h, _ => by simp at h
  | x :: r, 0, k, p, h, hk => by
    simp at h; subst h
    rw [List.flatMap_cons, List.getElem?_append_left (by simp [cells4]; omega)]; simp
  | x :: r, i + 1, k, p, h, hk => by
    rw [List.flatMap_cons, List.getElem?_append_right (by simp [cells4]; omega)]
    have := flat4 r i k p h hk
    rw [show (i + 1) * 4 + k - (cells4 x).length = i * 4 + k by simp [cells4]; omega]
    exact this
theorem flat4_len (T : List Fld) : (T.flatMap cells4).length = T.length * 4 := by
  induction T with
  | nil => rfl
  | cons x r ih => rw [List.flatMap_cons, List.length_append, ih, List.length_cons]; simp [cells4]; omega
/-- The slice reads as these fields. -/
def FReads (w : World) (v : Value) (T : List Fld) : Prop :=
  (T = [] ∧ ∃ a c, v = .slice a 0 c) ∨ ∃ b o c, v = .slice (some ⟨b, o, none⟩) T.length c ∧ T.length ≤ c ∧ ∀ (i : Nat) (p : Fld), T[i]? = some p → ∀ (k : Nat) (u : Value), (cells4 p)[k]? = some u → w.cell? ⟨b, o + i * 4 + k, none⟩ = some u
theorem FReads.on {w w' : World} {v : Value} {T : List Fld} (h : FReads w v T) (hb : Below w.heap.size w w') : FReads w' v T := by
  rcases h with h | ⟨b, o, c, rfl, h1, h2⟩
  · exact Or.inl h
  · refine Or.inr ⟨b, o, c, rfl, h1, fun i p hp k u hu => ?_⟩
    have := h2 i p hp k u hu
    exact (hb.cell (p := ⟨b, o + i * 4 + k, none⟩) (cell_lt this)).trans this
theorem FReads.form {w : World} {v : Value} {T : List Fld} (h : FReads w v T) : ∃ a c, v = .slice a T.length c := by
  rcases h with ⟨rfl, a, c, rfl⟩ | ⟨b, o, c, rfl, _⟩
  · exact ⟨a, c, rfl⟩
  · exact ⟨_, c, rfl⟩
theorem FReads.cell {w : World} {a : Option Addr} {n c : Nat} {T : List Fld} (h : FReads w (.slice a n c) T) {i : Nat} {p : Fld} (hp : T[i]? = some p) : ∃ b o, a = some ⟨b, o, none⟩ ∧ w.cell? ⟨b, o + i * 4, none⟩ = some (S p.nm) ∧ w.cell? ⟨b, o + i * 4 + 1, none⟩ = some (S p.bd) ∧ w.cell? ⟨b, o + i * 4 + 2, none⟩ = some (.int .i64 (p.fr : Int)) ∧ w.cell? ⟨b, o + i * 4 + 3, none⟩ = some (.int .i64 (p.en : Int)) := by
  rcases h with ⟨rfl, _⟩ | ⟨b, o, c, he, h1, h2⟩
  · simp at hp
  · cases he
    exact ⟨b, o, rfl, h2 i p hp 0 _ rfl, h2 i p hp 1 _ rfl, h2 i p hp 2 _ rfl, h2 i p hp 3 _ rfl⟩
theorem FReads.of_row {w : World} {B : Nat} {e : TypeId} {v : Value} {n : Nat} {T : List Fld} (h : w.ownsRow B e 4 v n (T.flatMap cells4)) (hn : n = T.length) : FReads w v T := by
  subst hn
  have h0 := h
  rcases h.2 with ⟨rfl, hn⟩ | ⟨g, cap, cur, rfl, _, hb, h1, _⟩
  · exact Or.inl ⟨List.eq_nil_of_length_eq_zero (by omega), none, 0, rfl⟩
  · refine Or.inr ⟨g, 0, cap, rfl, h1, fun i p hp k u hu => ?_⟩
    have hi := (List.getElem?_eq_some_iff.1 hp).1
    have hk : k < 4 := by have := (List.getElem?_eq_some_iff.1 hu).1; simpa [cells4] using this
    rw [Nat.zero_add, World.ownsRow.cellAt h0 (i * 4 + k) (by omega), flat4 T i k p hp hk, hu]
def endF (T : List Fld) : Nat := match T[T.length - 1]? with
  | some f => f.en
  | none => 0
/-- What is wrong with a header. -/
def codeF (T : List Fld) : Nat := if 65536 < endF T then 111 else if 1000 < T.length then 112 else 0
def CheckEnd (v : Value) (T : List Fld) (body : Nat) (w : World) (e : Ending) (w' : World) : Prop :=
  w = w' ∧ ((codeF T = 0 ∧ e = .returned (.tuple #[v, .int .i64 (body : Int), .int .i64 0])) ∨ (codeF T ≠ 0 ∧ e = .returned (.tuple #[.slice none 0 0, .int .i64 0, .int .i64 (codeF T : Int)])))
set_option maxHeartbeats 4000000 in
set_option maxRecDepth 100000 in
theorem rChecked (v : Value) (T : List Fld) (body : Nat) (w : World) (h : FReads w v T) (hn : T.length ≤ 140737488355328) (hb : ∀ f ∈ T, f.en ≤ 140737488355328) :
    Calls Tryd.prog 24 #[v, .int .i64 (body : Int)] w (CheckEnd v T body w) := by
  obtain ⟨a, c, rfl⟩ := h.form
  have hend : endF T ≤ 140737488355328 := by
    unfold endF
    cases hq : T[T.length - 1]? with
    | none => exact Nat.zero_le _
    | some f => exact hb f (List.mem_of_getElem? hq)
  have HOK : codeF T = 0 → Hid (CheckEnd (.slice a T.length c) T body w (.returned (.tuple #[.slice a T.length c, .int .i64 (body : Int), .int .i64 0])) w) := fun h => ⟨rfl, Or.inl ⟨h, rfl⟩⟩
  have H1 : codeF T = 111 → Hid (CheckEnd (.slice a T.length c) T body w (.returned (.tuple #[.slice none 0 0, .int .i64 0, .int .i64 111])) w) := fun h => ⟨rfl, Or.inr ⟨by omega, by rw [h]; rfl⟩⟩
  have H2 : codeF T = 112 → Hid (CheckEnd (.slice a T.length c) T body w (.returned (.tuple #[.slice none 0 0, .int .i64 0, .int .i64 112])) w) := fun h => ⟨rfl, Or.inr ⟨by omega, by rw [h]; rfl⟩⟩
  by_cases h0 : 0 < T.length
  · obtain ⟨n, hn1⟩ : ∃ n, T.length = n + 1 := ⟨T.length - 1, by omega⟩
    obtain ⟨f, hf⟩ : ∃ f, T[n]? = some f := ⟨_, List.getElem?_eq_getElem (by omega)⟩
    obtain ⟨b, o, rfl, _, _, _, c3⟩ := h.cell hf
    have he : endF T = f.en := by unfold endF; rw [show T.length - 1 = n by omega, hf]
    have i0 : (0 : Int) < (T.length : Int) := by omega
    have i1 : (T.length : Int) - 1 = (n : Int) := by omega
    have i2 : (0 : Int) ≤ (n : Int) := by omega
    have i3 : (n : Int) < (T.length : Int) := by omega
    by_cases h1 : 65536 < f.en
    · have j1 : (65536 : Int) < (f.en : Int) := by omega
      have HE := H1 (by unfold codeF; rw [he, if_pos h1])
      clear HOK H1 H2 he h1 hf h hb hn1
      go_enter Tryd.func24, Tryd.ntmps24
      go_wp2
      go_ret3
      exact HE.out
    · have j1 : ¬ (65536 : Int) < (f.en : Int) := by omega
      by_cases h2 : 1000 < T.length
      · have j2 : (1000 : Int) < (T.length : Int) := by omega
        have HE := H2 (by unfold codeF; rw [he, if_neg h1, if_pos h2])
        clear HOK H1 H2 he h1 h2 hf h hb hn1
        go_enter Tryd.func24, Tryd.ntmps24
        go_wp2
        go_ret3
        exact HE.out
      · have j2 : ¬ (1000 : Int) < (T.length : Int) := by omega
        have HE := HOK (by unfold codeF; rw [he, if_neg h1, if_neg h2])
        clear HOK H1 H2 he h1 h2 hf h hb hn1
        go_enter Tryd.func24, Tryd.ntmps24
        go_wp2
        go_ret3
        exact HE.out
  · have i0 : ¬ (0 : Int) < (T.length : Int) := by omega
    have hT : T = [] := List.eq_nil_of_length_eq_zero (by omega)
    have j2 : ¬ (1000 : Int) < (T.length : Int) := by omega
    have HE := HOK (by rw [hT]; rfl)
    clear HOK H1 H2 h hb hT
    go_enter Tryd.func24, Tryd.ntmps24
    go_wp2
    go_ret3
    exact HE.out
set_option maxHeartbeats 4000000 in
set_option maxRecDepth 100000 in
/-- Two lists that are the same. -/
theorem rSameF (v1 v2 : Value) (T : List Fld) (w : World) (h1 : FReads w v1 T) (h2 : FReads w v2 T) (hn : T.length ≤ 140737488355328) :
    Calls Tryd.prog 10 #[v1, v2] w fun e w' => e = .returned (.bool true) ∧ Below w.heap.size w w' := by
  obtain ⟨a1, c1, rfl⟩ := h1.form
  obtain ⟨a2, c2, rfl⟩ := h2.form
  have HA := Lib.hid h1
  have HB := Lib.hid h2
  clear h1 h2
  go_enter Tryd.func10, Tryd.ntmps10
  go_wp2
  go_loopw [5] (fun i wr => ∃ k : Nat, k ≤ T.length ∧ i = .int .i64 (k : Int) ∧ Hid (Below w.heap.size w wr)) (fun i _ => T.length - (intOf i).toNat)
  case atStart => exact ⟨0, by omega, rfl, Below.refl _ _⟩
  case round =>
    obtain ⟨k, hk, rfl, HW⟩ := hrel
    by_cases hlt : k < T.length
    · obtain ⟨f, hf⟩ : ∃ f, T[k]? = some f := ⟨_, List.getElem?_eq_getElem hlt⟩
      obtain ⟨b1, o1, e1, p0, p1, p2, p3⟩ := (HA.out.on HW.out).cell hf
      obtain ⟨b2, o2, e2, q0, q1, q2, q3⟩ := (HB.out.on HW.out).cell hf
      subst e1 e2
      have i0 : (0 : Int) ≤ (k : Int) := by omega
      have i1 : (k : Int) < (T.length : Int) := by omega
      clear hf
      go_wp2
      go_region
      go_wp2
      go_roundw
      case rel => exact ⟨k + 1, by omega, by go_num, HW.out.trans (Below.mono (Below.refl _ _).drew HW.out.size)⟩
      case measure => simp [intOf]; omega
    · have i1 : ¬ (k : Int) < (T.length : Int) := by omega
      go_wp2
      go_ret
      exact ⟨rfl, HW.out⟩
/-- How many hops a header tells. -/
def hopsF (T : List Fld) : Nat := (T.filter fun f => sameB f.nm [114, 101, 99, 101, 105, 118, 101, 100]).length
theorem hops_take {T : List Fld} {k : Nat} {f : Fld} (h : T[k]? = some f) : hopsF (T.take (k + 1)) = hopsF (T.take k) + (if sameB f.nm [114, 101, 99, 101, 105, 118, 101, 100] = true then 1 else 0) := by
  have hk := (List.getElem?_eq_some_iff.1 h).1
  unfold hopsF
  rw [List.take_succ_eq_append_getElem hk, (List.getElem?_eq_some_iff.1 h).2, List.filter_append, List.length_append]
  congr 1
  split
  · rename_i hs; simp [List.filter, hs]
  · rename_i hs; simp [List.filter, hs]
theorem hops_le (T : List Fld) : hopsF T ≤ T.length := List.length_filter_le _ _
set_option maxHeartbeats 4000000 in
set_option maxRecDepth 100000 in
theorem rHops (v : Value) (T : List Fld) (w : World) (h : FReads w v T) (hn : T.length ≤ 140737488355328) (hs : ∀ f ∈ T, f.nm.length ≤ 140737488355328) :
    Calls Tryd.prog 14 #[v] w fun e w' => e = .returned (.int .i64 (hopsF T : Int)) ∧ Below w.heap.size w w' := by
  obtain ⟨a1, c1, rfl⟩ := h.form
  have HA := Lib.hid h
  have HS := Lib.hid hs
  clear h hs
  go_enter Tryd.func14, Tryd.ntmps14
  go_wp2
  go_loopw [3, 4, 5] (fun m i _ wr => ∃ k : Nat, k ≤ T.length ∧ i = .int .i64 (k : Int) ∧ m = .int .i64 (hopsF (T.take k) : Int) ∧ Hid (Below w.heap.size w wr)) (fun _ i _ _ => T.length - (intOf i).toNat)
  case atStart => exact ⟨0, by omega, rfl, rfl, Below.refl _ _⟩
  case round =>
    obtain ⟨k, hk, rfl, rfl, HW⟩ := hrel
    have hle := hops_le (T.take k)
    rw [List.length_take] at hle
    by_cases hlt : k < T.length
    · obtain ⟨f, hf⟩ : ∃ f, T[k]? = some f := ⟨_, List.getElem?_eq_getElem hlt⟩
      obtain ⟨b1, o1, e1, p0, p1, p2, p3⟩ := (HA.out.on HW.out).cell hf
      subst e1
      have i0 : (0 : Int) ≤ (k : Int) := by omega
      have i1 : (k : Int) < (T.length : Int) := by omega
      have HC := Lib.hid (rSame ⟨f.nm.toArray⟩ ⟨#[114, 101, 99, 101, 105, 118, 101, 100]⟩ wr (by show f.nm.toArray.size ≤ _; simp; exact HS.out f (List.mem_of_getElem? hf)) (by decide))
      have HH := Lib.hid (hops_take hf)
      clear hf p1 p2 p3
      cases hb : sameB f.nm [114, 101, 99, 101, 105, 118, 101, 100]
      · have HC2 : Hid (Calls Tryd.prog 30 #[S f.nm, .string ⟨#[114, 101, 99, 101, 105, 118, 101, 100]⟩] wr fun e w' => e = .returned (.bool false) ∧ Below wr.heap.size wr w') := HC.out.mono fun e w' h => ⟨by rw [h.1]; show Ending.returned (.bool (sameB f.nm [114, 101, 99, 101, 105, 118, 101, 100])) = _; rw [hb], h.2⟩
        have HH2 : Hid (hopsF (T.take (k + 1)) = hopsF (T.take k)) := by show _ = _; rw [HH.out, hb]; rfl
        clear HC HH hb
        go_wp2_with (first | (go_at_call 30; refine HC2.out.mono ?_; rintro e w2 ⟨rfl, hb2⟩; refine Hid.out ?_) | fail)
        refine Lib.hid ?_
        have HW2 := Lib.hid (HW.out.trans (hb2.mono HW.out.size))
        clear hb2
        go_wp2
        go_roundw
        case rel => exact ⟨k + 1, by omega, by go_num, by rw [HH2.out], HW2⟩
        case measure => simp [intOf]; omega
      · have HC2 : Hid (Calls Tryd.prog 30 #[S f.nm, .string ⟨#[114, 101, 99, 101, 105, 118, 101, 100]⟩] wr fun e w' => e = .returned (.bool true) ∧ Below wr.heap.size wr w') := HC.out.mono fun e w' h => ⟨by rw [h.1]; show Ending.returned (.bool (sameB f.nm [114, 101, 99, 101, 105, 118, 101, 100])) = _; rw [hb], h.2⟩
        have HH2 : Hid (hopsF (T.take (k + 1)) = hopsF (T.take k) + 1) := by show _ = _; rw [HH.out, hb]; rfl
        clear HC HH hb
        go_wp2_with (first | (go_at_call 30; refine HC2.out.mono ?_; rintro e w2 ⟨rfl, hb2⟩; refine Hid.out ?_) | fail)
        refine Lib.hid ?_
        have HW2 := Lib.hid (HW.out.trans (hb2.mono HW.out.size))
        clear hb2
        go_wp2
        go_roundw
        case rel => exact ⟨k + 1, by omega, by go_num, by rw [HH2.out]; go_num, HW2⟩
        case measure => simp [intOf]; omega
    · have i1 : ¬ (k : Int) < (T.length : Int) := by omega
      have HE : Hid (hopsF (T.take k) = hopsF T) := by show _ = _; rw [List.take_of_length_le (by omega)]
      go_wp2
      go_ret
      exact ⟨by rw [← HE.out]; rfl, HW.out⟩
end Go.Proofs.YtnogpoojhhmadaaDoor.Header
