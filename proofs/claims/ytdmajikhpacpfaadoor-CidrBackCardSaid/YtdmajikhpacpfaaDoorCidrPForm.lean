/-
  CIDR: the form of an address of IPv6, put together out of groups (no program).
-/
import Derived.Test.YtdmajikhpacpfaaDoorCidrPZero
namespace Go.Proofs.YtdmajikhpacpfaaDoor.Cidr
open Go.RowKit Base
theorem hexDig_ne (n : Nat) (h : n < 16) : hexDig n ≠ 58 := by
  have : ∀ k : Fin 16, hexDig k.val ≠ 58 := by decide +kernel
  exact this ⟨n, h⟩
theorem hexD_last (n : Nat) : hexD n ≠ [] ∧ (hexD n).getLastD 0 ≠ 58 := by
  rw [hexD]
  split
  · rename_i h
    exact ⟨by simp, by simpa using hexDig_ne n h⟩
  · refine ⟨by simp, ?_⟩
    rw [List.getLastD_concat]
    exact hexDig_ne _ (Nat.mod_lt _ (by decide))
def stepH (s : List UInt8) (g : Nat) : List UInt8 := (if s ≠ [] ∧ s.getLastD 0 ≠ 58 then s ++ [58] else s) ++ hexD g
theorem getLastD_append {a b : List UInt8} (hb : b ≠ []) : (a ++ b).getLastD 0 = b.getLastD 0 := by
  rw [List.getLastD_eq_getLast?, List.getLastD_eq_getLast?, List.getLast?_append]
  cases hb2 : b.getLast? with
  | none => rw [List.getLast?_eq_none_iff] at hb2; exact absurd hb2 hb
  | some x => rfl
/-- Behind a group. -/
theorem fold_tail : ∀ (gs : List Nat) (s : List UInt8), s ≠ [] → s.getLastD 0 ≠ 58 → gs.foldl stepH s = s ++ Lib.joinTail [58] (gs.map hexD)
  | [], s, _, _ => by simp [Lib.joinTail]
  | g :: r, s, h1, h2 => by
    have hg := hexD_last g
    have e : stepH s g = s ++ [58] ++ hexD g := by unfold stepH; rw [if_pos ⟨h1, h2⟩]
    rw [List.foldl_cons, e]
    rw [fold_tail r _ (by simp) (by rw [getLastD_append hg.1]; exact hg.2)]
    simp [Lib.joinTail, List.append_assoc]
/-- At the front, or behind '::'. -/
theorem fold_head (gs : List Nat) (s : List UInt8) (h : s = [] ∨ s.getLastD 0 = 58) : gs.foldl stepH s = s ++ Lib.join (gs.map hexD) [58] := by
  cases gs with
  | nil => simp [Lib.join_nil]
  | cons g r =>
    have hg := hexD_last g
    rw [List.foldl_cons]
    have e : stepH s g = s ++ hexD g := by
      unfold stepH
      rw [if_neg (fun hh => by rcases h with h | h; exact hh.1 h; exact hh.2 h)]
    rw [e, fold_tail r _ (by simp [hg.1]) (by rw [getLastD_append hg.1]; exact hg.2), List.map_cons, Lib.join_cons, List.append_assoc]
theorem outN_none {G : List Nat} (hG : G.length = 8) (m : Nat) : ∀ (f : Nat) (s : List UInt8) (i : Nat) (o : Option Nat), 8 - i ≤ f → (∀ k, o = some k → k < i) → outN G o m f s i = (G.drop i).foldl stepH s
  | 0, s, i, o, h, _ => by
    rw [outN, List.drop_eq_nil_of_le (by omega)]; rfl
  | f + 1, s, i, o, h, ho => by
    rw [outN]
    by_cases hi : i < 8
    · rw [if_pos hi, if_neg (fun h => by have := ho i h; omega)]
      rw [outN_none hG m f _ (i + 1) o (by omega) (fun k hk => by have := ho k hk; omega)]
      rw [show G.drop i = G.getD i 0 :: G.drop (i + 1) by rw [List.getD_eq_getElem?_getD, List.getElem?_eq_getElem (by omega), Option.getD_some, List.getElem_cons_drop], List.foldl_cons]
      rfl
    · rw [if_neg hi, List.drop_eq_nil_of_le (by omega)]; rfl
theorem outN_some {G : List Nat} (hG : G.length = 8) (m k : Nat) (hk : k < 8) (hm : 1 ≤ m) : ∀ (f : Nat) (s : List UInt8) (i : Nat), 8 - i ≤ f → i ≤ k → outN G (some k) m f s i = (G.drop (k + m)).foldl stepH (((G.drop i).take (k - i)).foldl stepH s ++ [58, 58])
  | 0, s, i, h, hi => by omega
  | f + 1, s, i, h, hi => by
    rw [outN, if_pos (by omega)]
    by_cases he : k = i
    · subst he
      rw [if_pos rfl, Nat.sub_self, List.take_zero]
      rw [outN_none hG m f _ (k + m) (some k) (by omega) (fun j hj => by cases hj; omega)]
      rfl
    · rw [if_neg (fun h => he (Option.some.inj h))]
      rw [outN_some hG m k hk hm f _ (i + 1) (by omega) (by omega)]
      rw [show G.drop i = G.getD i 0 :: G.drop (i + 1) by rw [List.getD_eq_getElem?_getD, List.getElem?_eq_getElem (by omega), Option.getD_some, List.getElem_cons_drop], show k - i = (k - (i + 1)) + 1 by omega, List.take_succ_cons, List.foldl_cons]
      rfl
/-- Which groups are 0 tells all. -/
def zP (p : List Bool) : Nat → Nat × Nat × Nat
  | 0 => (0, 0, 0)
  | k + 1 => if p.getD k true = false then ((zP p k).1, (zP p k).2.1, k + 1) else if max ((zP p k).2.1 - (zP p k).1) 1 < k + 1 - (zP p k).2.2 then ((zP p k).2.2, k + 1, (zP p k).2.2) else zP p k
def bestP (p : List Bool) : Nat → Option Nat × Nat
  | 0 => (none, 1)
  | k + 1 => if (bestP p k).2 < ((p.drop k).takeWhile (· == true)).length then (some k, ((p.drop k).takeWhile (· == true)).length) else bestP p k
theorem zN_zP (G : List Nat) (hG : G.length = 8) : ∀ k, k ≤ 8 → zN G k = zP (G.map (· == 0)) k
  | 0, _ => rfl
  | k + 1, h => by
    rw [zN, zP, zN_zP G hG k (by omega)]
    have e : ((G.map (· == 0)).getD k true = false) ↔ (G.getD k 0 ≠ 0) := by
      rw [List.getD_eq_getElem?_getD, List.getD_eq_getElem?_getD, List.getElem?_map, List.getElem?_eq_getElem (show k < G.length by omega)]
      simp
    by_cases hg : G.getD k 0 ≠ 0
    · rw [if_pos hg, if_pos (e.2 hg)]
    · rw [if_neg hg, if_neg (fun h => hg (e.1 h))]
theorem runN_P (G : List Nat) (k : Nat) : runN G k = (((G.map (· == 0)).drop k).takeWhile (· == true)).length := by
  unfold runN
  rw [← List.map_drop, List.takeWhile_map, List.length_map]
  congr 2
  funext x
  simp
theorem bestN_bestP (G : List Nat) : ∀ k, bestN G k = bestP (G.map (· == 0)) k
  | 0 => rfl
  | k + 1 => by rw [bestN, bestP, bestN_bestP G k, runN_P]
theorem pat_ok : ∀ a b c d e f g h : Bool, (match (bestP [a, b, c, d, e, f, g, h] 8).1 with | none => decide ((zP [a, b, c, d, e, f, g, h] 8).1 = (zP [a, b, c, d, e, f, g, h] 8).2.1) | some k => decide ((zP [a, b, c, d, e, f, g, h] 8).1 = k ∧ (zP [a, b, c, d, e, f, g, h] 8).2.1 = k + (bestP [a, b, c, d, e, f, g, h] 8).2 ∧ 2 ≤ (bestP [a, b, c, d, e, f, g, h] 8).2 ∧ k + (bestP [a, b, c, d, e, f, g, h] 8).2 ≤ 8)) = true := by decide +kernel
theorem zeros_best (G : List Nat) (hG : G.length = 8) : match (bestN G 8).1 with | none => (zN G 8).1 = (zN G 8).2.1 | some k => (zN G 8).1 = k ∧ (zN G 8).2.1 = k + (bestN G 8).2 ∧ 2 ≤ (bestN G 8).2 ∧ k + (bestN G 8).2 ≤ 8 := by
  obtain ⟨a0, a1, a2, a3, a4, a5, a6, a7, rfl⟩ := list8 hG
  have h := pat_ok (a0 == 0) (a1 == 0) (a2 == 0) (a3 == 0) (a4 == 0) (a5 == 0) (a6 == 0) (a7 == 0)
  rw [zN_zP _ rfl 8 (Nat.le_refl _), bestN_bestP]
  simp only [List.map_cons, List.map_nil]
  revert h
  generalize bestP [a0 == 0, a1 == 0, a2 == 0, a3 == 0, a4 == 0, a5 == 0, a6 == 0, a7 == 0] 8 = bp
  generalize zP [a0 == 0, a1 == 0, a2 == 0, a3 == 0, a4 == 0, a5 == 0, a6 == 0, a7 == 0] 8 = zp
  obtain ⟨o, m⟩ := bp
  cases o with
  | none => intro h; exact of_decide_eq_true h
  | some k => intro h; exact of_decide_eq_true h
/-- The form of groups, as the program puts it together. -/
def form6P (G : List Nat) : List UInt8 := if (zN G 8).1 = (zN G 8).2.1 then Lib.join (G.map hexD) [58] else (Lib.join ((G.take (zN G 8).1).map hexD) [58] ++ [58, 58]) ++ Lib.join ((G.drop (zN G 8).2.1).map hexD) [58]
theorem form6_eq (G : List Nat) (hG : G.length = 8) : outN G (bestN G 8).1 (bestN G 8).2 8 [] 0 = form6P G := by
  have hz := zeros_best G hG
  unfold form6P
  cases ho : (bestN G 8).1 with
  | none =>
    rw [ho] at hz
    simp only at hz
    rw [if_pos hz, outN_none hG _ 8 [] 0 none (by omega) (fun k hk => by cases hk), fold_head _ _ (Or.inl rfl)]
    rfl
  | some k =>
    rw [ho] at hz
    obtain ⟨h1, h2, h3, h4⟩ := hz
    rw [if_neg (by omega), outN_some hG _ k (by omega) (by omega) 8 [] 0 (by omega) (by omega), fold_head _ _ (Or.inl rfl), List.nil_append]
    rw [fold_head _ _ (Or.inr (by rw [getLastD_append (by simp)]; rfl)), h1, h2]
    rfl
end Go.Proofs.YtdmajikhpacpfaaDoor.Cidr
