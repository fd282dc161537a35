/-
  HEADER: the fields of a content, one behind the other, are its first bytes; what is left ahead of the body is an empty line, or nothing: plain.
-/
import Derived.Test.YtnogpoojhhmadaaDoorHdrSplM
namespace Go.Proofs.YtnogpoojhhmadaaDoor.Header
open Go.RowKit Base
/-- One behind the other, from a place on, up to no more than n. -/
def chainF (n : Nat) : Nat → List Fld → Prop
  | _, [] => True
  | a, f :: r => f.fr = a ∧ a < f.en ∧ f.en ≤ n ∧ chainF n f.en r
def endFrom : Nat → List Fld → Nat
  | a, [] => a
  | _, f :: r => endFrom f.en r
theorem chain_snoc {n : Nat} {f : Fld} : ∀ {a : Nat} {T : List Fld}, chainF n a T → f.fr = endFrom a T → endFrom a T < f.en → f.en ≤ n → chainF n a (T ++ [f]) ∧ endFrom a (T ++ [f]) = f.en
  | _, [], _, h1, h2, h3 => ⟨⟨h1, h2, h3, trivial⟩, rfl⟩
  | _, g :: r, ⟨c1, c2, c3, c4⟩, h1, h2, h3 => by
    obtain ⟨k1, k2⟩ := chain_snoc c4 h1 h2 h3
    exact ⟨⟨c1, c2, c3, k1⟩, k2⟩
theorem chain_last {n : Nat} {f : Fld} {x : Nat} {nm bd : List UInt8} : ∀ {a : Nat} {T : List Fld}, chainF n a (T ++ [f]) → f.en ≤ x → x ≤ n → chainF n a (T ++ [⟨nm, bd, f.fr, x⟩]) ∧ endFrom a (T ++ [(⟨nm, bd, f.fr, x⟩ : Fld)]) = x
  | _, [], ⟨c1, c2, _, _⟩, h1, h2 => ⟨⟨c1, by show _ < x; omega, h2, trivial⟩, rfl⟩
  | _, g :: r, ⟨c1, c2, c3, c4⟩, h1, h2 => by
    obtain ⟨k1, k2⟩ := chain_last c4 h1 h2
    exact ⟨⟨c1, c2, c3, k1⟩, k2⟩
theorem endFrom_snoc (f : Fld) : ∀ (a : Nat) (T : List Fld), endFrom a (T ++ [f]) = f.en
  | _, [] => rfl
  | _, g :: r => endFrom_snoc f g.en r
/-- An empty line begins there. -/
def crlfAt (l : List UInt8) (a : Nat) : Prop := a + 1 < l.length ∧ (l.getD a 0).toNat = 13 ∧ (l.getD (a + 1) 0).toNat = 10
theorem line_empty {l : List UInt8} {a : Nat} (ha : a < l.length) (h : (lineOf l a).1 = a) : crlfAt l a ∧ (lineOf l a).2 = a + 2 := by
  by_cases h1 : a + 1 < l.length
  · by_cases h2 : (l.getD a 0).toNat = 13 ∧ (l.getD (a + 1) 0).toNat = 10
    · exact ⟨⟨h1, h2⟩, by rw [line_yes h1 h2.1 h2.2]⟩
    · rw [line_no h1 h2] at h
      have := (line_bounds h1).1
      omega
  · rw [line_end (by omega) (by omega)] at h
    simp at h; omega
theorem split_covers {l : List UInt8} : ∀ (n a : Nat) (T : List Fld), chainF l.length 0 T → endFrom 0 T = a → a ≤ l.length →
    chainF l.length 0 (splitF l n a T).1 ∧ endFrom 0 (splitF l n a T).1 ≤ l.length ∧ ((splitF l n a T).2 = endFrom 0 (splitF l n a T).1 ∨ ((splitF l n a T).2 = endFrom 0 (splitF l n a T).1 + 2 ∧ crlfAt l (endFrom 0 (splitF l n a T).1)))
  | 0, a, T, hc, he, ha => ⟨hc, by show endFrom 0 T ≤ _; omega, Or.inl he.symm⟩
  | n + 1, a, T, hc, he, ha => by
    rw [splitF]
    split
    · rename_i hlt
      have hb := line_bounds hlt
      split
      · rename_i hcont
        obtain ⟨T0, f, rfl⟩ := snoc_of hcont.2.2
        rw [contF_snoc]
        rw [endFrom_snoc] at he
        obtain ⟨k1, k2⟩ := chain_last (nm := f.nm) (bd := (l.take (lineOf l a).1).drop (f.fr + f.nm.length + 1)) (x := (lineOf l a).2) hc (by omega) hb.2.2.1
        exact split_covers n (lineOf l a).2 _ k1 k2 hb.2.2.1
      · split
        · rename_i c hcol
          obtain ⟨k1, k2⟩ := chain_snoc (f := ⟨(l.take (a + c)).drop a, (l.take (lineOf l a).1).drop (a + c + 1), a, (lineOf l a).2⟩) hc he.symm (by rw [he]; exact hb.2.2.2) hb.2.2.1
          exact split_covers n (lineOf l a).2 _ k1 k2 hb.2.2.1
        · refine ⟨hc, by show endFrom 0 T ≤ _; omega, ?_⟩
          by_cases hea : (lineOf l a).1 = a
          · obtain ⟨k1, k2⟩ := line_empty hlt hea
            refine Or.inr ⟨?_, by show crlfAt l (endFrom 0 T); rw [he]; exact k1⟩
            show (if (lineOf l a).1 = a then (lineOf l a).2 else a) = endFrom 0 T + 2
            rw [if_pos hea, k2, he]
          · refine Or.inl ?_
            show (if (lineOf l a).1 = a then (lineOf l a).2 else a) = endFrom 0 T
            rw [if_neg hea, he]
    · exact ⟨hc, by show endFrom 0 T ≤ _; omega, Or.inl he.symm⟩
/-- What the promise says of any content. -/
theorem covers (l : List UInt8) : chainF l.length 0 (splitOf l).1 ∧ endFrom 0 (splitOf l).1 ≤ l.length ∧ ((splitOf l).2 = endFrom 0 (splitOf l).1 ∨ ((splitOf l).2 = endFrom 0 (splitOf l).1 + 2 ∧ crlfAt l (endFrom 0 (splitOf l).1))) :=
  split_covers l.length 0 [] trivial rfl (Nat.zero_le _)
end Go.Proofs.YtnogpoojhhmadaaDoor.Header
