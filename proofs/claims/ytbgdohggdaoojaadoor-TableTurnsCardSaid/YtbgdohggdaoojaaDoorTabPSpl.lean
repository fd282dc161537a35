/-
  TABLE, the program: a text cut into its lines.
-/
import Derived.Test.YtbgdohggdaoojaaDoorTabPTab
import Derived.Test.YtbgdohggdaoojaaDoorTabPSm
import Derived.Lib.LaidTab
import Derived.Lib.IndexBytes
import Derived.Lib.IndexLaws
import Derived.Lib.SplitLaws
import Derived.Lib.CountLaws
import Derived.Lib.CutLaws
import Derived.Lib.Split
namespace Go.Proofs.YtbgdohggdaoojaaDoor.Table
open Go.RowKit Base
/-! ### A text cut at a byte -/
theorem byte_none {l : List UInt8} {c : UInt8} (h : Lib.indexByte l c = -1) : ∀ x ∈ l, x ≠ c := fun x hx e => by
  obtain ⟨k, hk⟩ := List.mem_iff_getElem?.1 hx
  exact Lib.indexByte_none h k (by rw [hk, e])
theorem byte_some {l : List UInt8} {c : UInt8} {o : Nat} (h : Lib.indexByte l c = o) : o < l.length ∧ l = l.take o ++ c :: l.drop (o + 1) ∧ ∀ x ∈ l.take o, x ≠ c := by
  obtain ⟨h1, h2⟩ := Lib.indexByte_some h
  obtain ⟨hl, he⟩ := List.getElem?_eq_some_iff.1 h1
  refine ⟨hl, ?_, ?_⟩
  · rw [← he, List.getElem_cons_drop, List.take_append_drop]
  · intro x hx e
    obtain ⟨k, hk⟩ := List.mem_iff_getElem?.1 hx
    have hk2 : k < o := by
      have := (List.getElem?_eq_some_iff.1 hk).1
      rw [List.length_take] at this; omega
    rw [List.getElem?_take_of_lt hk2] at hk
    exact h2 k hk2 (by rw [hk, e])
theorem byte_cases (l : List UInt8) (c : UInt8) : Lib.indexByte l c = -1 ∨ ∃ o : Nat, Lib.indexByte l c = o := by
  have := Lib.indexByte_ge l c
  by_cases h : Lib.indexByte l c = -1
  · exact Or.inl h
  · exact Or.inr ⟨(Lib.indexByte l c).toNat, by omega⟩
theorem splitB_miss {l : List UInt8} {c : UInt8} (h : Lib.indexByte l c = -1) : splitB c l = [l] := splitB_none (byte_none h)
theorem splitB_hit {l : List UInt8} {c : UInt8} {o : Nat} (h : Lib.indexByte l c = o) : splitB c l = l.take o :: splitB c (l.drop (o + 1)) := by
  obtain ⟨_, h1, h2⟩ := byte_some h
  conv => lhs; rw [h1]
  exact splitB_at h2
theorem lib_split (c : UInt8) : ∀ (k : Nat) (s : ByteArray), Lib.countB s ⟨#[c]⟩ = k → (Lib.splitB ⟨#[c]⟩ 0 k s).map (·.data.toList) = splitB c s.data.toList
  | 0, s, hk => by
    rcases Lib.indexB_cases s ⟨#[c]⟩ with hix | ⟨i, hix, _⟩
    · have h2 : Lib.indexByte s.data.toList c = -1 := by rw [← Lib.index_one]; exact hix
      rw [splitB_miss h2]; rfl
    · have := Lib.countB_hit s ⟨#[c]⟩ i (Nat.le_refl 1) hix; omega
  | k + 1, s, hk => by
    rcases Lib.indexB_cases s ⟨#[c]⟩ with hix | ⟨i, hix, _⟩
    · rw [Lib.countB_miss s _ hix] at hk; omega
    · have h2 : Lib.indexByte s.data.toList c = i := by rw [← Lib.index_one]; exact hix
      have h3 := Lib.countB_hit s ⟨#[c]⟩ i (Nat.le_refl 1) hix
      have h4 := lib_split c k (s.extract (i + 1) s.size) (by have : (⟨#[c]⟩ : ByteArray).size = 1 := rfl; rw [this] at h3; omega)
      rw [Lib.splitB_hit _ _ _ _ _ hix, List.map_cons, splitB_hit h2]
      have e1 : (s.extract 0 (i + 0)).data.toList = s.data.toList.take i := by rw [extract_bytes]; simp
      have e2 : (s.extract (i + 1) s.size).data.toList = s.data.toList.drop (i + 1) := by
        rw [extract_bytes]
        rw [List.take_of_length_le (by rw [str_len]; omega)]
      rw [e1]
      congr 1
      rw [← e2]; exact h4
theorem map_S (l : List ByteArray) : (l.map (·.data.toList)).map S = l.map Value.string := by
  rw [List.map_map]; rfl
/-- The library's variable. -/
def MaxOk (w : World) : Prop := ∃ m, w.cell? ⟨0, 0, none⟩ = some (.int .i64 m)
theorem MaxOk.on {w w' : World} (h : MaxOk w) (hb : Below w.heap.size w w') : MaxOk w' := by
  obtain ⟨m, hm⟩ := h
  exact ⟨m, (hb.cell (p := ⟨0, 0, none⟩) (cell_lt hm)).trans hm⟩
/-- strings.Split at one byte. -/
def SplitE (ls : List (List UInt8)) (w : World) (e : Ending) (w' : World) : Prop := ∃ g c cur, e = .returned (.slice (some ⟨g, 0, none⟩) ls.length c) ∧ w'.heap[g]? = some (.cells cur 9 (0, 0)) ∧ ls.length ≤ c ∧ (∀ (i : Nat) x, ls[i]? = some x → cur[i]? = some (S x)) ∧ Below w.heap.size w w'
theorem pSplit (s : ByteArray) (w : World) (hs : s.size ≤ 1000000) (he : MaxOk w) : Calls Tryd.prog 26 #[.string s, .string ⟨#[10]⟩] w (SplitE (splitB 10 s.data.toList) w) := by
  obtain ⟨m, hm⟩ := he
  refine (Tryd.strings_Split s ⟨#[10]⟩ m w (by omega) hm (Nat.le_refl 1)).mono ?_
  rintro e w' ⟨rfl, rfl⟩
  have hl := lib_split 10 _ s rfl
  have hlen := Lib.splitB_all ⟨#[10]⟩ (Nat.le_refl 1) 0 (Lib.countB s ⟨#[10]⟩) s rfl
  have hle := Lib.countB_le ⟨#[10]⟩ (Nat.le_refl 1) s.size s (Nat.le_refl _)
  have hln : (splitB 10 s.data.toList).length = Lib.countB s ⟨#[10]⟩ + 1 := by rw [← hl, List.length_map, hlen]
  refine ⟨w.heap.size, Lib.countB s ⟨#[10]⟩ + 1, ((Lib.splitB ⟨#[10]⟩ 0 (Lib.countB s ⟨#[10]⟩) s).map Value.string).toArray, by rw [hln], (MapKept.heap_alloc w _).1, by rw [hln]; exact Nat.le_refl _, fun i x hx => ?_, Below.alloc1 _ _⟩
  rw [← hl, List.getElem?_map] at hx
  simp only [List.getElem?_toArray, List.getElem?_map]
  cases h : (Lib.splitB ⟨#[10]⟩ 0 (Lib.countB s ⟨#[10]⟩) s)[i]? with
  | none => rw [h] at hx; cases hx
  | some y => rw [h] at hx; cases hx; rfl
end Go.Proofs.YtbgdohggdaoojaaDoor.Table
