/-
  CIDR, the program: what it asks of the library: cuts, pieces, numbers in base ten; the variables that these read.
-/
import Derived.Test.YtdmajikhpacpfaaDoorShelf
import Derived.Test.YtdmajikhpacpfaaDoorCidrParse
import Derived.Lib.LaidTab
import Derived.Lib.IndexBytes
import Derived.Lib.IndexLaws
import Derived.Lib.SplitLaws
import Derived.Lib.CountLaws
import Derived.Lib.CutLaws
import Derived.Lib.Split
namespace Go.Proofs.YtdmajikhpacpfaaDoor.Cidr
open Go.RowKit Base
theorem var_on {P : Program} {w w' : World} {n : String} {cs : Array Value} (h : w.var? P n = some cs) (hb : Below w.heap.size w w') : w'.var? P n = some cs := by
  unfold World.var? at h ⊢
  cases hg : P.globalNamed n with
  | none => rw [hg] at h; cases h
  | some g =>
    rw [hg] at h
    simp only [Option.bind_some] at h ⊢
    cases hh : w.heap[g]? with
    | none => rw [hh] at h; cases h
    | some o => rw [hb.block g (heap_lt hh)]; rw [hh] at h ⊢; exact h
/-- The library's variables. -/
structure Env (w : World) : Prop where
  max : ∃ m, w.var? Tryd.prog "internal/bytealg.MaxLen" = some #[.int .i64 m]
  syn : ∃ tp p, w.var? Tryd.prog "strconv.ErrSyntax" = some #[.iface tp p]
  rng : ∃ tp p, w.var? Tryd.prog "strconv.ErrRange" = some #[.iface tp p]
  pow : Lib.TabIs Tryd.prog w "internal/strconv.uint64pow10" .u64 Lib.pow10Tab
theorem Env.on {w w' : World} (h : Env w) (hb : Below w.heap.size w w') : Env w' := by
  obtain ⟨⟨m, h1⟩, ⟨a, b, h2⟩, ⟨c, d, h3⟩, h4⟩ := h
  exact ⟨⟨m, var_on h1 hb⟩, ⟨a, b, var_on h2 hb⟩, ⟨c, d, var_on h3 hb⟩, var_on h4 hb⟩
theorem var_cell {w : World} {n : String} {g : Nat} {v : Value} (hg : Tryd.prog.globalNamed n = some g) (h : w.var? Tryd.prog n = some #[v]) : w.cell? ⟨g, 0, none⟩ = some v := by
  unfold World.var? at h
  rw [hg] at h
  simp only [Option.bind_some] at h
  unfold World.cell?
  cases hh : w.heap[g]? with
  | none => rw [hh] at h; cases h
  | some o =>
    rw [hh] at h
    cases o with
    | cells cs t fz => simp only [Option.some.injEq] at h; subst h; rfl
    | _ => cases h
theorem gMax : Tryd.prog.globalNamed "internal/bytealg.MaxLen" = some 0 := by kernel_rfl
theorem gSyn : Tryd.prog.globalNamed "strconv.ErrSyntax" = some 3 := by kernel_rfl
theorem gRng : Tryd.prog.globalNamed "strconv.ErrRange" = some 4 := by kernel_rfl
theorem Env.maxCell {w : World} (h : Env w) : ∃ m, w.cell? ⟨0, 0, none⟩ = some (.int .i64 m) := by
  obtain ⟨m, hm⟩ := h.max
  exact ⟨m, var_cell gMax hm⟩
theorem bel_drew (n : Nat) (w : World) : Below w.heap.size w (w.drewN n) := ⟨rfl, rfl, rfl, Nat.le_refl _, fun _ _ => rfl⟩
/-! ### A text cut at a byte -/
theorem byte_none {l : List UInt8} {c : UInt8} (h : Lib.indexByte l c = -1) : ∀ x ∈ l, x ≠ c := fun x hx e => by
  obtain ⟨k, hk⟩ := List.mem_iff_getElem?.1 hx
  exact Lib.indexByte_none h k (by rw [hk, e])
theorem byte_some {l : List UInt8} {c : UInt8} {o : Nat} (h : Lib.indexByte l c = o) : o < l.length ∧ l = l.take o ++ c :: l.drop (o + 1) ∧ ∀ x ∈ l.take o, x ≠ c := by
  obtain ⟨h1, h2⟩ := Lib.indexByte_some h
  obtain ⟨hl, he⟩ := List.getElem?_eq_some_iff.1 h1
  refine ⟨hl, ?_, ?_⟩
  · rw [← he, List.getElem_cons_drop, List.take_append_drop]
  · intro x hx e
    obtain ⟨k, hk⟩ := List.mem_iff_getElem?.1 hx
    have hk2 : k < o := by
      have := (List.getElem?_eq_some_iff.1 hk).1
      rw [List.length_take] at this; omega
    rw [List.getElem?_take_of_lt hk2] at hk
    exact h2 k hk2 (by rw [hk, e])
theorem byte_cases (l : List UInt8) (c : UInt8) : Lib.indexByte l c = -1 ∨ ∃ o : Nat, Lib.indexByte l c = o := by
  have := Lib.indexByte_ge l c
  by_cases h : Lib.indexByte l c = -1
  · exact Or.inl h
  · exact Or.inr ⟨(Lib.indexByte l c).toNat, by omega⟩
theorem splitB_miss {l : List UInt8} {c : UInt8} (h : Lib.indexByte l c = -1) : splitB c l = [l] := splitB_none (byte_none h)
theorem splitB_hit {l : List UInt8} {c : UInt8} {o : Nat} (h : Lib.indexByte l c = o) : splitB c l = l.take o :: splitB c (l.drop (o + 1)) := by
  obtain ⟨_, h1, h2⟩ := byte_some h
  conv => lhs; rw [h1]
  exact splitB_at h2
theorem lib_split (c : UInt8) : ∀ (k : Nat) (s : ByteArray), Lib.countB s ⟨#[c]⟩ = k → (Lib.splitB ⟨#[c]⟩ 0 k s).map (·.data.toList) = splitB c s.data.toList
  | 0, s, hk => by
    rcases Lib.indexB_cases s ⟨#[c]⟩ with hix | ⟨i, hix, _⟩
    · have h2 : Lib.indexByte s.data.toList c = -1 := by rw [← Lib.index_one]; exact hix
      rw [splitB_miss h2]; rfl
    · have := Lib.countB_hit s ⟨#[c]⟩ i (Nat.le_refl 1) hix; omega
  | k + 1, s, hk => by
    rcases Lib.indexB_cases s ⟨#[c]⟩ with hix | ⟨i, hix, _⟩
    · rw [Lib.countB_miss s _ hix] at hk; omega
    · have h2 : Lib.indexByte s.data.toList c = i := by rw [← Lib.index_one]; exact hix
      have h3 := Lib.countB_hit s ⟨#[c]⟩ i (Nat.le_refl 1) hix
      have h4 := lib_split c k (s.extract (i + 1) s.size) (by have : (⟨#[c]⟩ : ByteArray).size = 1 := rfl; rw [this] at h3; omega)
      rw [Lib.splitB_hit _ _ _ _ _ hix, List.map_cons, splitB_hit h2]
      have e1 : (s.extract 0 (i + 0)).data.toList = s.data.toList.take i := by rw [extract_bytes]; simp
      have e2 : (s.extract (i + 1) s.size).data.toList = s.data.toList.drop (i + 1) := by
        rw [extract_bytes]
        rw [List.take_of_length_le (by rw [str_len]; omega)]
      rw [e1]
      congr 1
      rw [← e2]; exact h4
theorem map_S (l : List ByteArray) : (l.map (·.data.toList)).map S = l.map Value.string := by
  rw [List.map_map]; rfl
/-- strings.Split at one byte. -/
theorem pSplit (s : ByteArray) (c : UInt8) (w : World) (hs : s.size ≤ 100) (he : Env w) : Calls Tryd.prog 48 #[.string s, .string ⟨#[c]⟩] w (SplitEnd (splitB c s.data.toList) w) := by
  obtain ⟨m, hm⟩ := he.maxCell
  refine (Tryd.strings_Split s ⟨#[c]⟩ m w (by omega) hm (Nat.le_refl 1)).mono ?_
  rintro e w' ⟨rfl, rfl⟩
  have hl := lib_split c _ s rfl
  have hlen := Lib.splitB_all ⟨#[c]⟩ (Nat.le_refl 1) 0 (Lib.countB s ⟨#[c]⟩) s rfl
  have hle := Lib.countB_le ⟨#[c]⟩ (Nat.le_refl 1) s.size s (Nat.le_refl _)
  refine ⟨_, rfl, ?_, Below.alloc1 _ _⟩
  unfold OwnsS
  rw [← hl, map_S, List.length_map, hlen]
  have := World.ownsRow_lit (base := w.heap.size) (e := 9) (size := 1) w ((Lib.splitB ⟨#[c]⟩ 0 (Lib.countB s ⟨#[c]⟩) s).map Value.string).toArray (Lib.countB s ⟨#[c]⟩ + 1) (Nat.le_refl _) (by unfold maxLen; omega) (by simp [hlen])
  simpa using this
/-- strings.Cut at one byte, however long the text is. -/
def CutEnd1 (l : List UInt8) (c : UInt8) (w : World) (e : Ending) (w' : World) : Prop :=
  Below w.heap.size w w' ∧ ((splitB c l = [l] ∧ e = .returned (.tuple #[S l, .string ⟨#[]⟩, .bool false])) ∨ ∃ p q, splitB c l = p :: splitB c q ∧ e = .returned (.tuple #[S p, S q, .bool true]) ∧ p.length + q.length < l.length)
set_option maxRecDepth 100000 in
theorem pCutL (s : ByteArray) (c : UInt8) (w : World) (hs : s.size ≤ 9223372036854775807) : Calls Tryd.prog 51 #[.string s, .string ⟨#[c]⟩] w (CutEnd1 s.data.toList c w) := by
  rcases byte_cases s.data.toList c with hix | ⟨o, hix⟩
  · have HM := Lib.hid (splitB_miss hix)
    have HI := Lib.hid (Tryd.stringslite_Index_one s c)
    go_enter Tryd.func51, Tryd.ntmps51
    go_wp2_with (first | (go_at_call 61; refine (HI.out _).mono ?_; rintro e w' ⟨rfl, rfl⟩; rw [hix]) | fail)
    go_ret3
    exact ⟨Below.refl _ _, Or.inl ⟨HM.out, rfl⟩⟩
  · obtain ⟨h1, -, -⟩ := byte_some hix
    rw [str_len] at h1
    have HM := Lib.hid (splitB_hit hix)
    have HI := Lib.hid (Tryd.stringslite_Index_one s c)
    have c1 : (0 : Int) ≤ (o : Int) := by omega
    have c2 : (o : Int) ≤ (s.size : Int) := by omega
    have c3 : (0 : Int) ≤ (o : Int) + 1 := by omega
    have c4 : (o : Int) + 1 ≤ (s.size : Int) := by omega
    have HE1 : Hid (s.extract 0 o = ⟨(s.data.toList.take o).toArray⟩) := by
      show _ = _
      rw [extract_bytes]; simp
    have HE2 : Hid (s.extract (o + 1) s.size = ⟨(s.data.toList.drop (o + 1)).toArray⟩) := by
      show _ = _
      rw [extract_bytes, List.take_of_length_le (by rw [str_len]; omega)]
    have HL : Hid ((s.data.toList.take o).length + (s.data.toList.drop (o + 1)).length < s.data.toList.length) := by
      show _ < _
      rw [List.length_take, List.length_drop, str_len]; omega
    go_enter Tryd.func51, Tryd.ntmps51
    go_wp2_with (first | (go_at_call 61; refine (HI.out _).mono ?_; rintro e w' ⟨rfl, rfl⟩; rw [hix]) | fail)
    go_region
    go_wp2
    go_ret3
    exact ⟨(Below.refl _ _).drew, Or.inr ⟨_, _, HM.out, by rw [HE1.out, HE2.out]; rfl, HL.out⟩⟩
theorem pCut1 (s : ByteArray) (c : UInt8) (w : World) (hs : s.size ≤ 9223372036854775807) : Calls Tryd.prog 30 #[.string s, .string ⟨#[c]⟩] w (CutEnd1 s.data.toList c w) := by
  have HC := Lib.hid (pCutL s c w hs)
  go_enter Tryd.func30, Tryd.ntmps30
  go_wp2_with (first | (go_at_call 51; refine (HC.out).mono ?_; rintro e w' ⟨hb, (⟨h1, rfl⟩ | ⟨p, q, h1, rfl, h3⟩)⟩) | fail)
  · go_ret3
    exact ⟨hb, Or.inl ⟨h1, rfl⟩⟩
  · go_ret3
    exact ⟨hb, Or.inr ⟨p, q, h1, rfl, h3⟩⟩
end Go.Proofs.YtdmajikhpacpfaaDoor.Cidr
