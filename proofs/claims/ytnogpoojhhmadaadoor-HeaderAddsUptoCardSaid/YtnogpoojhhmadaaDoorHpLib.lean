/-
  HEADER, the program: what it asks of package bytes; the library's variables.
-/
import Derived.Test.YtnogpoojhhmadaaDoorShelf
import Derived.Test.YtnogpoojhhmadaaDoorHpSize
import Derived.Test.YtnogpoojhhmadaaDoorHpPlain2
import Derived.Lib.SlBytesRowKit2
import Derived.Lib.SlBytesConst
namespace Go.Proofs.YtnogpoojhhmadaaDoor.Header
open Go.RowKit Base
/-- The library's variables. -/
structure Env (w : World) : Prop where
  max : ∃ m, w.cell? ⟨0, 0, none⟩ = some (.int .i64 m)
theorem Env.on {w w' : World} (h : Env w) (hb : Below w.heap.size w w') : Env w' := by
  obtain ⟨⟨m, h1⟩⟩ := h
  refine ⟨⟨m, ?_⟩⟩
  unfold World.cell? at h1 ⊢
  rw [hb.block _ (cell_lt h1)]
  exact h1
/-- Bytes as numbers. -/
abbrev nums (l : List UInt8) : List Int := l.map fun c => (c.toNat : Int)
theorem nums_bytes (l : List UInt8) : Lib.bytesOf (nums l) = l := by
  unfold Lib.bytesOf nums
  rw [List.map_map]
  conv => rhs; rw [← List.map_id l]
  apply List.map_congr_left
  intro c _
  simp
theorem nums_get (l : List UInt8) (i : Nat) : (nums l).getD i 0 = ((l.getD i 0).toNat : Int) := by
  unfold nums
  rw [List.getD_eq_getElem?_getD, List.getElem?_map, List.getD_eq_getElem?_getD]
  cases l[i]? with
  | none => rfl
  | some x => rfl
theorem nums_range (l : List UInt8) : ∀ x ∈ nums l, 0 ≤ x ∧ x < 256 := fun x hx => by
  obtain ⟨c, _, rfl⟩ := List.mem_map.1 hx
  have := c.toNat_lt
  omega
theorem reads_len {w : World} {A : Option Addr} {n c : Nat} {l : List UInt8} (h : Reads w (.slice A n c) l) : n = l.length ∧ n ≤ c := by
  rcases h with ⟨rfl, a, c', e, _⟩ | ⟨b, o, c', e, h1, _⟩
  · cases e; exact ⟨rfl, Nat.zero_le _⟩
  · cases e; exact ⟨rfl, h1⟩
theorem reads_in {w : World} {A : Option Addr} {n c : Nat} {l : List UInt8} (h : Reads w (.slice A n c) l) : Lib.BytesIn w A n (nums l) := by
  rcases h with ⟨rfl, a, c', e, _⟩ | ⟨b, o, c', e, _, h2⟩
  · cases e; exact Lib.BytesIn.nil _ _ _
  · cases e
    exact fun _ => ⟨b, o, rfl, fun i hi => by rw [h2 i hi, nums_get]⟩
/-- Where bytes stand in bytes. -/
theorem pIndex {w : World} {A A2 : Option Addr} {n c k c2 : Nat} {l y : List UInt8} (h : Reads w (.slice A n c) l) (h2 : Reads w (.slice A2 k c2) y) (hy : 2 ≤ y.length) (hl : l.length ≤ 4000000000) (hyl : y.length ≤ 1000) (he : Env w) :
    Calls Tryd.prog 62 #[.slice A n c, .slice A2 k c2] w fun e w' => e = .returned (.int .i64 (Lib.index l y)) ∧ Below w.heap.size w w' := by
  obtain ⟨hk, hkc⟩ := reads_len h2
  obtain ⟨hn, hnc⟩ := reads_len h
  obtain ⟨b2, o2, rfl, _, _, hc2⟩ := reads_cells h2 (i := 0) (by omega)
  obtain ⟨m, hm⟩ := he.max
  cases hA : A with
  | none =>
    have hl0 : l = [] := by
      rcases h with ⟨h0, _⟩ | ⟨b, o, c', e, _⟩
      · exact h0
      · rw [hA] at e; cases e
    have hc0 : c = 0 := by
      rcases h with ⟨_, a, c', e, hcc⟩ | ⟨b, o, c', e, _⟩
      · cases e; exact hcc hA
      · rw [hA] at e; cases e
    subst hl0
    subst hc0
    subst hn
    refine (Tryd.bytes_Index_nil (some ⟨b2, o2, none⟩) k c2 w (by omega) (fun h1 => by omega)).mono ?_
    rintro e w' ⟨rfl, rfl⟩
    refine ⟨?_, Below.refl _ _⟩
    rw [if_neg (by omega)]
    cases y with
    | nil => simp at hy
    | cons a r => rfl
  | some a =>
    have hc1 : ∀ i, i < n → w.cell? (a.add i) = some (.int .u8 ((nums l).getD i 0)) := fun i hi => by
      obtain ⟨b, o, hbo, _, _, hcc⟩ := reads_cells h (i := i) (by omega)
      rw [hA] at hbo
      cases hbo
      rw [nums_get, Addr.add_lit]
      exact hcc i (by omega)
    have hc3 : ∀ i, i < k → w.cell? ((⟨b2, o2, none⟩ : Addr).add i) = some (.int .u8 ((nums y).getD i 0)) := fun i hi => by
      rw [nums_get, Addr.add_lit]
      exact hc2 i (by omega)
    have := Tryd.bytes_Index_at a ⟨b2, o2, none⟩ n c k c2 (nums l) (nums y) m w (by simp [hn]) (by simp [hk]) (nums_range l) (nums_range y) hc1 hc3 hnc (by omega) (by omega) hm
    rw [nums_bytes, nums_bytes] at this
    refine this.mono ?_
    rintro e w' ⟨rfl, q, rfl⟩
    exact ⟨rfl, bel_drewN _ _ (Nat.le_refl _)⟩
theorem pPrefix {w : World} {A A2 : Option Addr} {n c k c2 : Nat} {l y : List UInt8} (h : Reads w (.slice A n c) l) (h2 : Reads w (.slice A2 k c2) y) :
    Calls Tryd.prog 27 #[.slice A n c, .slice A2 k c2] w fun e w' => e = .returned (.bool (Lib.hasPrefix l y)) ∧ w = w' := by
  obtain ⟨hk, hkc⟩ := reads_len h2
  obtain ⟨hn, hnc⟩ := reads_len h
  have := Tryd.bytes_HasPrefix_all A A2 n c k c2 (nums l) (nums y) w (by simp [hn]) (by simp [hk]) hnc (reads_in h) (reads_in h2)
  rw [nums_bytes, nums_bytes] at this
  exact this.mono fun e w' h => ⟨h.1, h.2.symm⟩
theorem pTrimS {w : World} {A A2 : Option Addr} {n c k c2 : Nat} {l y : List UInt8} (h : Reads w (.slice A n c) l) (h2 : Reads w (.slice A2 k c2) y) (hl : l.length ≤ 4000000000) :
    Calls Tryd.prog 43 #[.slice A n c, .slice A2 k c2] w fun e w' => e = .returned (.slice A (Lib.trimSuffix l y).length c) ∧ w = w' := by
  obtain ⟨hk, hkc⟩ := reads_len h2
  obtain ⟨hn, hnc⟩ := reads_len h
  have := Tryd.bytes_TrimSuffix_all A A2 n c k c2 (nums l) (nums y) w (by simp [hn]) (by simp [hk]) hnc (by omega) (reads_in h) (reads_in h2)
  rw [trimSuffixV_eq (by simp [hn]) (reads_in h), nums_bytes, nums_bytes] at this
  refine this.mono ?_
  rintro e w' ⟨rfl, rfl⟩
  refine ⟨?_, rfl⟩
  unfold Lib.trimSuffix
  split
  · rename_i hh
    have := hasSuffix_le hh
    rw [List.length_take, List.length_map, Nat.min_eq_left (by omega), hn]
  · rw [hn]
theorem trim_len (l : List UInt8) : (trimCR l).length ≤ l.length ∧ trimCR l = l.take (trimCR l).length := by
  unfold trimCR Lib.trimSuffix
  split
  · refine ⟨by rw [List.length_take]; omega, ?_⟩
    rw [List.length_take, Nat.min_eq_left (by omega)]
  · exact ⟨Nat.le_refl _, by simp⟩
/-- A line's end, as the program lays it. -/
abbrev crlfO : Obj := .cells #[.int .u8 13, .int .u8 10] 5 (2, 3)
theorem crlf_reads (w : World) : Reads (w.alloc crlfO) (.slice (some ⟨w.heap.size, 0, none⟩) 2 2) [13, 10] := by
  refine Or.inr ⟨w.heap.size, 0, 2, rfl, Nat.le_refl _, fun i hi => ?_⟩
  have h0 := (MapKept.heap_alloc w crlfO).1
  unfold World.cell?
  rw [Nat.zero_add, h0]
  have hi : i < 2 := hi
  rcases (by omega : i = 0 ∨ i = 1) with rfl | rfl <;> rfl
theorem conv_crlf (w : World) : (convert 22 22 (.slice (some ⟨w.heap.size, 0, none⟩) 2 2)).run Tryd.prog (w.alloc (.cells #[.int .u8 13, .int .u8 10] 5)) = .ok (.slice (some ⟨w.heap.size, 0, none⟩) 2 2) (w.alloc crlfO) :=
  Lib.run_convert_bytes_const (P := Tryd.prog) w 22 5 #[.int .u8 13, .int .u8 10] 2 2 Tryd.underlying22 Tryd.underlying5
end Go.Proofs.YtnogpoojhhmadaaDoor.Header
