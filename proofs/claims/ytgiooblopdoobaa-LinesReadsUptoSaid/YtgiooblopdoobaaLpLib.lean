/-
  LINES, the program: what it asks of package bytes.
-/
import Derived.Test.YtgiooblopdoobaaShelf
import Derived.Test.YtgiooblopdoobaaLinNextP
import Derived.Lib.SlBytesRowKit2
import Derived.Lib.SlBytesConst
import Derived.Lib.IndexLaws
import Derived.Lib.SliceRun
namespace Go.Proofs.Ytgiooblopdoobaa.Lines
open Go.RowKit Base
/-- Bytes as numbers. -/
abbrev nums (l : List UInt8) : List Int := l.map fun c => (c.toNat : Int)
theorem nums_bytes (l : List UInt8) : Lib.bytesOf (nums l) = l := by
  unfold Lib.bytesOf nums
  rw [List.map_map]
  conv => rhs; rw [← List.map_id l]
  apply List.map_congr_left
  intro c _
  simp
theorem nums_get (l : List UInt8) (i : Nat) : (nums l).getD i 0 = ((l.getD i 0).toNat : Int) := by
  unfold nums
  rw [List.getD_eq_getElem?_getD, List.getElem?_map, List.getD_eq_getElem?_getD]
  cases l[i]? with
  | none => rfl
  | some x => rfl
theorem reads_len {w : World} {A : Option Addr} {n c : Nat} {l : List UInt8} (h : Reads w (.slice A n c) l) : n = l.length ∧ n ≤ c := by
  rcases h with ⟨rfl, a, c', e, _⟩ | ⟨b, o, c', e, h1, _⟩
  · cases e; exact ⟨rfl, Nat.zero_le _⟩
  · cases e; exact ⟨rfl, h1⟩
theorem reads_in {w : World} {A : Option Addr} {n c : Nat} {l : List UInt8} (h : Reads w (.slice A n c) l) : Lib.BytesIn w A n (nums l) := by
  rcases h with ⟨rfl, a, c', e, _⟩ | ⟨b, o, c', e, _, h2⟩
  · cases e; exact Lib.BytesIn.nil _ _ _
  · cases e
    exact fun _ => ⟨b, o, rfl, fun i hi => by rw [h2 i hi, nums_get]⟩
theorem byte_back (d : UInt8) : ((d.toNat : Int)).toNat.toUInt8 = d := by simp
/-- Where a byte stands in bytes. -/
theorem pIdx {w : World} {A : Option Addr} {n c : Nat} {l : List UInt8} (h : Reads w (.slice A n c) l) (d : UInt8) :
    Calls Try.prog 22 #[.slice A n c, .int .u8 (d.toNat : Int)] w fun e w' => e = .returned (.int .i64 (Lib.indexByte l d)) ∧ w = w' := by
  obtain ⟨hn, hnc⟩ := reads_len h
  cases A with
  | none =>
    have hl0 : l = [] ∧ c = 0 := by
      rcases h with ⟨h0, a, c', e, hc⟩ | ⟨b, o, c', e, _⟩
      · cases e; exact ⟨h0, hc rfl⟩
      · cases e
    obtain ⟨rfl, rfl⟩ := hl0
    subst hn
    refine (Try.bytes_IndexByte_nil (d.toNat : Int) w).mono ?_
    rintro e w' ⟨rfl, rfl⟩
    exact ⟨rfl, rfl⟩
  | some a =>
    have := Try.bytes_IndexByte_at a n c (nums l) (d.toNat : Int) w (by simp [hn]) (fun i hi => by
      rcases h with ⟨rfl, _⟩ | ⟨b, o, c', e, _, h2⟩
      · simp at hn; omega
      · cases e
        rw [nums_get, Addr.add_lit]
        exact h2 i hi)
    rw [nums_bytes, byte_back] at this
    refine this.mono ?_
    rintro e w' ⟨rfl, rfl⟩
    exact ⟨rfl, rfl⟩
theorem idx_has (d : UInt8) : ∀ l : List UInt8, decide (0 ≤ Lib.indexByte l d) = hasB d l
  | [] => by simp [Lib.indexByte, hasB]
  | x :: r => by
    have ih := idx_has d r
    have hge := Lib.indexByte_ge r d
    rw [show hasB d (x :: r) = (decide (x.toNat = d.toNat) || hasB d r) from rfl, ← ih, Lib.indexByte]
    by_cases hx : x = d
    · subst hx; simp
    · have h1 : ¬ x.toNat = d.toNat := fun e => hx (UInt8.toNat_inj.1 e)
      rw [if_neg (by simpa using hx), decide_eq_false h1, Bool.false_or]
      by_cases hm : Lib.indexByte r d = -1
      · rw [if_pos (by simpa using hm), hm]
      · rw [if_neg (by simpa using hm)]
        congr 1
        apply propext
        omega
theorem idx_end : ∀ l : List UInt8, Lib.indexByte l 10 = if endOf l < l.length then (endOf l : Int) else -1
  | [] => rfl
  | x :: r => by
    have ih := idx_end r
    have hle := endOf_le r
    rw [Lib.indexByte, endOf, List.length_cons]
    by_cases hx : x.toNat = 10
    · have : x = 10 := UInt8.toNat_inj.1 hx
      subst this
      simp
    · have h1 : ¬ x = 10 := fun e => hx (by rw [e]; rfl)
      rw [if_neg (by simpa using h1), if_neg hx, ih]
      by_cases hl : endOf r < r.length
      · rw [if_pos hl, if_neg (by simp; try omega), if_pos (by omega)]; try omega
      · rw [if_neg hl, if_pos (by rfl), if_neg (by omega)]
set_option maxHeartbeats 1600000 in
set_option maxRecDepth 100000 in
/-- Has a line a byte? -/
theorem pHas {w : World} {A : Option Addr} {n c : Nat} {l : List UInt8} (h : Reads w (.slice A n c) l) (d : UInt8) :
    Calls Try.prog 28 #[.slice A n c, .int .u8 (d.toNat : Int)] w (AskEnd (hasB d l) w) := by
  have HI := Lib.hid (pIdx h d)
  have HB := Lib.hid (idx_has d l)
  obtain ⟨i, hi⟩ : ∃ i, i = Lib.indexByte l d := ⟨_, rfl⟩
  rw [← hi] at HI HB
  obtain ⟨dn, hdn⟩ : ∃ dn : Int, dn = (d.toNat : Int) := ⟨_, rfl⟩
  rw [← hdn] at HI ⊢
  obtain ⟨b, hb⟩ : ∃ b, b = hasB d l := ⟨_, rfl⟩
  rw [← hb] at HB ⊢
  clear h hi hdn hb
  go_enter Try.func28, Try.ntmps28
  go_wp2_with (first | (go_at_call 22; refine HI.out.mono ?_; rintro ee w1 ⟨rfl, rfl⟩; refine Hid.out ?_) | fail)
  refine Lib.hid ?_
  by_cases h0 : 0 ≤ i
  · have hbt : b = true := by rw [← HB.out]; simpa using h0
    subst hbt
    go_wp2
    go_ret
    exact ⟨rfl, rfl⟩
  · have hbt : b = false := by rw [← HB.out]; simpa using h0
    subst hbt
    go_wp2
    go_ret
    exact ⟨rfl, rfl⟩
theorem pCutS {w : World} {A A2 : Option Addr} {n c k c2 : Nat} {l y : List UInt8} (h : Reads w (.slice A n c) l) (h2 : Reads w (.slice A2 k c2) y) (hl : l.length ≤ 9000000000000000000) :
    Calls Try.prog 23 #[.slice A n c, .slice A2 k c2] w fun e w' => e = .returned (.tuple #[.slice A (Lib.trimSuffix l y).length c, .bool (Lib.hasSuffix l y)]) ∧ w = w' := by
  obtain ⟨hk, hkc⟩ := reads_len h2
  obtain ⟨hn, hnc⟩ := reads_len h
  have := Try.bytes_CutSuffix_all A A2 n c k c2 (nums l) (nums y) w (by simp [hn]) (by simp [hk]) hnc (by omega) (reads_in h) (reads_in h2)
  rw [trimSuffixV_eq (by simp [hn]) (reads_in h), nums_bytes, nums_bytes] at this
  refine this.mono ?_
  rintro e w' ⟨rfl, rfl⟩
  refine ⟨?_, rfl⟩
  unfold Lib.trimSuffix
  split
  · rename_i hh
    have := hasSuffix_le hh
    rw [List.length_take, List.length_map, Nat.min_eq_left (by omega), hn]
  · rw [hn]
theorem pCutP {w : World} {A A2 : Option Addr} {n c k c2 : Nat} {l : List UInt8} {y : UInt8} (h : Reads w (.slice A n c) l) (h2 : Reads w (.slice A2 k c2) [y]) :
    Calls Try.prog 29 #[.slice A n c, .slice A2 k c2] w fun e w' => (∃ v, e = .returned (.tuple #[v, .bool (Lib.hasPrefix l [y])]) ∧ Reads w v (Lib.trimPrefix l [y])) ∧ w = w' := by
  obtain ⟨hk, hkc⟩ := reads_len h2
  obtain ⟨hn, hnc⟩ := reads_len h
  have := Try.bytes_CutPrefix_all A A2 n c k c2 (nums l) (nums [y]) w (by simp [hn]) (by simp [hk]) hnc (reads_in h) (reads_in h2)
  rw [nums_bytes, nums_bytes] at this
  refine this.mono ?_
  rintro e w' ⟨rfl, rfl⟩
  refine ⟨⟨_, rfl, ?_⟩, rfl⟩
  unfold Lib.trimPrefix
  split
  · rename_i hh
    cases l with
    | nil => simp [Lib.hasPrefix] at hh
    | cons x r =>
      have HT := Reads.tail (at_ := 1) (hn ▸ h) (by simp)
      rcases h with ⟨h0, _⟩ | ⟨b, o, c', e, _, h3⟩
      · cases h0
      · cases e
        have e1 : Lib.trimPrefixV (some ⟨b, o, none⟩) (x :: r).length c (nums (x :: r)) (nums [y]) = Lib.sliceFrom b o (x :: r).length c 1 := by
          show Lib.bytesTrimPrefix _ _ _ _ _ _ = _
          unfold Lib.bytesTrimPrefix
          rw [nums_bytes, nums_bytes, if_pos hh]
          rfl
        rw [e1]
        unfold Lib.sliceFrom
        have e2 : (if c = 1 then some (⟨b, o, none⟩ : Addr) else some ⟨b, o + 1, none⟩) = (if c = 1 then some (⟨b, o, none⟩ : Addr) else Option.map (fun x : Addr => x.add 1) (some (⟨b, o, none⟩ : Addr))) := by
          split
          · rfl
          · simp [Addr.add_lit]
        rw [e2]
        exact HT
  · rename_i hh
    have e1 : Lib.trimPrefixV A n c (nums l) (nums [y]) = .slice A n c := by
      unfold Lib.trimPrefixV
      split
      · unfold Lib.bytesTrimPrefix
        rename_i b o z zs hz
        rw [nums_bytes, nums_bytes, if_neg (by simpa using hh)]
      · rfl
    rw [e1]
    exact h
def CloneEnd (l : List UInt8) (w : World) (e : Ending) (w' : World) : Prop := ∃ v, e = .returned v ∧ Owns w' w.heap.size v l ∧ Below w.heap.size w w'
set_option maxHeartbeats 1600000 in
set_option maxRecDepth 100000 in
theorem pClone {w : World} {v : Value} {l : List UInt8} (h : Reads w v l) (hl : l.length ≤ 200000000000000) : Calls Try.prog 24 #[v] w (CloneEnd l w) := by
  obtain ⟨A, c, rfl⟩ := h.form
  have HR := Lib.hid h
  have q22 : ∀ (w : World) (a : Option Addr) (n c n' c' : Nat), (binOp .eql 32 (.slice a n c) (.slice none n' c')).run Try.prog w = .ok (.bool a.isNone) w := fun w a n c n' c' => Lib.run_eql_slice_nil w _ _ a n c n' c' Try.underlying32
  cases A with
  | none =>
    have hl0 : l = [] ∧ c = 0 := by
      rcases h with ⟨rfl, a, c', e, hc⟩ | ⟨b, o, c', e, _⟩
      · cases e; exact ⟨rfl, hc rfl⟩
      · simp at e
    obtain ⟨rfl, rfl⟩ := hl0
    clear h HR
    go_enter Try.func24, Try.ntmps24
    go_wp2
    go_ret
    exact ⟨_, rfl, owns_nil _ _, Below.refl _ _⟩
  | some a =>
    clear h
    obtain ⟨n, hn⟩ : ∃ n, n = l.length := ⟨_, rfl⟩
    have HN := Lib.hid hn
    rw [← hn] at HR ⊢
    clear hn
    go_enter Try.func24, Try.ntmps24
    go_wp2_with (at_builtin; go_must (refine wp_append_reads _ rfl _ _ rfl w.heap.size (.slice (some ⟨w.heap.size, 0, none⟩) 0 0) _ [] l rfl rfl (owns_new w) (HR.out.on (Below.alloc1 w _)) (by simp; omega) (Below.alloc1 w _).size ?_); intro v3 w3 own3 b3; refine Hid.out ?_)
    refine Lib.hid ?_
    have HO3 := Lib.hid own3
    have HB3 : Hid (Below w.heap.size w w3) := (Below.alloc1 w _).trans b3
    clear own3 b3
    go_wp2
    go_ret
    exact ⟨v3, rfl, by simpa using HO3.out, HB3.out⟩
end Go.Proofs.Ytgiooblopdoobaa.Lines
