/-
  TABLE, the program: strings.IndexAny at blanks, for any bytes.
-/
import Derived.Test.YtbgdohggdaoojaaDoorTabIdx
import Derived.Test.YtbgdohggdaoojaaDoorTabPBeg
import Derived.Lib.MapLaws
namespace Go.Proofs.YtbgdohggdaoojaaDoor.Table
open Go.RowKit Base
theorem get_list {s : ByteArray} {j : Nat} {b : UInt8} (h : s.data.toList[j]? = some b) : s.get! j = b ∧ j < s.size := by
  have hj : j < s.size := by
    have := (List.getElem?_eq_some_iff.1 h).1
    rw [str_len] at this; exact this
  have h2 := Lib.data_getElem? s j hj
  rw [h] at h2
  refine ⟨?_, hj⟩
  have h3 := get_at s j hj
  rw [Nat.add_zero] at h3
  rw [h3]
  injection h2 with h2
  exact h2.symm
theorem dec_high (s : ByteArray) (i : Nat) (h : i < s.size) (hx : 128 ≤ (s.get! i).toNat) :
    128 ≤ (Utf8.decode s i).1 ∧ 1 ≤ (Utf8.decode s i).2 ∧ i + (Utf8.decode s i).2 ≤ s.size ∧ ∀ j, i ≤ j → j < i + (Utf8.decode s i).2 → 128 ≤ (s.get! j).toNat := by
  rw [Lib.decode_at]
  rcases Lib.decodeN_shape (s.size - i) (s.get! i).toNat (s.get! (i + 1)).toNat (s.get! (i + 2)).toNat (s.get! (i + 3)).toNat with ⟨c, e⟩ | ⟨c1, c2, c3, cv, e⟩ | ⟨c1, c2, c3, c4, cv, cs, e⟩ | ⟨c1, c2, c3, c4, c5, cv, cw, e⟩ | e
  · omega
  · rw [e]
    refine ⟨cv, by show 1 ≤ 2; omega, by show i + 2 ≤ _; omega, fun j h1 h2 => ?_⟩
    have h2 : j < i + 2 := h2
    rcases (show j = i ∨ j = i + 1 by omega) with rfl | rfl <;> omega
  · rw [e]
    refine ⟨by show 128 ≤ _; omega, by show 1 ≤ 3; omega, by show i + 3 ≤ _; omega, fun j h1 h2 => ?_⟩
    have h2 : j < i + 3 := h2
    rcases (show j = i ∨ j = i + 1 ∨ j = i + 2 by omega) with rfl | rfl | rfl <;> omega
  · rw [e]
    refine ⟨by show 128 ≤ _; omega, by show 1 ≤ 4; omega, by show i + 4 ≤ _; omega, fun j h1 h2 => ?_⟩
    have h2 : j < i + 4 := h2
    rcases (show j = i ∨ j = i + 1 ∨ j = i + 2 ∨ j = i + 3 by omega) with rfl | rfl | rfl | rfl <;> omega
  · rw [e]
    refine ⟨by show 128 ≤ 65533; omega, by show 1 ≤ 1; omega, by show i + 1 ≤ _; omega, fun j h1 h2 => ?_⟩
    have h2 : j < i + 1 := h2
    obtain rfl : j = i := by omega
    omega
theorem no_high {s : ByteArray} {i k : Nat} (hno : Lib.NoAny s.data.toList [32, 9] i) (h : ∀ j, i ≤ j → j < i + k → 128 ≤ (s.get! j).toNat) : Lib.NoAny s.data.toList [32, 9] (i + k) := fun j b hj hb => by
  by_cases hji : j < i
  · exact hno j b hji hb
  · have h1 := h j (by omega) hj
    rw [(get_list hb).1] at h1
    rw [bl_iff]
    unfold isBl
    cases hbl : ([32, 9] : List UInt8).contains b
    · rw [bl_iff] at hbl; unfold isBl at hbl; exact hbl
    · simp at hbl
      rcases hbl with rfl | rfl <;> exact absurd h1 (by decide)
theorem idx_any (l : List UInt8) : Lib.indexAny l [32, 9] = idxA l := by
  have hno : Lib.NoAny l [32, 9] (keyOf l).length := fun j b hj hb => by
    have h1 : (keyOf l)[j]? = some b := by
      rw [← (keyOf_take l).1, List.getElem?_take_of_lt hj]; exact hb
    have h2 : noBl b = true := tw_mem l (List.mem_of_getElem? h1)
    rw [bl_iff]
    unfold noBl at h2
    simpa using h2
  unfold idxA
  split
  · rename_i hlt
    have hx : l[(keyOf l).length]? = some l[(keyOf l).length] := List.getElem?_eq_getElem hlt
    refine Lib.indexAny_hit hno hx ?_
    have hd := List.drop_eq_getElem_cons hlt
    rw [(keyOf_take l).2] at hd
    have := dw_head (p := noBl) l hd
    unfold noBl at this
    rw [bl_iff]
    simpa using this
  · have := keyOf_le l
    exact Lib.indexAny_none (by rw [show l.length = (keyOf l).length by omega]; exact hno)
def setIt (w : World) (k : Nat) (s : ByteArray) (pos : Nat) : World := { w with heap := w.heap.setIfInBounds k (.stringIter s pos) }
theorem next_gen {w : World} {k : Nat} {s : ByteArray} {pos : Nat} (ty : TypeId) (hk : w.heap[k]? = some (.stringIter s pos)) (h : pos < s.size) :
    (Instr.next (.pointer (some ⟨k, 0, none⟩)) true ty).run Tryd.prog w = .ok (.tuple #[.bool true, .int .i64 (pos : Int), .int .i32 ((Utf8.decode s pos).1 : Int)]) (setIt w k s (pos + (Utf8.decode s pos).2)) := by
  simp only [Instr.next, getObj, setObj, Sem.run_bind, Sem.run, hk, Result.andThen, h, if_true]
  simp [goInt, setIt]
theorem next_end {w : World} {k : Nat} {s : ByteArray} {pos : Nat} (ty : TypeId) (hk : w.heap[k]? = some (.stringIter s pos)) (h : ¬ pos < s.size) :
    (Instr.next (.pointer (some ⟨k, 0, none⟩)) true ty).run Tryd.prog w = .ok (.tuple #[.bool false]) w := by
  simp [Instr.next, getObj, Sem.run, hk, h]
theorem setIt_at {w : World} {k : Nat} {s : ByteArray} {pos q : Nat} (hk : w.heap[k]? = some (.stringIter s pos)) : (setIt w k s q).heap[k]? = some (.stringIter s q) := by
  have hlt : k < w.heap.size := (Array.getElem?_eq_some_iff.1 hk).1
  simp [setIt, hlt]
theorem setIt_below {w0 w : World} {s : ByteArray} {q : Nat} (h : Below w0.heap.size w0 w) : Below w0.heap.size w0 (setIt w w0.heap.size s q) :=
  h.trans ⟨rfl, rfl, rfl, by simp [setIt], fun k hk => by
    show (w.heap.setIfInBounds w0.heap.size _)[k]? = _
    rw [Array.getElem?_setIfInBounds_ne (by omega)]⟩
structure ItS (w0 wx : World) (s : ByteArray) (i : Nat) : Prop where
  it : wx.heap[w0.heap.size]? = some (.stringIter s i)
  bel : Below w0.heap.size w0 wx
  no : Lib.NoAny s.data.toList [32, 9] i
theorem ItS.after {w0 wx w' : World} {s : ByteArray} {i q : Nat} (h : ItS w0 wx s i) (hb : Below (setIt wx w0.heap.size s q).heap.size (setIt wx w0.heap.size s q) w') (hn : Lib.NoAny s.data.toList [32, 9] q) : ItS w0 w' s q := by
  have h1 := setIt_at (q := q) h.it
  have hlt : w0.heap.size < (setIt wx w0.heap.size s q).heap.size := (Array.getElem?_eq_some_iff.1 h1).1
  exact ⟨(hb.block _ hlt).trans h1, (setIt_below h.bel).trans (hb.mono (Nat.le_of_lt hlt)), hn⟩
set_option maxHeartbeats 4000000 in
set_option maxRecDepth 100000 in
theorem pIdxShort (ch : ByteArray) (hch : ch = ⟨#[32, 9]⟩) (s : ByteArray) (w : World) (h8 : s.size ≤ 8) : Calls Tryd.prog 51 #[.string s, .string ch] w (IdxEnd s.data.toList w) := by
  have HC := Lib.hid hch
  have hemp : ch.toList.isEmpty = false := by rw [hch, Lib.toList_data]; rfl
  have hn1 : ((ch.size : Int) == 1) = false := by rw [hch]; rfl
  have h8z : decide ((8 : Int) < (s.size : Int)) = false := decide_eq_false (by omega)
  have HSU : Hid (∀ w1, Calls Tryd.prog 64 #[.int .i64 (s.size : Int)] w1 fun e w' => e = .returned (.bool false) ∧ w' = w1) := fun w1 => by have := Tryd.strings_shouldUseASCIISet (s.size : Int) w1; rw [h8z] at this; exact this
  have HHI : Hid (∀ (r : Int) w1, 128 ≤ r → Calls Tryd.prog 63 #[.string ch, .int .i32 r] w1 (MinusEnd w1)) := fun r w1 hr => by rw [hch]; exact pHigh r w1 hr
  have HLO : Hid (∀ (x : UInt8) w1, x.toNat < 128 → Calls Tryd.prog 63 #[.string ch, .int .i32 (x.toNat : Int)] w1 fun e w' => e = .returned (.int .i64 (Lib.indexByte [32, 9] x)) ∧ w' = w1) := fun x w1 hx => by
    have := Tryd.strings_IndexRune_ascii ch (x.toNat : Int) w1 (by omega) (by omega)
    have hback : ((x.toNat : Int)).toNat.toUInt8 = x := by simp
    rw [hback, hch] at this
    rw [hch]; exact this
  clear hch h8z h8
  go_enter Tryd.func51, Tryd.ntmps51
  go_wp2_with (first | (go_at_call 64; refine (HSU.out _).mono ?_; rintro e w1 ⟨rfl, rfl⟩) | fail)
  go_loopg [9, 10] s.size (fun g _ _ wx => ∃ i : Nat, i + g = s.size ∧ ItS w1 wx s i)
  case atStart => exact ⟨0, by omega, ⟨World.iter_heap _ _ _, Below.alloc1 _ _, Lib.NoAny.zero _ _⟩⟩
  case round =>
    obtain ⟨i, hig, hit⟩ := hrel
    have HI := Lib.hid hit
    clear hit
    cases gk with
    | zero =>
      obtain rfl : i = s.size := by omega
      have hnx := fun ty => next_end ty HI.out.it (Nat.lt_irrefl _)
      go_wp2
      go_ret
      exact ⟨by rw [← idx_any, Lib.indexAny_none (by rw [str_len]; exact HI.out.no)]; rfl, HI.out.bel⟩
    | succ g =>
      have hi : i < s.size := by omega
      obtain ⟨x, hx⟩ : ∃ x : UInt8, s[i]'hi = x := ⟨_, rfl⟩
      have Hx : Hid (s.data.toList[i]? = some x) := by show _ = _; rw [← hx]; exact Lib.data_getElem? s i hi
      by_cases hlow : x.toNat < 128
      · have hnx := fun ty => next_gen ty HI.out.it hi
        rw [decode_ascii s i hi (by rw [hx]; exact hlow), hx] at hnx
        have hnx2 := Lib.hid hnx
        clear hnx hx
        have hnx : ∀ ty, (Instr.next (.pointer (some ⟨w1.heap.size, 0, none⟩)) true ty).run Tryd.prog wr = .ok (.tuple #[.bool true, .int .i64 (i : Int), .int .i32 (x.toNat : Int)]) (setIt wr w1.heap.size s (i + 1)) := hnx2.out
        clear hnx2
        have hcon := Lib.contains_iff_indexByte [32, 9] x
        cases hin : ([32, 9] : List UInt8).contains x
        · rw [hin] at hcon
          have hlt : ¬ ((0 : Int) ≤ Lib.indexByte [32, 9] x) := of_decide_eq_false hcon.symm
          have HIN := Lib.hid hin
          clear hcon hin
          have HCC := Lib.hid (HLO.out x · hlow)
          revert hlt HCC
          generalize Lib.indexByte [32, 9] x = iv
          intro hlt HCC
          go_wp2_with (first | (go_at_call 63; refine (HCC.out _).mono ?_; rintro e w2 ⟨rfl, hw⟩; rw [hw]) | fail)
          go_roundg g
          case measure => omega
          case rel => exact ⟨i + 1, by omega, HI.out.after (Below.refl _ _) (HI.out.no.succ Hx.out HIN.out)⟩
        · rw [hin] at hcon
          have hge : (0 : Int) ≤ Lib.indexByte [32, 9] x := of_decide_eq_true hcon.symm
          have HIN := Lib.hid hin
          clear hcon hin
          have HCC := Lib.hid (HLO.out x · hlow)
          revert hge HCC
          generalize Lib.indexByte [32, 9] x = iv
          intro hge HCC
          go_wp2_with (first | (go_at_call 63; refine (HCC.out _).mono ?_; rintro e w2 ⟨rfl, hw⟩; rw [hw]) | fail)
          go_ret
          exact ⟨by rw [← idx_any, Lib.indexAny_hit HI.out.no Hx.out HIN.out]; rfl, setIt_below HI.out.bel⟩
      · obtain ⟨d1, d2, d3, d4⟩ := dec_high s i hi (by rw [(get_list Hx.out).1]; omega)
        have hnx := fun ty => next_gen ty HI.out.it hi
        have HN : Hid (Lib.NoAny s.data.toList [32, 9] (i + (Utf8.decode s i).2)) := no_high HI.out.no d4
        clear d4 hx hlow
        revert hnx HN d1 d2 d3
        generalize (Utf8.decode s i).1 = rr
        generalize (Utf8.decode s i).2 = kk
        intro d1 d2 d3 hnx HN
        have HCC := Lib.hid (fun w2 => HHI.out (rr : Int) w2 (by omega))
        go_wp2_with (first | (go_at_call 63; refine (HCC.out _).mono ?_; rintro e w2 ⟨rfl, hb2⟩; refine Hid.out ?_) | fail)
        refine Lib.hid ?_
        have HB2 := Lib.hid hb2
        clear hb2
        go_wp2
        go_roundg (s.size - (i + kk))
        case measure => omega
        case rel => exact ⟨i + kk, by omega, HI.out.after HB2.out HN.out⟩
/-- strings.IndexAny at blanks. -/
theorem idxOk : IdxOk := fun line w hsz => by
  by_cases h8 : line.size ≤ 8
  · exact pIdxShort _ rfl line w h8
  · refine (Tryd.strings_IndexAny_long (fun w => by kernel_rfl) line ⟨#[32, 9]⟩ w (by decide) (by omega) (by omega) (by decide) asc).mono fun e w' h => ⟨?_, ?_⟩
    · rw [h.1]; show _ = Ending.returned (.int .i64 (idxA line.data.toList)); rw [← idx_any]
    · rw [h.2]; exact (Below.alloc1 _ _).trans ((Below.alloc1 _ _).mono (by show w.heap.size ≤ (w.heap.push _).size; rw [Array.size_push]; omega))
end Go.Proofs.YtbgdohggdaoojaaDoor.Table
