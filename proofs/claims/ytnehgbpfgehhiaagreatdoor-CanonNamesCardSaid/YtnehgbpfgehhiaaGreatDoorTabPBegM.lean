/-
  MERGED by mergefill.py: TabPBeg, TabIdx2.
-/
import Derived.Test.YtnehgbpfgehhiaaGreatDoorTabPStM
import Derived.StringKeys
import Derived.Test.YtnehgbpfgehhiaaGreatDoorTabParMM
import Derived.Lib.MapLaws
/-
  TABLE, the program: an entry begins; what is wrong with one.
-/
namespace Go.Proofs.YtnehgbpfgehhiaaGreatDoor.Table
open Go.RowKit Base
open Go.MapKept
/-- Where the first blank is. -/
def idxA (l : List UInt8) : Int := if (keyOf l).length < l.length then ((keyOf l).length : Int) else -1
def IdxEnd (l : List UInt8) (w : World) (e : Ending) (w' : World) : Prop := e = .returned (.int .i64 (idxA l)) ∧ Below w.heap.size w w'
/-- strings.IndexAny at blanks. -/
def IdxOk : Prop := ∀ (line : ByteArray) (w : World), line.size ≤ 1000000 → Calls Tryz.prog 72 #[.string line, .string ⟨#[32, 9]⟩] w (IdxEnd line.data.toList w)
theorem keyOf_le (l : List UInt8) : (keyOf l).length ≤ l.length := (List.takeWhile_sublist _).length_le
theorem keyOf_take (l : List UInt8) : l.take (keyOf l).length = keyOf l ∧ l.drop (keyOf l).length = l.dropWhile noBl := tw_take l
set_option maxHeartbeats 4000000 in
set_option maxRecDepth 100000 in
theorem pBegin (HIX : IdxOk) (B : Nat) (w : World) (rb mb : Nat) (E : List KV) (o : Bool) (s : Int) (key val : List UInt8) (pos : Nat) (line : ByteArray) (h : RSt B w rb mb E o s key val) (hp : line.size ≤ 1000000) :
    Calls Tryz.prog 41 #[.pointer (some ⟨rb, 0, none⟩), .int .i64 (pos : Int), .string line] w (UnitEnd B w rb mb E true (pos : Int) (lower (keyOf line.data.toList)) (valueOf (line.data.toList.dropWhile noBl) [])) := by
  have HI := Lib.hid (HIX line w hp)
  have hkl := keyOf_le line.data.toList
  rw [str_len] at hkl
  obtain ⟨hk1, hk2⟩ := keyOf_take line.data.toList
  have HLW : Hid (∀ w1, Calls Tryz.prog 73 #[.string (line.extract 0 (keyOf line.data.toList).length)] w1 fun e w' => e = .returned (S (lower (keyOf line.data.toList))) ∧ Below w1.heap.size w1 w') := fun w1 => by
    have hsz : (line.extract 0 (keyOf line.data.toList).length).size ≤ line.size := by simp; omega
    have := pLower (line.extract 0 (keyOf line.data.toList).length) w1 (by omega)
    unfold LowEnd at this
    have e : (line.extract 0 (keyOf line.data.toList).length).data.toList = keyOf line.data.toList := by rw [extract_bytes, ← hk1]; simp
    rw [e] at this
    exact this
  have HAD : Hid (∀ w1, RSt B w1 rb mb E true (pos : Int) (lower (keyOf line.data.toList)) [] → Calls Tryz.prog 42 #[.pointer (some ⟨rb, 0, none⟩), .string (line.extract (keyOf line.data.toList).length line.size)] w1 (UnitEnd B w1 rb mb E true (pos : Int) (lower (keyOf line.data.toList)) (valueOf (line.data.toList.dropWhile noBl) []))) := fun w1 h1 => by
    have hsz : (line.extract (keyOf line.data.toList).length line.size).size ≤ line.size := by simp
    have := pAdd B w1 rb mb E true (pos : Int) (lower (keyOf line.data.toList)) [] (line.extract (keyOf line.data.toList).length line.size) h1 (by simp) (by omega)
    have e : (line.extract (keyOf line.data.toList).length line.size).data.toList = line.data.toList.dropWhile noBl := by rw [extract_bytes, List.take_of_length_le (by rw [str_len]; omega)]; exact hk2
    rw [e] at this
    exact this
  have H := Lib.hid h
  unfold IdxEnd idxA at HI
  rw [str_len] at HI
  generalize lower (keyOf line.data.toList) = kk at HLW HAD ⊢
  generalize valueOf (line.data.toList.dropWhile noBl) [] = nv at HAD ⊢
  generalize (keyOf line.data.toList).length = n at *
  clear h hk1 hk2
  have i1 : (0 : Int) ≤ (n : Int) := by omega
  have i2 : (n : Int) ≤ (line.size : Int) := by omega
  by_cases hn : n < line.size
  · rw [if_pos hn] at HI
    have i3 : ¬ (n : Int) < 0 := by omega
    clear hn
    go_enter Tryz.func41, Tryz.ntmps41
    go_wp2_with (first | (go_at_call 72; (with_reducible refine HI.out.mono ?_); rintro e w1 ⟨rfl, hb1⟩; refine Hid.out ?_) | fail)
    refine Lib.hid ?_
    have HB1 := Lib.hid hb1
    clear hb1
    go_wp2_with (first | (go_at_call 73; (with_reducible refine (HLW.out _).mono ?_); rintro e w2 ⟨rfl, hb2⟩; refine Hid.out ?_) | fail)
    refine Lib.hid ?_
    have HB2 := Lib.hid (HB1.out.trans (hb2.mono HB1.out.size))
    clear hb2
    obtain ⟨ev, vv, hx⟩ := H.out.on HB2.out
    obtain ⟨c0, c1, c2, c3, c4, c5, c6⟩ := hx.cells
    obtain ⟨h1, p1⟩ := hx.setBox 2 (.bool true) (o' := true) rfl hx.row hx.val hx.map
    obtain ⟨h2, p2⟩ := h1.setBox 3 (.int .i64 (pos : Int)) (s' := (pos : Int)) rfl h1.row h1.val h1.map
    obtain ⟨h3, p3⟩ := h2.setBox 4 (S kk) (key' := kk) rfl h2.row h2.val h2.map
    obtain ⟨h4, p4⟩ := h3.setBox 5 (.slice none 0 0) (vv' := .slice none 0 0) (val' := []) rfl h3.row (owns_nil _ _) h3.map
    have HR : Hid (RSt B _ rb mb E true (pos : Int) kk []) := ⟨_, _, h4⟩
    have HP := Lib.hid ((PStep.of_below HB2.out (by obtain ⟨_, _, h9⟩ := H.out; exact h9.bge) : PStep B w w2).trans (((p1.trans p2).trans p3).trans p4))
    have f2 := c6 2
    have f3 := c6 3
    have f4 := c6 4
    have f5 := c6 5
    clear hx c6 h1 p1 h2 p2 h3 p3 h4 p4
    go_wp2_with (first | (go_at_call 42; (with_reducible refine (HAD.out _ HR.out).mono ?_); rintro e w3 ⟨rfl, r3, q3⟩; refine Hid.out ?_) | fail)
    refine Lib.hid ?_
    have HF := Lib.hid (And.intro r3 (HP.out.trans q3))
    clear r3 q3
    go_wp2
    go_end0
    exact ⟨rfl, HF.out.1, HF.out.2⟩
  · rw [if_neg hn] at HI
    obtain rfl : n = line.size := by omega
    rw [show line.extract 0 line.size = line by simp] at HLW
    rw [show line.extract line.size line.size = ByteArray.empty by simp] at HAD
    clear hn
    go_enter Tryz.func41, Tryz.ntmps41
    go_wp2_with (first | (go_at_call 72; (with_reducible refine HI.out.mono ?_); rintro e w1 ⟨rfl, hb1⟩; refine Hid.out ?_) | fail)
    refine Lib.hid ?_
    have HB1 := Lib.hid hb1
    clear hb1
    go_wp2_with (first | (go_at_call 73; (with_reducible refine (HLW.out _).mono ?_); rintro e w2 ⟨rfl, hb2⟩; refine Hid.out ?_) | fail)
    refine Lib.hid ?_
    have HB2 := Lib.hid (HB1.out.trans (hb2.mono HB1.out.size))
    clear hb2
    obtain ⟨ev, vv, hx⟩ := H.out.on HB2.out
    obtain ⟨c0, c1, c2, c3, c4, c5, c6⟩ := hx.cells
    obtain ⟨h1, p1⟩ := hx.setBox 2 (.bool true) (o' := true) rfl hx.row hx.val hx.map
    obtain ⟨h2, p2⟩ := h1.setBox 3 (.int .i64 (pos : Int)) (s' := (pos : Int)) rfl h1.row h1.val h1.map
    obtain ⟨h3, p3⟩ := h2.setBox 4 (S kk) (key' := kk) rfl h2.row h2.val h2.map
    obtain ⟨h4, p4⟩ := h3.setBox 5 (.slice none 0 0) (vv' := .slice none 0 0) (val' := []) rfl h3.row (owns_nil _ _) h3.map
    have HR : Hid (RSt B _ rb mb E true (pos : Int) kk []) := ⟨_, _, h4⟩
    have HP := Lib.hid ((PStep.of_below HB2.out (by obtain ⟨_, _, h9⟩ := H.out; exact h9.bge) : PStep B w w2).trans (((p1.trans p2).trans p3).trans p4))
    have f2 := c6 2
    have f3 := c6 3
    have f4 := c6 4
    have f5 := c6 5
    clear hx c6 h1 p1 h2 p2 h3 p3 h4 p4
    go_wp2_with (first | (go_at_call 42; (with_reducible refine (HAD.out _ HR.out).mono ?_); rintro e w3 ⟨rfl, r3, q3⟩; refine Hid.out ?_) | fail)
    refine Lib.hid ?_
    have HF := Lib.hid (And.intro r3 (HP.out.trans q3))
    clear r3 q3
    go_wp2
    go_end0
    exact ⟨rfl, HF.out.1, HF.out.2⟩
/-- What is wrong with an entry behind those. -/
def wrongP (E : List KV) (key val : List UInt8) : Nat :=
  if 320 < key.length ∨ val = [] ∨ 1000 < val.length then 61 else if key ∈ E.map Prod.fst then 63 else if E.length = 2000 then 62 else 0
theorem entM_hit {E : List KV} {key : List UInt8} (h : key ∈ E.map Prod.fst) : (S key, Value.int .i64 1) ∈ E.map entM := by
  obtain ⟨p, hp, rfl⟩ := List.mem_map.1 h
  exact List.mem_map.2 ⟨p, hp, rfl⟩
theorem S_inj {a b : List UInt8} (h : S a = S b) : a = b := by
  have h2 : (⟨a.toArray⟩ : ByteArray) = ⟨b.toArray⟩ := by injection h
  have h3 : a.toArray = b.toArray := by injection h2
  exact List.toArray_inj h3
theorem entM_miss {E : List KV} {key : List UInt8} (h : ¬ key ∈ E.map Prod.fst) : ∀ p ∈ E.map entM, p.1 ≠ S key := fun p hp e => by
  obtain ⟨q, hq, rfl⟩ := List.mem_map.1 hp
  exact h (List.mem_map.2 ⟨q, hq, S_inj e⟩)
theorem keyS (key : List UInt8) (h : key.length ≤ 1000000) : Go.keyOf Tryz.prog 9 (S key) = some (Lit.string key) := by
  have hs : (⟨key.toArray⟩ : ByteArray).size ≤ maxLen := by
    unfold maxLen
    have : (⟨key.toArray⟩ : ByteArray).size = key.length := rfl
    omega
  exact Go.WideMaps.keyOf_string_mk (P := Tryz.prog) (k := 9) Tryz.underlying9 (s := ⟨key.toArray⟩) hs
set_option maxHeartbeats 4000000 in
set_option maxRecDepth 100000 in
theorem pWrong (B : Nat) (w : World) (rb mb : Nat) (E : List KV) (o : Bool) (s : Int) (key val : List UInt8) (h : RSt B w rb mb E o s key val) (hk : key.length ≤ 1000000) (hv : val.length ≤ 9000000) (_he : E.length ≤ 1000000) :
    Calls Tryz.prog 71 #[.pointer (some ⟨rb, 0, none⟩)] w (fun e w' => e = .returned (.int .i64 (wrongP E key val : Int)) ∧ Below w.heap.size w w') := by
  obtain ⟨ev, vv, hx⟩ := h
  obtain ⟨va, vc, rfl, hvc⟩ := row_form hx.val
  obtain ⟨ea, ec, rfl, hec⟩ := row_form hx.row
  obtain ⟨c0, c1, c2, c3, c4, c5, c6⟩ := hx.cells
  have HM := Lib.hid hx.map
  clear hx c2 c3 c6
  by_cases h320 : 320 < key.length
  · have i1 : (320 : Int) < (key.length : Int) := by omega
    have HW := Lib.hid (show wrongP E key val = 61 by unfold wrongP; rw [if_pos (Or.inl h320)])
    clear h320
    go_enter Tryz.func71, Tryz.ntmps71
    go_wp2
    go_ret
    exact ⟨by rw [HW.out]; rfl, Below.refl _ _⟩
  · have i1 : ¬ (320 : Int) < (key.length : Int) := by omega
    by_cases hv0 : val.length = 0
    · have HW := Lib.hid (show wrongP E key val = 61 by unfold wrongP; rw [if_pos (Or.inr (Or.inl (List.eq_nil_of_length_eq_zero hv0)))])
      have i2 : ((val.length : Int) == 0) = true := by rw [hv0]; rfl
      clear hv0 h320
      go_enter Tryz.func71, Tryz.ntmps71
      go_wp2
      go_ret
      exact ⟨by rw [HW.out]; rfl, Below.refl _ _⟩
    · have i2 : ((val.length : Int) == 0) = false := by rw [beq_eq_false_iff_ne]; omega
      have hne : val ≠ [] := fun e => hv0 (by rw [e]; rfl)
      by_cases h1000 : 1000 < val.length
      · have i3 : (1000 : Int) < (val.length : Int) := by omega
        have HW := Lib.hid (show wrongP E key val = 61 by unfold wrongP; rw [if_pos (Or.inr (Or.inr h1000))])
        clear h1000 hv0 h320 hne
        go_enter Tryz.func71, Tryz.ntmps71
        go_wp2
        go_ret
        exact ⟨by rw [HW.out]; rfl, Below.refl _ _⟩
      · have i3 : ¬ (1000 : Int) < (val.length : Int) := by omega
        have hno : ¬ (320 < key.length ∨ val = [] ∨ 1000 < val.length) := fun h => h.elim h320 (fun h => h.elim hne h1000)
        by_cases hin : key ∈ E.map Prod.fst
        · have HW := Lib.hid (show wrongP E key val = 63 by unfold wrongP; rw [if_neg hno, if_pos hin])
          have hlk : ∀ n, (Instr.lookup 85 (.map (some mb)) (S key) false).run Tryz.prog (w.drewN n) = .ok (.int .i64 1) (w.drewN n) := fun n => (HM.out.kept (w' := w.drewN n) rfl).hit false klaw Tryz.underlying85 (Tryz.zeroValue3 _) (entM_hit hin)
          clear h1000 hv0 h320 hne hno hin
          go_enter Tryz.func71, Tryz.ntmps71
          go_wp2
          go_quiet (fail)
          go_wp2
          go_ret
          exact ⟨by rw [HW.out]; rfl, bel_drewN _ _ (Nat.le_refl _)⟩
        · have hlk : ∀ n, (Instr.lookup 85 (.map (some mb)) (S key) false).run Tryz.prog (w.drewN n) = .ok (.int .i64 0) (w.drewN n) := fun n => (HM.out.kept (w' := w.drewN n) rfl).miss false klaw Tryz.underlying85 (Tryz.zeroValue3 _) (keyS key hk) (entM_miss hin)
          by_cases h2000 : E.length = 2000
          · have HW := Lib.hid (show wrongP E key val = 62 by unfold wrongP; rw [if_neg hno, if_neg hin, if_pos h2000])
            have i4 : ((E.length : Int) == 2000) = true := by rw [h2000]; rfl
            clear h1000 hv0 h320 hne hno hin h2000
            go_enter Tryz.func71, Tryz.ntmps71
            go_wp2
            go_quiet (fail)
            go_wp2
            go_ret
            exact ⟨by rw [HW.out]; rfl, bel_drewN _ _ (Nat.le_refl _)⟩
          · have HW := Lib.hid (show wrongP E key val = 0 by unfold wrongP; rw [if_neg hno, if_neg hin, if_neg h2000])
            have i4 : ((E.length : Int) == 2000) = false := by rw [beq_eq_false_iff_ne]; omega
            clear h1000 hv0 h320 hne hno hin h2000
            go_enter Tryz.func71, Tryz.ntmps71
            go_wp2
            go_quiet (fail)
            go_wp2
            go_ret
            exact ⟨by rw [HW.out]; rfl, bel_drewN _ _ (Nat.le_refl _)⟩
end Go.Proofs.YtnehgbpfgehhiaaGreatDoor.Table
/-
  TABLE, the program: strings.IndexAny at blanks, for any bytes.
-/
namespace Go.Proofs.YtnehgbpfgehhiaaGreatDoor.Table
open Go.RowKit Base
theorem get_list {s : ByteArray} {j : Nat} {b : UInt8} (h : s.data.toList[j]? = some b) : s.get! j = b ∧ j < s.size := by
  have hj : j < s.size := by
    have := (List.getElem?_eq_some_iff.1 h).1
    rw [str_len] at this; exact this
  have h2 := Lib.data_getElem? s j hj
  rw [h] at h2
  refine ⟨?_, hj⟩
  have h3 := get_at s j hj
  rw [Nat.add_zero] at h3
  rw [h3]
  injection h2 with h2
  exact h2.symm
theorem dec_high (s : ByteArray) (i : Nat) (h : i < s.size) (hx : 128 ≤ (s.get! i).toNat) :
    128 ≤ (Utf8.decode s i).1 ∧ 1 ≤ (Utf8.decode s i).2 ∧ i + (Utf8.decode s i).2 ≤ s.size ∧ ∀ j, i ≤ j → j < i + (Utf8.decode s i).2 → 128 ≤ (s.get! j).toNat := by
  rw [Lib.decode_at]
  rcases Lib.decodeN_shape (s.size - i) (s.get! i).toNat (s.get! (i + 1)).toNat (s.get! (i + 2)).toNat (s.get! (i + 3)).toNat with ⟨c, e⟩ | ⟨c1, c2, c3, cv, e⟩ | ⟨c1, c2, c3, c4, cv, cs, e⟩ | ⟨c1, c2, c3, c4, c5, cv, cw, e⟩ | e
  · omega
  · rw [e]
    refine ⟨cv, by show 1 ≤ 2; omega, by show i + 2 ≤ _; omega, fun j h1 h2 => ?_⟩
    have h2 : j < i + 2 := h2
    rcases (show j = i ∨ j = i + 1 by omega) with rfl | rfl <;> omega
  · rw [e]
    refine ⟨by show 128 ≤ _; omega, by show 1 ≤ 3; omega, by show i + 3 ≤ _; omega, fun j h1 h2 => ?_⟩
    have h2 : j < i + 3 := h2
    rcases (show j = i ∨ j = i + 1 ∨ j = i + 2 by omega) with rfl | rfl | rfl <;> omega
  · rw [e]
    refine ⟨by show 128 ≤ _; omega, by show 1 ≤ 4; omega, by show i + 4 ≤ _; omega, fun j h1 h2 => ?_⟩
    have h2 : j < i + 4 := h2
    rcases (show j = i ∨ j = i + 1 ∨ j = i + 2 ∨ j = i + 3 by omega) with rfl | rfl | rfl | rfl <;> omega
  · rw [e]
    refine ⟨by show 128 ≤ 65533; omega, by show 1 ≤ 1; omega, by show i + 1 ≤ _; omega, fun j h1 h2 => ?_⟩
    have h2 : j < i + 1 := h2
    obtain rfl : j = i := by omega
    omega
theorem no_high {s : ByteArray} {i k : Nat} (hno : Lib.NoAny s.data.toList [32, 9] i) (h : ∀ j, i ≤ j → j < i + k → 128 ≤ (s.get! j).toNat) : Lib.NoAny s.data.toList [32, 9] (i + k) := fun j b hj hb => by
  by_cases hji : j < i
  · exact hno j b hji hb
  · have h1 := h j (by omega) hj
    rw [(get_list hb).1] at h1
    rw [bl_iff]
    unfold isBl
    cases hbl : ([32, 9] : List UInt8).contains b
    · rw [bl_iff] at hbl; unfold isBl at hbl; exact hbl
    · simp at hbl
      rcases hbl with rfl | rfl <;> exact absurd h1 (by decide)
theorem idx_any (l : List UInt8) : Lib.indexAny l [32, 9] = idxA l := by
  have hno : Lib.NoAny l [32, 9] (keyOf l).length := fun j b hj hb => by
    have h1 : (keyOf l)[j]? = some b := by
      rw [← (keyOf_take l).1, List.getElem?_take_of_lt hj]; exact hb
    have h2 : noBl b = true := tw_mem l (List.mem_of_getElem? h1)
    rw [bl_iff]
    unfold noBl at h2
    simpa using h2
  unfold idxA
  split
  · rename_i hlt
    have hx : l[(keyOf l).length]? = some l[(keyOf l).length] := List.getElem?_eq_getElem hlt
    refine Lib.indexAny_hit hno hx ?_
    have hd := List.drop_eq_getElem_cons hlt
    rw [(keyOf_take l).2] at hd
    have := dw_head (p := noBl) l hd
    unfold noBl at this
    rw [bl_iff]
    simpa using this
  · have := keyOf_le l
    exact Lib.indexAny_none (by rw [show l.length = (keyOf l).length by omega]; exact hno)
def setIt (w : World) (k : Nat) (s : ByteArray) (pos : Nat) : World := { w with heap := w.heap.setIfInBounds k (.stringIter s pos) }
theorem next_gen {w : World} {k : Nat} {s : ByteArray} {pos : Nat} (ty : TypeId) (hk : w.heap[k]? = some (.stringIter s pos)) (h : pos < s.size) :
    (Instr.next (.pointer (some ⟨k, 0, none⟩)) true ty).run Tryz.prog w = .ok (.tuple #[.bool true, .int .i64 (pos : Int), .int .i32 ((Utf8.decode s pos).1 : Int)]) (setIt w k s (pos + (Utf8.decode s pos).2)) := by
  simp only [Instr.next, getObj, setObj, Sem.run_bind, Sem.run, hk, Result.andThen, h, if_true]
  simp [goInt, setIt]
theorem next_end {w : World} {k : Nat} {s : ByteArray} {pos : Nat} (ty : TypeId) (hk : w.heap[k]? = some (.stringIter s pos)) (h : ¬ pos < s.size) :
    (Instr.next (.pointer (some ⟨k, 0, none⟩)) true ty).run Tryz.prog w = .ok (.tuple #[.bool false]) w := by
  simp [Instr.next, getObj, Sem.run, hk, h]
theorem setIt_at {w : World} {k : Nat} {s : ByteArray} {pos q : Nat} (hk : w.heap[k]? = some (.stringIter s pos)) : (setIt w k s q).heap[k]? = some (.stringIter s q) := by
  have hlt : k < w.heap.size := (Array.getElem?_eq_some_iff.1 hk).1
  simp [setIt, hlt]
theorem setIt_below {w0 w : World} {s : ByteArray} {q : Nat} (h : Below w0.heap.size w0 w) : Below w0.heap.size w0 (setIt w w0.heap.size s q) :=
  h.trans ⟨rfl, rfl, rfl, by simp [setIt], fun k hk => by
    show (w.heap.setIfInBounds w0.heap.size _)[k]? = _
    rw [Array.getElem?_setIfInBounds_ne (by omega)]⟩
structure ItS (w0 wx : World) (s : ByteArray) (i : Nat) : Prop where
  it : wx.heap[w0.heap.size]? = some (.stringIter s i)
  bel : Below w0.heap.size w0 wx
  no : Lib.NoAny s.data.toList [32, 9] i
theorem ItS.after {w0 wx w' : World} {s : ByteArray} {i q : Nat} (h : ItS w0 wx s i) (hb : Below (setIt wx w0.heap.size s q).heap.size (setIt wx w0.heap.size s q) w') (hn : Lib.NoAny s.data.toList [32, 9] q) : ItS w0 w' s q := by
  have h1 := setIt_at (q := q) h.it
  have hlt : w0.heap.size < (setIt wx w0.heap.size s q).heap.size := (Array.getElem?_eq_some_iff.1 h1).1
  exact ⟨(hb.block _ hlt).trans h1, (setIt_below h.bel).trans (hb.mono (Nat.le_of_lt hlt)), hn⟩
set_option maxHeartbeats 4000000 in
set_option maxRecDepth 100000 in
theorem pIdxShort (ch : ByteArray) (hch : ch = ⟨#[32, 9]⟩) (s : ByteArray) (w : World) (h8 : s.size ≤ 8) : Calls Tryz.prog 72 #[.string s, .string ch] w (IdxEnd s.data.toList w) := by
  have HC := Lib.hid hch
  have hemp : ch.toList.isEmpty = false := by rw [hch, Lib.toList_data]; rfl
  have hn1 : ((ch.size : Int) == 1) = false := by rw [hch]; rfl
  have h8z : decide ((8 : Int) < (s.size : Int)) = false := decide_eq_false (by omega)
  have HSU : Hid (∀ w1, Calls Tryz.prog 114 #[.int .i64 (s.size : Int)] w1 fun e w' => e = .returned (.bool false) ∧ w' = w1) := fun w1 => by have := Tryz.strings_shouldUseASCIISet (s.size : Int) w1; rw [h8z] at this; exact this
  have HHI : Hid (∀ (r : Int) w1, 128 ≤ r → Calls Tryz.prog 113 #[.string ch, .int .i32 r] w1 (MinusEnd w1)) := fun r w1 hr => by rw [hch]; exact pHigh r w1 hr
  have HLO : Hid (∀ (x : UInt8) w1, x.toNat < 128 → Calls Tryz.prog 113 #[.string ch, .int .i32 (x.toNat : Int)] w1 fun e w' => e = .returned (.int .i64 (Lib.indexByte [32, 9] x)) ∧ w' = w1) := fun x w1 hx => by
    have := Tryz.strings_IndexRune_ascii ch (x.toNat : Int) w1 (by omega) (by omega)
    have hback : ((x.toNat : Int)).toNat.toUInt8 = x := by simp
    rw [hback, hch] at this
    rw [hch]; exact this
  clear hch h8z h8
  go_enter Tryz.func72, Tryz.ntmps72
  go_wp2_with (first | (go_at_call 114; refine (HSU.out _).mono ?_; rintro e w1 ⟨rfl, rfl⟩) | fail)
  go_loopg [9, 10] s.size (fun g _ _ wx => ∃ i : Nat, i + g = s.size ∧ ItS w1 wx s i)
  case atStart => exact ⟨0, by omega, ⟨World.iter_heap _ _ _, Below.alloc1 _ _, Lib.NoAny.zero _ _⟩⟩
  case round =>
    obtain ⟨i, hig, hit⟩ := hrel
    have HI := Lib.hid hit
    clear hit
    cases gk with
    | zero =>
      obtain rfl : i = s.size := by omega
      have hnx := fun ty => next_end ty HI.out.it (Nat.lt_irrefl _)
      go_wp2
      go_ret
      exact ⟨by rw [← idx_any, Lib.indexAny_none (by rw [str_len]; exact HI.out.no)]; rfl, HI.out.bel⟩
    | succ g =>
      have hi : i < s.size := by omega
      obtain ⟨x, hx⟩ : ∃ x : UInt8, s[i]'hi = x := ⟨_, rfl⟩
      have Hx : Hid (s.data.toList[i]? = some x) := by show _ = _; rw [← hx]; exact Lib.data_getElem? s i hi
      by_cases hlow : x.toNat < 128
      · have hnx := fun ty => next_gen ty HI.out.it hi
        rw [decode_ascii s i hi (by rw [hx]; exact hlow), hx] at hnx
        have hnx2 := Lib.hid hnx
        clear hnx hx
        have hnx : ∀ ty, (Instr.next (.pointer (some ⟨w1.heap.size, 0, none⟩)) true ty).run Tryz.prog wr = .ok (.tuple #[.bool true, .int .i64 (i : Int), .int .i32 (x.toNat : Int)]) (setIt wr w1.heap.size s (i + 1)) := hnx2.out
        clear hnx2
        have hcon := Lib.contains_iff_indexByte [32, 9] x
        cases hin : ([32, 9] : List UInt8).contains x
        · rw [hin] at hcon
          have hlt : ¬ ((0 : Int) ≤ Lib.indexByte [32, 9] x) := of_decide_eq_false hcon.symm
          have HIN := Lib.hid hin
          clear hcon hin
          have HCC := Lib.hid (HLO.out x · hlow)
          revert hlt HCC
          generalize Lib.indexByte [32, 9] x = iv
          intro hlt HCC
          go_wp2_with (first | (go_at_call 113; refine (HCC.out _).mono ?_; rintro e w2 ⟨rfl, hw⟩; rw [hw]) | fail)
          go_roundg g
          case measure => omega
          case rel => exact ⟨i + 1, by omega, HI.out.after (Below.refl _ _) (HI.out.no.succ Hx.out HIN.out)⟩
        · rw [hin] at hcon
          have hge : (0 : Int) ≤ Lib.indexByte [32, 9] x := of_decide_eq_true hcon.symm
          have HIN := Lib.hid hin
          clear hcon hin
          have HCC := Lib.hid (HLO.out x · hlow)
          revert hge HCC
          generalize Lib.indexByte [32, 9] x = iv
          intro hge HCC
          go_wp2_with (first | (go_at_call 113; refine (HCC.out _).mono ?_; rintro e w2 ⟨rfl, hw⟩; rw [hw]) | fail)
          go_ret
          exact ⟨by rw [← idx_any, Lib.indexAny_hit HI.out.no Hx.out HIN.out]; rfl, setIt_below HI.out.bel⟩
      · obtain ⟨d1, d2, d3, d4⟩ := dec_high s i hi (by rw [(get_list Hx.out).1]; omega)
        have hnx := fun ty => next_gen ty HI.out.it hi
        have HN : Hid (Lib.NoAny s.data.toList [32, 9] (i + (Utf8.decode s i).2)) := no_high HI.out.no d4
        clear d4 hx hlow
        revert hnx HN d1 d2 d3
        generalize (Utf8.decode s i).1 = rr
        generalize (Utf8.decode s i).2 = kk
        intro d1 d2 d3 hnx HN
        have HCC := Lib.hid (fun w2 => HHI.out (rr : Int) w2 (by omega))
        go_wp2_with (first | (go_at_call 113; refine (HCC.out _).mono ?_; rintro e w2 ⟨rfl, hb2⟩; refine Hid.out ?_) | fail)
        refine Lib.hid ?_
        have HB2 := Lib.hid hb2
        clear hb2
        go_wp2
        go_roundg (s.size - (i + kk))
        case measure => omega
        case rel => exact ⟨i + kk, by omega, HI.out.after HB2.out HN.out⟩
/-- strings.IndexAny at blanks. -/
theorem idxOk : IdxOk := fun line w hsz => by
  by_cases h8 : line.size ≤ 8
  · exact pIdxShort _ rfl line w h8
  · refine (Tryz.strings_IndexAny_long (fun w => by kernel_rfl) line ⟨#[32, 9]⟩ w (by decide) (by omega) (by omega) (by decide) asc).mono fun e w' h => ⟨?_, ?_⟩
    · rw [h.1]; show _ = Ending.returned (.int .i64 (idxA line.data.toList)); rw [← idx_any]
    · rw [h.2]; exact (Below.alloc1 _ _).trans ((Below.alloc1 _ _).mono (by show w.heap.size ≤ (w.heap.push _).size; rw [Array.size_push]; omega))
end Go.Proofs.YtnehgbpfgehhiaaGreatDoor.Table
