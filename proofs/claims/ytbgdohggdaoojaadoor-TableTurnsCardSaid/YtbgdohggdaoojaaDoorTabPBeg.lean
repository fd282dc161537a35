/-
  TABLE, the program: an entry begins; what is wrong with one.
-/
import Derived.Test.YtbgdohggdaoojaaDoorTabPAdd
import Derived.StringKeys
namespace Go.Proofs.YtbgdohggdaoojaaDoor.Table
open Go.RowKit Base
open Go.MapKept
/-- Where the first blank is. -/
def idxA (l : List UInt8) : Int := if (keyOf l).length < l.length then ((keyOf l).length : Int) else -1
def IdxEnd (l : List UInt8) (w : World) (e : Ending) (w' : World) : Prop := e = .returned (.int .i64 (idxA l)) ∧ Below w.heap.size w w'
/-- strings.IndexAny at blanks. -/
def IdxOk : Prop := ∀ (line : ByteArray) (w : World), line.size ≤ 1000000 → Calls Tryd.prog 51 #[.string line, .string ⟨#[32, 9]⟩] w (IdxEnd line.data.toList w)
theorem keyOf_le (l : List UInt8) : (keyOf l).length ≤ l.length := (List.takeWhile_sublist _).length_le
theorem keyOf_take (l : List UInt8) : l.take (keyOf l).length = keyOf l ∧ l.drop (keyOf l).length = l.dropWhile noBl := tw_take l
set_option maxHeartbeats 4000000 in
set_option maxRecDepth 100000 in
theorem pBegin (HIX : IdxOk) (B : Nat) (w : World) (rb mb : Nat) (E : List KV) (o : Bool) (s : Int) (key val : List UInt8) (pos : Nat) (line : ByteArray) (h : RSt B w rb mb E o s key val) (hp : line.size ≤ 1000000) :
    Calls Tryd.prog 30 #[.pointer (some ⟨rb, 0, none⟩), .int .i64 (pos : Int), .string line] w (UnitEnd B w rb mb E true (pos : Int) (lower (keyOf line.data.toList)) (valueOf (line.data.toList.dropWhile noBl) [])) := by
  have HI := Lib.hid (HIX line w hp)
  have hkl := keyOf_le line.data.toList
  rw [str_len] at hkl
  obtain ⟨hk1, hk2⟩ := keyOf_take line.data.toList
  have HLW : Hid (∀ w1, Calls Tryd.prog 43 #[.string (line.extract 0 (keyOf line.data.toList).length)] w1 fun e w' => e = .returned (S (lower (keyOf line.data.toList))) ∧ Below w1.heap.size w1 w') := fun w1 => by
    have hsz : (line.extract 0 (keyOf line.data.toList).length).size ≤ line.size := by simp; omega
    have := pLower (line.extract 0 (keyOf line.data.toList).length) w1 (by omega)
    unfold LowEnd at this
    have e : (line.extract 0 (keyOf line.data.toList).length).data.toList = keyOf line.data.toList := by rw [extract_bytes, ← hk1]; simp
    rw [e] at this
    exact this
  have HAD : Hid (∀ w1, RSt B w1 rb mb E true (pos : Int) (lower (keyOf line.data.toList)) [] → Calls Tryd.prog 31 #[.pointer (some ⟨rb, 0, none⟩), .string (line.extract (keyOf line.data.toList).length line.size)] w1 (UnitEnd B w1 rb mb E true (pos : Int) (lower (keyOf line.data.toList)) (valueOf (line.data.toList.dropWhile noBl) []))) := fun w1 h1 => by
    have hsz : (line.extract (keyOf line.data.toList).length line.size).size ≤ line.size := by simp
    have := pAdd B w1 rb mb E true (pos : Int) (lower (keyOf line.data.toList)) [] (line.extract (keyOf line.data.toList).length line.size) h1 (by simp) (by omega)
    have e : (line.extract (keyOf line.data.toList).length line.size).data.toList = line.data.toList.dropWhile noBl := by rw [extract_bytes, List.take_of_length_le (by rw [str_len]; omega)]; exact hk2
    rw [e] at this
    exact this
  have H := Lib.hid h
  unfold IdxEnd idxA at HI
  rw [str_len] at HI
  generalize lower (keyOf line.data.toList) = kk at HLW HAD ⊢
  generalize valueOf (line.data.toList.dropWhile noBl) [] = nv at HAD ⊢
  generalize (keyOf line.data.toList).length = n at *
  clear h hk1 hk2
  have i1 : (0 : Int) ≤ (n : Int) := by omega
  have i2 : (n : Int) ≤ (line.size : Int) := by omega
  by_cases hn : n < line.size
  · rw [if_pos hn] at HI
    have i3 : ¬ (n : Int) < 0 := by omega
    clear hn
    go_enter Tryd.func30, Tryd.ntmps30
    go_wp2_with (first | (go_at_call 51; (with_reducible refine HI.out.mono ?_); rintro e w1 ⟨rfl, hb1⟩; refine Hid.out ?_) | fail)
    refine Lib.hid ?_
    have HB1 := Lib.hid hb1
    clear hb1
    go_wp2_with (first | (go_at_call 43; (with_reducible refine (HLW.out _).mono ?_); rintro e w2 ⟨rfl, hb2⟩; refine Hid.out ?_) | fail)
    refine Lib.hid ?_
    have HB2 := Lib.hid (HB1.out.trans (hb2.mono HB1.out.size))
    clear hb2
    obtain ⟨ev, vv, hx⟩ := H.out.on HB2.out
    obtain ⟨c0, c1, c2, c3, c4, c5, c6⟩ := hx.cells
    obtain ⟨h1, p1⟩ := hx.setBox 2 (.bool true) (o' := true) rfl hx.row hx.val hx.map
    obtain ⟨h2, p2⟩ := h1.setBox 3 (.int .i64 (pos : Int)) (s' := (pos : Int)) rfl h1.row h1.val h1.map
    obtain ⟨h3, p3⟩ := h2.setBox 4 (S kk) (key' := kk) rfl h2.row h2.val h2.map
    obtain ⟨h4, p4⟩ := h3.setBox 5 (.slice none 0 0) (vv' := .slice none 0 0) (val' := []) rfl h3.row (owns_nil _ _) h3.map
    have HR : Hid (RSt B _ rb mb E true (pos : Int) kk []) := ⟨_, _, h4⟩
    have HP := Lib.hid ((PStep.of_below HB2.out (by obtain ⟨_, _, h9⟩ := H.out; exact h9.bge) : PStep B w w2).trans (((p1.trans p2).trans p3).trans p4))
    have f2 := c6 2
    have f3 := c6 3
    have f4 := c6 4
    have f5 := c6 5
    clear hx c6 h1 p1 h2 p2 h3 p3 h4 p4
    go_wp2_with (first | (go_at_call 31; (with_reducible refine (HAD.out _ HR.out).mono ?_); rintro e w3 ⟨rfl, r3, q3⟩; refine Hid.out ?_) | fail)
    refine Lib.hid ?_
    have HF := Lib.hid (And.intro r3 (HP.out.trans q3))
    clear r3 q3
    go_wp2
    go_end0
    exact ⟨rfl, HF.out.1, HF.out.2⟩
  · rw [if_neg hn] at HI
    obtain rfl : n = line.size := by omega
    rw [show line.extract 0 line.size = line by simp] at HLW
    rw [show line.extract line.size line.size = ByteArray.empty by simp] at HAD
    clear hn
    go_enter Tryd.func30, Tryd.ntmps30
    go_wp2_with (first | (go_at_call 51; (with_reducible refine HI.out.mono ?_); rintro e w1 ⟨rfl, hb1⟩; refine Hid.out ?_) | fail)
    refine Lib.hid ?_
    have HB1 := Lib.hid hb1
    clear hb1
    go_wp2_with (first | (go_at_call 43; (with_reducible refine (HLW.out _).mono ?_); rintro e w2 ⟨rfl, hb2⟩; refine Hid.out ?_) | fail)
    refine Lib.hid ?_
    have HB2 := Lib.hid (HB1.out.trans (hb2.mono HB1.out.size))
    clear hb2
    obtain ⟨ev, vv, hx⟩ := H.out.on HB2.out
    obtain ⟨c0, c1, c2, c3, c4, c5, c6⟩ := hx.cells
    obtain ⟨h1, p1⟩ := hx.setBox 2 (.bool true) (o' := true) rfl hx.row hx.val hx.map
    obtain ⟨h2, p2⟩ := h1.setBox 3 (.int .i64 (pos : Int)) (s' := (pos : Int)) rfl h1.row h1.val h1.map
    obtain ⟨h3, p3⟩ := h2.setBox 4 (S kk) (key' := kk) rfl h2.row h2.val h2.map
    obtain ⟨h4, p4⟩ := h3.setBox 5 (.slice none 0 0) (vv' := .slice none 0 0) (val' := []) rfl h3.row (owns_nil _ _) h3.map
    have HR : Hid (RSt B _ rb mb E true (pos : Int) kk []) := ⟨_, _, h4⟩
    have HP := Lib.hid ((PStep.of_below HB2.out (by obtain ⟨_, _, h9⟩ := H.out; exact h9.bge) : PStep B w w2).trans (((p1.trans p2).trans p3).trans p4))
    have f2 := c6 2
    have f3 := c6 3
    have f4 := c6 4
    have f5 := c6 5
    clear hx c6 h1 p1 h2 p2 h3 p3 h4 p4
    go_wp2_with (first | (go_at_call 31; (with_reducible refine (HAD.out _ HR.out).mono ?_); rintro e w3 ⟨rfl, r3, q3⟩; refine Hid.out ?_) | fail)
    refine Lib.hid ?_
    have HF := Lib.hid (And.intro r3 (HP.out.trans q3))
    clear r3 q3
    go_wp2
    go_end0
    exact ⟨rfl, HF.out.1, HF.out.2⟩
/-- What is wrong with an entry behind those. -/
def wrongP (E : List KV) (key val : List UInt8) : Nat :=
  if 320 < key.length ∨ val = [] ∨ 1000 < val.length then 61 else if key ∈ E.map Prod.fst then 63 else if E.length = 2000 then 62 else 0
theorem entM_hit {E : List KV} {key : List UInt8} (h : key ∈ E.map Prod.fst) : (S key, Value.int .i64 1) ∈ E.map entM := by
  obtain ⟨p, hp, rfl⟩ := List.mem_map.1 h
  exact List.mem_map.2 ⟨p, hp, rfl⟩
theorem S_inj {a b : List UInt8} (h : S a = S b) : a = b := by
  have h2 : (⟨a.toArray⟩ : ByteArray) = ⟨b.toArray⟩ := by injection h
  have h3 : a.toArray = b.toArray := by injection h2
  exact List.toArray_inj h3
theorem entM_miss {E : List KV} {key : List UInt8} (h : ¬ key ∈ E.map Prod.fst) : ∀ p ∈ E.map entM, p.1 ≠ S key := fun p hp e => by
  obtain ⟨q, hq, rfl⟩ := List.mem_map.1 hp
  exact h (List.mem_map.2 ⟨q, hq, S_inj e⟩)
theorem keyS (key : List UInt8) (h : key.length ≤ 1000000) : Go.keyOf Tryd.prog 9 (S key) = some (Lit.string key) := by
  have hs : (⟨key.toArray⟩ : ByteArray).size ≤ maxLen := by
    unfold maxLen
    have : (⟨key.toArray⟩ : ByteArray).size = key.length := rfl
    omega
  exact Go.WideMaps.keyOf_string_mk (P := Tryd.prog) (k := 9) Tryd.underlying9 (s := ⟨key.toArray⟩) hs
set_option maxHeartbeats 4000000 in
set_option maxRecDepth 100000 in
theorem pWrong (B : Nat) (w : World) (rb mb : Nat) (E : List KV) (o : Bool) (s : Int) (key val : List UInt8) (h : RSt B w rb mb E o s key val) (hk : key.length ≤ 1000000) (hv : val.length ≤ 9000000) (_he : E.length ≤ 1000000) :
    Calls Tryd.prog 50 #[.pointer (some ⟨rb, 0, none⟩)] w (fun e w' => e = .returned (.int .i64 (wrongP E key val : Int)) ∧ Below w.heap.size w w') := by
  obtain ⟨ev, vv, hx⟩ := h
  obtain ⟨va, vc, rfl, hvc⟩ := row_form hx.val
  obtain ⟨ea, ec, rfl, hec⟩ := row_form hx.row
  obtain ⟨c0, c1, c2, c3, c4, c5, c6⟩ := hx.cells
  have HM := Lib.hid hx.map
  clear hx c2 c3 c6
  by_cases h320 : 320 < key.length
  · have i1 : (320 : Int) < (key.length : Int) := by omega
    have HW := Lib.hid (show wrongP E key val = 61 by unfold wrongP; rw [if_pos (Or.inl h320)])
    clear h320
    go_enter Tryd.func50, Tryd.ntmps50
    go_wp2
    go_ret
    exact ⟨by rw [HW.out]; rfl, Below.refl _ _⟩
  · have i1 : ¬ (320 : Int) < (key.length : Int) := by omega
    by_cases hv0 : val.length = 0
    · have HW := Lib.hid (show wrongP E key val = 61 by unfold wrongP; rw [if_pos (Or.inr (Or.inl (List.eq_nil_of_length_eq_zero hv0)))])
      have i2 : ((val.length : Int) == 0) = true := by rw [hv0]; rfl
      clear hv0 h320
      go_enter Tryd.func50, Tryd.ntmps50
      go_wp2
      go_ret
      exact ⟨by rw [HW.out]; rfl, Below.refl _ _⟩
    · have i2 : ((val.length : Int) == 0) = false := by rw [beq_eq_false_iff_ne]; omega
      have hne : val ≠ [] := fun e => hv0 (by rw [e]; rfl)
      by_cases h1000 : 1000 < val.length
      · have i3 : (1000 : Int) < (val.length : Int) := by omega
        have HW := Lib.hid (show wrongP E key val = 61 by unfold wrongP; rw [if_pos (Or.inr (Or.inr h1000))])
        clear h1000 hv0 h320 hne
        go_enter Tryd.func50, Tryd.ntmps50
        go_wp2
        go_ret
        exact ⟨by rw [HW.out]; rfl, Below.refl _ _⟩
      · have i3 : ¬ (1000 : Int) < (val.length : Int) := by omega
        have hno : ¬ (320 < key.length ∨ val = [] ∨ 1000 < val.length) := fun h => h.elim h320 (fun h => h.elim hne h1000)
        by_cases hin : key ∈ E.map Prod.fst
        · have HW := Lib.hid (show wrongP E key val = 63 by unfold wrongP; rw [if_neg hno, if_pos hin])
          have hlk : ∀ n, (Instr.lookup 68 (.map (some mb)) (S key) false).run Tryd.prog (w.drewN n) = .ok (.int .i64 1) (w.drewN n) := fun n => (HM.out.kept (w' := w.drewN n) rfl).hit false klaw Tryd.underlying68 (Tryd.zeroValue3 _) (entM_hit hin)
          clear h1000 hv0 h320 hne hno hin
          go_enter Tryd.func50, Tryd.ntmps50
          go_wp2
          go_quiet (fail)
          go_wp2
          go_ret
          exact ⟨by rw [HW.out]; rfl, bel_drewN _ _ (Nat.le_refl _)⟩
        · have hlk : ∀ n, (Instr.lookup 68 (.map (some mb)) (S key) false).run Tryd.prog (w.drewN n) = .ok (.int .i64 0) (w.drewN n) := fun n => (HM.out.kept (w' := w.drewN n) rfl).miss false klaw Tryd.underlying68 (Tryd.zeroValue3 _) (keyS key hk) (entM_miss hin)
          by_cases h2000 : E.length = 2000
          · have HW := Lib.hid (show wrongP E key val = 62 by unfold wrongP; rw [if_neg hno, if_neg hin, if_pos h2000])
            have i4 : ((E.length : Int) == 2000) = true := by rw [h2000]; rfl
            clear h1000 hv0 h320 hne hno hin h2000
            go_enter Tryd.func50, Tryd.ntmps50
            go_wp2
            go_quiet (fail)
            go_wp2
            go_ret
            exact ⟨by rw [HW.out]; rfl, bel_drewN _ _ (Nat.le_refl _)⟩
          · have HW := Lib.hid (show wrongP E key val = 0 by unfold wrongP; rw [if_neg hno, if_neg hin, if_neg h2000])
            have i4 : ((E.length : Int) == 2000) = false := by rw [beq_eq_false_iff_ne]; omega
            clear h1000 hv0 h320 hne hno hin h2000
            go_enter Tryd.func50, Tryd.ntmps50
            go_wp2
            go_quiet (fail)
            go_wp2
            go_ret
            exact ⟨by rw [HW.out]; rfl, bel_drewN _ _ (Nat.le_refl _)⟩
end Go.Proofs.YtbgdohggdaoojaaDoor.Table
