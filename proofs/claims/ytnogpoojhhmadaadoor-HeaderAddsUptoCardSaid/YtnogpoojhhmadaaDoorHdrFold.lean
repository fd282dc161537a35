/-
  HEADER, the given answers: a text is folded.
-/
import Derived.Test.YtnogpoojhhmadaaDoorHdrWds
namespace Go.Proofs.YtnogpoojhhmadaaDoor.Header
open Go.RowKit Base
def foldG : Bool → Nat → List (List UInt8) → List UInt8
  | _, _, [] => []
  | true, col, x :: r => x ++ foldG false (col + x.length) r
  | false, col, x :: r => if 78 < col + 1 + x.length then [13, 10] ++ ([32] ++ (x ++ foldG false (1 + x.length) r)) else [32] ++ (x ++ foldG false (col + 1 + x.length) r)
def colOf (c : Int) : Nat := (min (max 0 c) 78).toNat
/-- A text, folded from a column on. -/
def foldOf (l : List UInt8) (c : Int) : List UInt8 := foldG true (colOf c) (wordsOf l)
theorem fold_len : ∀ (ws : List (List UInt8)) (b : Bool) (c : Nat), (foldG b c ws).length ≤ 3 * sumW ws
  | [], b, c => by cases b <;> simp [foldG]
  | x :: r, true, c => by
    have := fold_len r false (c + x.length)
    simp only [foldG, List.length_append, sumW, List.map_cons, List.sum_cons] at this ⊢
    omega
  | x :: r, false, c => by
    have h1 := fold_len r false (1 + x.length)
    have h2 := fold_len r false (c + 1 + x.length)
    rw [foldG]
    split
    · simp only [List.length_append, sumW, List.map_cons, List.sum_cons, List.length_cons, List.length_nil] at h1 ⊢
      omega
    · simp only [List.length_append, sumW, List.map_cons, List.sum_cons, List.length_cons, List.length_nil] at h2 ⊢
      omega
theorem word_len {ws : List (List UInt8)} {x : List UInt8} (h : x ∈ ws) : x.length + 1 ≤ sumW ws := by
  induction ws with
  | nil => cases h
  | cons a t ih =>
    simp only [sumW, List.map_cons, List.sum_cons] at ih ⊢
    rcases List.mem_cons.1 h with rfl | h
    · omega
    · have := ih h; omega
theorem count_len (ws : List (List UInt8)) : ws.length ≤ sumW ws := by
  induction ws with
  | nil => simp
  | cons a t ih => simp only [sumW, List.map_cons, List.sum_cons, List.length_cons] at ih ⊢; omega
theorem drop_consW {ws : List (List UInt8)} {i : Nat} {x : List UInt8} (h : ws[i]? = some x) : ws.drop i = x :: ws.drop (i + 1) := by
  have hi := (List.getElem?_eq_some_iff.1 h).1
  rw [List.drop_eq_getElem_cons hi, (List.getElem?_eq_some_iff.1 h).2]
def FoldEnd (r : List UInt8) (w : World) (e : Ending) (w' : World) : Prop := e = .returned (S r) ∧ Below w.heap.size w w'
set_option maxHeartbeats 16000000 in
set_option maxRecDepth 100000 in
theorem rFoldZ (s : ByteArray) (z : Int) (w : World) (hs : s.size ≤ 1000000000000) : Calls Tryd.prog 32 #[.string s, .int .i64 z] w (FoldEnd (foldOf s.data.toList z) w) := by
  have HW := Lib.hid (rWords s w hs)
  unfold WordsEnd at HW
  obtain ⟨fin, hfin⟩ : ∃ fin, fin = foldOf s.data.toList z := ⟨_, rfl⟩
  rw [← hfin]
  obtain ⟨ws, hws⟩ : ∃ ws, ws = wordsOf s.data.toList := ⟨_, rfl⟩
  rw [← hws] at HW
  have hsum : sumW ws ≤ s.size + 1 := by rw [hws]; have := words_sum s.data.toList []; rw [str_len] at this; exact this
  have hcn := count_len ws
  have HFL : Hid (fin.length ≤ 3 * sumW ws) := by rw [hfin, hws]; exact fold_len _ _ _
  have HF0 : ∀ c0 : Nat, c0 = colOf z → Hid ([] ++ foldG (decide (0 = 0)) c0 (ws.drop 0) = fin) := fun c0 hc0 => by show _ = _; rw [hfin, hws, hc0]; rfl
  clear hfin hws
  have HCA : (z < 0 ∧ 0 = colOf z) ∨ (z = 0 ∧ 0 = colOf z) ∨ ((0 < z ∧ z ≤ 78) ∧ z.toNat = colOf z) ∨ (78 < z ∧ 78 = colOf z) := by unfold colOf; omega
  obtain ⟨c0, HF1, HST⟩ : ∃ c0 : Nat, Hid ([] ++ foldG (decide (0 = 0)) c0 (ws.drop 0) = fin) ∧ ((z < 0 ∧ c0 = 0) ∨ (z = 0 ∧ c0 = 0) ∨ ((0 < z ∧ z ≤ 78) ∧ z = (c0 : Int)) ∨ (78 < z ∧ c0 = 78)) := by
    rcases HCA with ⟨hk, hcc⟩ | ⟨hk, hcc⟩ | ⟨hk, hcc⟩ | ⟨hk, hcc⟩
    · exact ⟨_, HF0 _ hcc, Or.inl ⟨hk, rfl⟩⟩
    · exact ⟨_, HF0 _ hcc, Or.inr (Or.inl ⟨hk, rfl⟩)⟩
    · exact ⟨_, HF0 _ hcc, Or.inr (Or.inr (Or.inl ⟨hk, by omega⟩))⟩
    · exact ⟨_, HF0 _ hcc, Or.inr (Or.inr (Or.inr ⟨hk, rfl⟩))⟩
  clear HF0 HCA
  obtain ⟨n, hn⟩ : ∃ n : Nat, Hid (n = c0) := ⟨_, rfl⟩
  rcases HST with ⟨hk, rfl⟩ | ⟨rfl, rfl⟩ | ⟨⟨hk0, hk⟩, rfl⟩ | ⟨hk, rfl⟩
  case' inl =>
    have k0 : ¬ (0 : Int) < z := by omega
    have k1 : ¬ (0 : Int) ≤ z := by omega
    have k2 : z ≤ 0 := by omega
  case' inr.inr.inl =>
    have k0 : (0 : Int) < (c0 : Int) := by omega
    have k1 : (0 : Int) ≤ (c0 : Int) := by omega
  case' inr.inr.inr =>
    have k0 : (0 : Int) < z := by omega
    have k1 : (0 : Int) ≤ z := by omega
    have k3 : ¬ z ≤ 78 := by omega
  all_goals
    go_enter Tryd.func32, Tryd.ntmps32
    go_wp2_with (first | (go_at_call 39; refine HW.out.mono ?_; rintro ee w1 ⟨v, rfl, own1, hb1⟩; refine Hid.out ?_) | fail)
    refine Lib.hid ?_
    obtain ⟨va, vc, hvf, hvc⟩ := own1.form
    subst hvf
    have HO1 := Lib.hid own1
    have HB1 := Lib.hid hb1
    have HN1 : Hid (Owns w1 w1.heap.size (.slice none 0 0) []) := owns_nil _ _
    clear own1 hb1 HW
    go_wp2
    go_loopw [1, 6, 7] (fun cv ov iv wr => ∃ (i c : Nat) (v : Value) (o : List UInt8), i ≤ ws.length ∧ iv = .int .i64 (i : Int) ∧ cv = .int .i64 (c : Int) ∧ ov = v ∧ (c ≤ 80 + s.size ∧ (i = 0 → c ≤ 78)) ∧ Hid (o ++ foldG (decide (i = 0)) c (ws.drop i) = fin) ∧ Hid (Owns wr w1.heap.size v o) ∧ Hid (Below w1.heap.size w1 wr)) (fun _ _ iv _ => ws.length - (intOf iv).toNat)
    case atStart => exact ⟨0, n, _, [], by omega, rfl, by first | (rw [hn.out]; done) | (rw [hn.out]; rfl), rfl, ⟨by have := hn.out; omega, fun _ => by have := hn.out; omega⟩, by rw [hn.out]; exact HF1, HN1, Below.refl _ _⟩
    case round =>
      clear HF1 HN1
      obtain ⟨i, c, v, o, hi, rfl, rfl, hov, ⟨hc, hc0⟩, HF, HO, HB⟩ := hrel
      obtain rfl : v = _ := hov.symm
      have i0 : (0 : Int) ≤ (i : Int) := by omega
      have hol : o.length ≤ 3 * (s.size + 1) := by
        have h1 := congrArg List.length HF.out
        rw [List.length_append] at h1
        have := HFL.out; omega
      have HSZ : Hid (w1.heap.size ≤ wr.heap.size) := HB.out.size
      by_cases hlt : i < ws.length
      · obtain ⟨x, hx⟩ : ∃ x, ws[i]? = some x := ⟨_, List.getElem?_eq_getElem hlt⟩
        have hxl := word_len (List.mem_of_getElem? hx)
        obtain ⟨b, hva, hcell⟩ := (HO1.out.on HB.out).cell hx
        have HCELL : Hid (∀ w2, Below w1.heap.size w1 w2 → w2.cell? ⟨b, i, none⟩ = some (S x)) := fun w2 h2 => by
          obtain ⟨b', e, hc'⟩ := (HO1.out.on h2).cell hx
          rw [hva] at e
          cases e
          exact hc'
        have i1 : (i : Int) < (ws.length : Int) := by omega
        have heq := HF.out
        rw [drop_consW hx] at heq
        subst hva
        clear hx HF
        by_cases h0 : i = 0
        · have i2 : ¬ (0 : Int) < (i : Int) := by omega
          have HF2 : Hid ((o ++ x) ++ foldG (decide (i + 1 = 0)) (c + x.length) (ws.drop (i + 1)) = fin) := by
            show _ = _
            rw [← heq, h0]; simp [foldG]
          have HCB : Hid (c + x.length ≤ 80 + s.size) := by show _ ≤ _; have := hc0 h0; omega
          clear heq h0
          go_wp2_with (at_builtin; go_must (refine wp_append_str _ rfl _ _ rfl w1.heap.size v (o) ⟨x.toArray⟩ rfl rfl HO.out (by show (o).length + x.toArray.size ≤ _; simp; omega) HSZ.out ?_); intro v9 w9 own9 b9; refine Hid.out ?_)
          refine Lib.hid ?_
          have HB9 : Hid (Below w1.heap.size w1 w9) := HB.out.trans b9
          have HO9 : Hid (Owns w9 w1.heap.size v9 ((o) ++ x)) := own9
          have hcell := HCELL.out w9 HB9.out
          clear own9 b9
          go_wp2
          go_roundw
          case rel => exact ⟨i + 1, c + x.length, v9, o ++ x, by omega, by go_num, by go_num, rfl, ⟨HCB.out, fun h => by omega⟩, HF2, HO9, HB9⟩
          case measure => simp [intOf]; omega
        · have i2 : (0 : Int) < (i : Int) := by omega
          have hd : decide (i = 0) = false := decide_eq_false h0
          rw [hd, foldG] at heq
          by_cases hw : 78 < c + 1 + x.length
          · rw [if_pos hw] at heq
            have j1 : (78 : Int) < (c : Int) + 1 + (x.length : Int) := by omega
            have HF2 : Hid ((((o ++ [13, 10]) ++ [32]) ++ x) ++ foldG (decide (i + 1 = 0)) (1 + x.length) (ws.drop (i + 1)) = fin) := by
              show _ = _
              rw [← heq]; simp
            clear heq h0 hw hd
            go_wp2_with (at_builtin; go_must (refine wp_append_reads _ rfl _ _ rfl w1.heap.size v _ o [13, 10] rfl rfl (HO.out.on (Below.alloc1 wr _)) (reads_lit wr 5 _ [13, 10] 2 rfl rfl (0, 0)) (by simp; omega) (Nat.le_trans HSZ.out (Below.alloc1 wr _).size) ?_); intro v2 w2 own2 b2; refine Hid.out ?_)
            refine Lib.hid ?_
            have HO2 := Lib.hid own2
            have HB2 : Hid (Below w1.heap.size w1 w2) := (HB.out.trans ((Below.alloc1 wr _).mono HSZ.out)).trans b2
            clear own2 b2
            go_wp2_with (at_builtin; go_must (refine wp_append_reads _ rfl _ _ rfl w1.heap.size v2 _ (o ++ [13, 10]) [32] rfl rfl (HO2.out.on (Below.alloc1 w2 _)) (reads_one w2 5 32 32 rfl) (by simp; omega) (Nat.le_trans HB2.out.size (Below.alloc1 w2 _).size) ?_); intro v3 w3 own3 b3; refine Hid.out ?_)
            refine Lib.hid ?_
            have HO3 := Lib.hid own3
            have HB3 : Hid (Below w1.heap.size w1 w3) := (HB2.out.trans ((Below.alloc1 w2 _).mono HB2.out.size)).trans b3
            have hcell := HCELL.out w3 HB3.out
            clear own3 b3
            go_wp2_with (at_builtin; go_must (refine wp_append_str _ rfl _ _ rfl w1.heap.size v3 (o ++ [13, 10] ++ [32]) ⟨x.toArray⟩ rfl rfl HO3.out (by show (o ++ [13, 10] ++ [32]).length + x.toArray.size ≤ _; simp; omega) HB3.out.size ?_); intro v9 w9 own9 b9; refine Hid.out ?_)
            refine Lib.hid ?_
            have HB9 : Hid (Below w1.heap.size w1 w9) := HB3.out.trans b9
            have HO9 : Hid (Owns w9 w1.heap.size v9 ((o ++ [13, 10] ++ [32]) ++ x)) := own9
            have hcell := HCELL.out w9 HB9.out
            clear own9 b9
            go_wp2
            go_roundw
            case rel => exact ⟨i + 1, 1 + x.length, v9, ((o ++ [13, 10]) ++ [32]) ++ x, by omega, by go_num, by go_num, rfl, ⟨by omega, fun h => by omega⟩, HF2, HO9, HB9⟩
            case measure => simp [intOf]; omega
          · rw [if_neg hw] at heq
            have j1 : ¬ (78 : Int) < (c : Int) + 1 + (x.length : Int) := by omega
            have HF2 : Hid (((o ++ [32]) ++ x) ++ foldG (decide (i + 1 = 0)) (c + 1 + x.length) (ws.drop (i + 1)) = fin) := by
              show _ = _
              rw [← heq]; simp
            have hcb : c + 1 + x.length ≤ 80 + s.size := by omega
            clear heq h0 hw hd
            go_wp2_with (at_builtin; go_must (refine wp_append_reads _ rfl _ _ rfl w1.heap.size v _ o [32] rfl rfl (HO.out.on (Below.alloc1 wr _)) (reads_one wr 5 32 32 rfl) (by simp; omega) (Nat.le_trans HSZ.out (Below.alloc1 wr _).size) ?_); intro v3 w3 own3 b3; refine Hid.out ?_)
            refine Lib.hid ?_
            have HO3 := Lib.hid own3
            have HB3 : Hid (Below w1.heap.size w1 w3) := (HB.out.trans ((Below.alloc1 wr _).mono HSZ.out)).trans b3
            have hcell := HCELL.out w3 HB3.out
            clear own3 b3
            go_wp2_with (at_builtin; go_must (refine wp_append_str _ rfl _ _ rfl w1.heap.size v3 (o ++ [32]) ⟨x.toArray⟩ rfl rfl HO3.out (by show (o ++ [32]).length + x.toArray.size ≤ _; simp; omega) HB3.out.size ?_); intro v9 w9 own9 b9; refine Hid.out ?_)
            refine Lib.hid ?_
            have HB9 : Hid (Below w1.heap.size w1 w9) := HB3.out.trans b9
            have HO9 : Hid (Owns w9 w1.heap.size v9 ((o ++ [32]) ++ x)) := own9
            have hcell := HCELL.out w9 HB9.out
            clear own9 b9
            go_wp2
            go_roundw
            case rel => exact ⟨i + 1, c + 1 + x.length, v9, (o ++ [32]) ++ x, by omega, by go_num, by go_num, rfl, ⟨hcb, fun h => by omega⟩, HF2, HO9, HB9⟩
            case measure => simp [intOf]; omega
      · have i1 : ¬ (i : Int) < (ws.length : Int) := by omega
        have HE : Hid (o = fin) := by
          show _ = _
          have := HF.out
          rw [List.drop_eq_nil_of_le (by omega)] at this
          rw [← this]; cases decide (i = 0) <;> simp [foldG]
        have hcv := conv_reads HO.out.reads
        have HBF : Hid (Below w.heap.size w wr) := HB1.out.trans (HB.out.mono HB1.out.size)
        clear HF
        go_wp2
        go_ret
        exact ⟨by rw [← HE.out]; rfl, HBF.out⟩
theorem rFold (s : ByteArray) (n : Nat) (w : World) (hs : s.size ≤ 1000000000000) (_ : 2 ≤ n) (_ : n ≤ 9000000000000000000) : Calls Tryd.prog 32 #[.string s, .int .i64 (n : Int)] w (FoldEnd (foldOf s.data.toList (n : Int)) w) := rFoldZ s (n : Int) w hs
end Go.Proofs.YtnogpoojhhmadaaDoor.Header
