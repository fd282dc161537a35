/-
  HEADER, the program: a text folded.
-/
import Derived.Test.YtnogpoojhhmadaaDoorHpBld
import Derived.Test.YtnogpoojhhmadaaDoorHpFldP
import Derived.Test.YtnogpoojhhmadaaDoorHpSame
import Derived.Test.YtnogpoojhhmadaaDoorHdrFold
namespace Go.Proofs.YtnogpoojhhmadaaDoor.Header
open Go.RowKit Base
theorem pFields (s : ByteArray) (w : World) (hs : s.size ≤ 4000000000) : Calls Tryd.prog 49 #[.string s, .func (.func 42) #[] #[]] w (WordsEnd s.data.toList w) := by
  have := Tryd.strings_FieldsFunc_runes 42 #[] (enters_of Tryd.func42 (by kernel_rfl) rfl) bR s w (by omega) (fun W x _ _ => by
    have := pBlank (x : Int) W
    refine this.mono ?_
    rintro e w' ⟨rfl, rfl⟩
    refine ⟨?_, 0, rfl⟩
    have : decide ((x : Int) = 32 ∨ (x : Int) = 9) = bR x := by unfold bR; rw [decide_eq_decide]; omega
    rw [this])
  rw [fields_is] at this
  refine this.mono ?_
  rintro e w' ⟨a, rfl, _, hown, hb⟩
  refine ⟨_, rfl, ?_, hb⟩
  rw [List.length_map, List.map_map] at hown
  rw [List.length_map]
  exact hown
theorem strs_keep {b B : Nat} {w w' : World} {v : Value} {ls : List (List UInt8)} (h : OwnsS w B v ls) (hk : KeepB b w w') (hb : ∃ cs fz, w.heap[b]? = some (.cells cs 65 fz)) : OwnsS w' B v ls := by
  refine ⟨h.1, ?_⟩
  rcases h.2 with hn | ⟨g, cap, cur, rfl, h1, h2, h3⟩
  · exact Or.inl hn
  · refine Or.inr ⟨g, cap, cur, rfl, h1, ?_, h3⟩
    rw [hk g _ _ _ h2 (by decide) (fun e => ?_)]
    · exact h2
    · obtain ⟨cs, fz, hc⟩ := hb
      rw [← e, h2] at hc
      cases hc
theorem isB_box {B b : Nat} {l : List UInt8} {w : World} (h : IsB B b l w) : ∃ cs fz, w.heap[b]? = some (.cells cs 65 fz) := by
  rcases h with ⟨_, v, hb, _⟩ | ⟨_, v, hb, _⟩
  · exact ⟨_, _, hb⟩
  · exact ⟨_, _, hb⟩
theorem isB_on {B b : Nat} {l : List UInt8} {w w' : World} (h : IsB B b l w) (hb : Below w.heap.size w w') : IsB B b l w' := by
  have g : ∀ p, Lib.BuilderAt 65 5 B b p (Lib.byteCells l) w → Lib.BuilderAt 65 5 B b p (Lib.byteCells l) w' := fun p ⟨h1, v, h2, h3, h4⟩ => by
    refine ⟨h1, v, (hb.block b (heap_lt h2)).trans h2, ?_, h4⟩
    refine ⟨h3.1, ?_⟩
    rcases h3.2 with hn | ⟨g, cap, cur, rfl, q1, q2, q3⟩
    · exact Or.inl hn
    · exact Or.inr ⟨g, cap, cur, rfl, q1, by rw [hb.block g (heap_lt q2)]; exact q2, q3⟩
  rcases h with h | h
  · exact Or.inl (g _ h)
  · exact Or.inr (g _ h)
theorem isB_new (w : World) : IsB w.heap.size w.heap.size [] (w.alloc (.cells #[.pointer none, .slice none 0 0] 65)) :=
  Or.inl ⟨Nat.le_refl _, .slice none 0 0, (MapKept.heap_alloc w _).1, World.ownsRow_nil _ _ _ _, by simp [Value.ownBlock]⟩
set_option maxHeartbeats 16000000 in
set_option maxRecDepth 100000 in
theorem pFold (s : ByteArray) (z : Int) (w : World) (hs : s.size ≤ 4000000000) : Calls Tryd.prog 35 #[.string s, .int .i64 z] w (FoldEnd (foldOf s.data.toList z) w) := by
  obtain ⟨w0, hw0⟩ : ∃ w0, w0 = w.alloc (.cells #[.pointer none, .slice none 0 0] 65) := ⟨_, rfl⟩
  have HW0 := Lib.hid hw0
  have HB0 : Hid (Below w.heap.size w w0) := by rw [hw0]; exact Below.alloc1 _ _
  have HN0 : Hid (IsB w.heap.size w.heap.size [] w0) := by rw [hw0]; exact isB_new w
  have HW := Lib.hid (pFields s w0 hs)
  unfold WordsEnd at HW
  obtain ⟨fin, hfin⟩ : ∃ fin, fin = foldOf s.data.toList z := ⟨_, rfl⟩
  rw [← hfin]
  obtain ⟨ws, hws⟩ : ∃ ws, ws = wordsOf s.data.toList := ⟨_, rfl⟩
  rw [← hws] at HW
  have hsum : sumW ws ≤ s.size + 1 := by rw [hws]; have := words_sum s.data.toList []; rw [str_len] at this; exact this
  have hcn := count_len ws
  have HFL : Hid (fin.length ≤ 3 * sumW ws) := by rw [hfin, hws]; exact fold_len _ _ _
  obtain ⟨c0, hc0⟩ : ∃ c0, c0 = colOf z := ⟨_, rfl⟩
  have HF0 : Hid ([] ++ foldG (decide (0 = 0)) c0 (ws.drop 0) = fin) := by show _ = _; rw [hfin, hws, hc0]; rfl
  have HMM : Hid (min (max z 0) 78 = (c0 : Int)) := by show _ = _; rw [hc0]; unfold colOf; omega
  have hc78 : c0 ≤ 78 := by have := HMM.out; omega
  clear hfin hws hw0 hc0
  go_enter Tryd.func35, Tryd.ntmps35
  go_upto_region 2 with fail
  rw [← HW0.out]
  go_cut [6] (fun x wx => x = .int .i64 (c0 : Int) ∧ wx = w0)
  case first =>
    go_wp2
    go_meet
    exact ⟨by rw [HMM.out], rfl⟩
  case rest =>
  obtain ⟨rfl, rfl⟩ := hcut
  go_wp2_with (first | (go_at_call 49; refine HW.out.mono ?_; rintro ee w1 ⟨v, rfl, own1, hb1⟩; refine Hid.out ?_) | fail)
  refine Lib.hid ?_
  obtain ⟨va, vc, hvf, hvc⟩ := own1.form
  subst hvf
  have HO1 := Lib.hid own1
  have HB1 : Hid (Below w.heap.size w w1) := HB0.out.trans (hb1.mono HB0.out.size)
  have HN1 : Hid (IsB w.heap.size w.heap.size [] w1) := isB_on HN0.out hb1
  clear own1 hb1 HW HMM HN0 HB0
  go_wp2
  go_loopw [6, 15] (fun cv iv wr => ∃ (i c : Nat) (o : List UInt8), i ≤ ws.length ∧ iv = .int .i64 (i : Int) ∧ cv = .int .i64 (c : Int) ∧ (c ≤ 80 + s.size ∧ (i = 0 → c ≤ 78)) ∧ Hid (o ++ foldG (decide (i = 0)) c (ws.drop i) = fin) ∧ Hid (IsB w.heap.size w.heap.size o wr) ∧ Hid (OwnsS wr wc.heap.size (.slice va ws.length vc) ws) ∧ Hid (Below w.heap.size w wr)) (fun _ iv _ => ws.length - (intOf iv).toNat)
  case atStart => exact ⟨0, c0, [], by omega, rfl, rfl, ⟨by omega, fun _ => hc78⟩, HF0, HN1, HO1, HB1⟩
  case round =>
    clear HF0 HN1 HO1 HB1
    obtain ⟨i, c, o, hi, rfl, rfl, ⟨hc, hcz⟩, HF, HN, HO, HB⟩ := hrel
    have i0 : (0 : Int) ≤ (i : Int) := by omega
    have hol : o.length ≤ 3 * (s.size + 1) := by
      have h1 := congrArg List.length HF.out
      rw [List.length_append] at h1
      have := HFL.out; omega
    by_cases hlt : i < ws.length
    · obtain ⟨x, hx⟩ : ∃ x, ws[i]? = some x := ⟨_, List.getElem?_eq_getElem hlt⟩
      have hxl := word_len (List.mem_of_getElem? hx)
      obtain ⟨b, hva, hcell⟩ := HO.out.cell hx
      have i1 : (i : Int) < (ws.length : Int) := by omega
      have heq := HF.out
      rw [drop_consW hx] at heq
      subst hva
      clear hx HF
      have HXS : Hid ((⟨x.toArray⟩ : ByteArray).size = x.length) := by show x.toArray.size = _; simp
      by_cases h0 : i = 0
      · have i2 : ¬ (0 : Int) < (i : Int) := by omega
        have HF2 : Hid ((o ++ x) ++ foldG (decide (i + 1 = 0)) (c + x.length) (ws.drop (i + 1)) = fin) := by
          show _ = _
          rw [← heq, h0]; simp [foldG]
        have HCB : Hid (c + x.length ≤ 80 + s.size) := by show _ ≤ _; have := hcz h0; omega
        have HWS := Lib.hid (bString w.heap.size w.heap.size o ⟨x.toArray⟩ wr HN.out (by rw [HXS.out]; omega) HB.out.size)
        clear heq h0
        go_wp2_with (first | (go_at_call 50; refine HWS.out.mono ?_; rintro e w9 ⟨rfl, n9, b9, k9⟩; refine Hid.out ?_) | fail)
        refine Lib.hid ?_
        have HO9 : Hid (OwnsS w9 wc.heap.size (.slice (some ⟨b, 0, none⟩) ws.length vc) ws) := strs_keep HO.out k9 (isB_box HN.out)
        have HN9 : Hid (IsB w.heap.size w.heap.size (o ++ x) w9) := n9
        have HB9 : Hid (Below w.heap.size w w9) := HB.out.trans b9
        clear n9 b9 k9 HWS HO HN HB hcell
        go_wp2
        go_roundw
        case rel => exact ⟨i + 1, c + x.length, o ++ x, by omega, by go_num, by go_num, ⟨HCB.out, fun h => by omega⟩, HF2, HN9, HO9, HB9⟩
        case measure => simp [intOf]; omega
      · have i2 : (0 : Int) < (i : Int) := by omega
        have hd : decide (i = 0) = false := decide_eq_false h0
        rw [hd, foldG] at heq
        by_cases hw : 78 < c + 1 + x.length
        · rw [if_pos hw] at heq
          have j1 : (78 : Int) < (c : Int) + 1 + (x.length : Int) := by omega
          have HF2 : Hid ((((o ++ [13, 10]) ++ [32]) ++ x) ++ foldG (decide (i + 1 = 0)) (1 + x.length) (ws.drop (i + 1)) = fin) := by
            show _ = _
            rw [← heq]; simp
          have HWS := Lib.hid (bString w.heap.size w.heap.size o ⟨#[13, 10]⟩ wr HN.out (by show o.length + 2 ≤ _; omega) HB.out.size)
          clear heq h0 hw hd
          go_wp2_with (first | (go_at_call 50; refine HWS.out.mono ?_; rintro e w7 ⟨rfl, n7, b7, k7⟩; refine Hid.out ?_) | fail)
          refine Lib.hid ?_
          have HO7 : Hid (OwnsS w7 wc.heap.size (.slice (some ⟨b, 0, none⟩) ws.length vc) ws) := strs_keep HO.out k7 (isB_box HN.out)
          have HN7 : Hid (IsB w.heap.size w.heap.size (o ++ [13, 10]) w7) := n7
          have HB7 : Hid (Below w.heap.size w w7) := HB.out.trans b7
          have HWB := Lib.hid (bByte w.heap.size w.heap.size (o ++ [13, 10]) 32 w7 HN7.out (by rw [List.length_append]; show o.length + 2 + 1 ≤ _; omega) HB7.out.size)
          clear n7 b7 k7 HWS HO HN HB hcell
          go_wp2_with (first | (go_at_call 51; refine HWB.out.mono ?_; rintro e w8 ⟨rfl, n8, b8, k8⟩; refine Hid.out ?_) | fail)
          refine Lib.hid ?_
          have HO8 : Hid (OwnsS w8 wc.heap.size (.slice (some ⟨b, 0, none⟩) ws.length vc) ws) := strs_keep HO7.out k8 (isB_box HN7.out)
          have HN8 : Hid (IsB w.heap.size w.heap.size ((o ++ [13, 10]) ++ [32]) w8) := n8
          have HB8 : Hid (Below w.heap.size w w8) := HB7.out.trans b8
          have HWS2 := Lib.hid (bString w.heap.size w.heap.size ((o ++ [13, 10]) ++ [32]) ⟨x.toArray⟩ w8 HN8.out (by rw [HXS.out]; simp; omega) HB8.out.size)
          clear n8 b8 k8 HWB HO7 HN7 HB7
          go_wp2_with (first | (go_at_call 50; refine HWS2.out.mono ?_; rintro e w9 ⟨rfl, n9, b9, k9⟩; refine Hid.out ?_) | fail)
          refine Lib.hid ?_
          have HO9 : Hid (OwnsS w9 wc.heap.size (.slice (some ⟨b, 0, none⟩) ws.length vc) ws) := strs_keep HO8.out k9 (isB_box HN8.out)
          have HN9 : Hid (IsB w.heap.size w.heap.size (((o ++ [13, 10]) ++ [32]) ++ x) w9) := n9
          have HB9 : Hid (Below w.heap.size w w9) := HB8.out.trans b9
          clear n9 b9 k9 HWS2 HO8 HN8 HB8
          go_wp2
          go_roundw
          case rel => exact ⟨i + 1, 1 + x.length, ((o ++ [13, 10]) ++ [32]) ++ x, by omega, by go_num, by go_num, ⟨by omega, fun h => by omega⟩, HF2, HN9, HO9, HB9⟩
          case measure => simp [intOf]; omega
        · rw [if_neg hw] at heq
          have j1 : ¬ (78 : Int) < (c : Int) + 1 + (x.length : Int) := by omega
          have HF2 : Hid (((o ++ [32]) ++ x) ++ foldG (decide (i + 1 = 0)) (c + 1 + x.length) (ws.drop (i + 1)) = fin) := by
            show _ = _
            rw [← heq]; simp
          have hcb : c + 1 + x.length ≤ 80 + s.size := by omega
          have HWB := Lib.hid (bByte w.heap.size w.heap.size o 32 wr HN.out (by omega) HB.out.size)
          clear heq h0 hw hd
          go_wp2_with (first | (go_at_call 51; refine HWB.out.mono ?_; rintro e w8 ⟨rfl, n8, b8, k8⟩; refine Hid.out ?_) | fail)
          refine Lib.hid ?_
          have HO8 : Hid (OwnsS w8 wc.heap.size (.slice (some ⟨b, 0, none⟩) ws.length vc) ws) := strs_keep HO.out k8 (isB_box HN.out)
          have HN8 : Hid (IsB w.heap.size w.heap.size (o ++ [32]) w8) := n8
          have HB8 : Hid (Below w.heap.size w w8) := HB.out.trans b8
          have HWS2 := Lib.hid (bString w.heap.size w.heap.size (o ++ [32]) ⟨x.toArray⟩ w8 HN8.out (by rw [HXS.out]; simp; omega) HB8.out.size)
          clear n8 b8 k8 HWB HO HN HB hcell
          go_wp2_with (first | (go_at_call 50; refine HWS2.out.mono ?_; rintro e w9 ⟨rfl, n9, b9, k9⟩; refine Hid.out ?_) | fail)
          refine Lib.hid ?_
          have HO9 : Hid (OwnsS w9 wc.heap.size (.slice (some ⟨b, 0, none⟩) ws.length vc) ws) := strs_keep HO8.out k9 (isB_box HN8.out)
          have HN9 : Hid (IsB w.heap.size w.heap.size ((o ++ [32]) ++ x) w9) := n9
          have HB9 : Hid (Below w.heap.size w w9) := HB8.out.trans b9
          clear n9 b9 k9 HWS2 HO8 HN8 HB8
          go_wp2
          go_roundw
          case rel => exact ⟨i + 1, c + 1 + x.length, (o ++ [32]) ++ x, by omega, by go_num, by go_num, ⟨hcb, fun h => by omega⟩, HF2, HN9, HO9, HB9⟩
          case measure => simp [intOf]; omega
    · have i1 : ¬ (i : Int) < (ws.length : Int) := by omega
      have HE : Hid (o = fin) := by
        show _ = _
        have := HF.out
        rw [List.drop_eq_nil_of_le (by omega)] at this
        rw [← this]; cases decide (i = 0) <;> simp [foldG]
      have HST := Lib.hid (Tryd.Builder_String_any w.heap.size w.heap.size o wr HN.out HB.out.size)
      clear HF HN HO
      go_wp2_with (first | (go_at_call 52; refine HST.out.mono ?_; rintro e w9 ⟨rfl, b9⟩; refine Hid.out ?_) | fail)
      refine Lib.hid ?_
      have HB9 : Hid (Below w.heap.size w w9) := HB.out.trans b9
      clear b9 HST HB
      go_wp2
      go_ret
      exact ⟨by rw [← HE.out]; rfl, HB9.out⟩
end Go.Proofs.YtnogpoojhhmadaaDoor.Header
