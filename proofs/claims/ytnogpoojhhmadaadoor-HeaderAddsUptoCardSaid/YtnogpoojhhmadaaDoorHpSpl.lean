/-
  HEADER, HeaderSplits: the walk.
-/
import Derived.Test.YtnogpoojhhmadaaDoorHpCov
import Derived.Test.YtnogpoojhhmadaaDoorHpFind
namespace Go.Proofs.YtnogpoojhhmadaaDoor.Header
open Go.RowKit Base
theorem flds_small (l : List UInt8) : ∀ (E : List Nat) (a : Nat), ∀ f ∈ fldsP l a E, f.nm.length ≤ l.length ∧ f.bd.length ≤ l.length
  | [], _, f, h => by cases h
  | b :: r, a, f, h => by
    rw [fldsP] at h
    rcases List.mem_cons.1 h with rfl | h
    · refine ⟨?_, ?_⟩
      · show ((l.take _).drop a).length ≤ _
        rw [List.length_drop, List.length_take]; omega
      · show (trimCR ((l.take b).drop _)).length ≤ _
        have := (trim_len ((l.take b).drop (a + nsz (l.drop a) + 1))).1
        rw [List.length_drop, List.length_take] at this
        omega
    · exact flds_small l r b f h
def resOf (l : List UInt8) : List Fld × Nat × Nat := if codeF (splitOf l).1 = 0 then ((splitOf l).1, (splitOf l).2, 0) else ([], 0, codeF (splitOf l).1)
theorem freads_nil (w : World) : FReads w (.slice none 0 0) [] := FReads.of_row (World.ownsRow_nil w 0 30 4) rfl
theorem split_res {l : List UInt8} {w w' : World} {e : Ending} (h : SplitEnd l w e w') : ∃ a c, e = .returned (.tuple #[.slice a (resOf l).1.length c, .int .i64 ((resOf l).2.1 : Int), .int .i64 ((resOf l).2.2 : Int)]) ∧ FReads w' (.slice a (resOf l).1.length c) (resOf l).1 ∧ Below w.heap.size w w' := by
  obtain ⟨h1, ⟨h2, u, h3, h4⟩ | ⟨h2, h3⟩⟩ := h
  · unfold resOf
    rw [if_pos h2]
    obtain ⟨a, c, rfl⟩ := h4.form
    exact ⟨a, c, h3, h4, h1⟩
  · unfold resOf
    rw [if_neg h2]
    exact ⟨none, 0, h3, freads_nil w', h1⟩
theorem res_small (l : List UInt8) : (∀ f ∈ (resOf l).1, f.nm.length ≤ l.length ∧ f.bd.length ≤ l.length) ∧ (resOf l).1.length ≤ 1000 := by
  unfold resOf
  split
  · rename_i h
    refine ⟨?_, code_few h⟩
    rw [split_is]
    exact flds_small l _ _
  · exact ⟨fun f h => by simp at h, Nat.zero_le _⟩
/-- A byte that is stored turns no field. -/
theorem FReads.spared {w : World} {v : Value} {T : List Fld} {g i : Nat} {x : Int} (h : FReads w v T) (hc : w.cell? ⟨g, i, none⟩ = some (.int .u8 x)) (u : Value) : FReads (w.setCell ⟨g, i, none⟩ u) v T := by
  rcases h with h | ⟨b, o, c, rfl, h1, h2⟩
  · exact Or.inl h
  · refine Or.inr ⟨b, o, c, rfl, h1, fun j p hp k y hy => ?_⟩
    have h3 := h2 j p hp k y hy
    have hne : ¬ (b = g ∧ o + j * 4 + k = i) := by
      rintro ⟨rfl, rfl⟩
      rw [h3] at hc
      have hk : k < 4 := by have := (List.getElem?_eq_some_iff.1 hy).1; exact this
      cases hc
      rcases (by omega : k = 0 ∨ k = 1 ∨ k = 2 ∨ k = 3) with rfl | rfl | rfl | rfl <;> simp [cells4] at hy
    rw [← h3]
    have hab : (⟨g, i, none⟩ : Addr) ≠ ⟨b, o + j * 4 + k, none⟩ := fun e => by
      cases e
      exact hne ⟨rfl, rfl⟩
    apply World.cell?_setCell_other
    exact hab
set_option maxHeartbeats 16000000 in
set_option maxRecDepth 100000 in
theorem pSplits (v : Value) (l : List UInt8) (nm : ByteArray) (w : World) (hr : Reads w v l) (hl : l.length ≤ 1048576) (hn : nm.size ≤ 1048576) (he : Env w) : Calls Tryd.prog 3 #[v, .string nm] w fun e w' => e = .returned (.bool true) ∧ Below w.heap.size w w' := by
  obtain ⟨A, c, rfl⟩ := hr.form
  obtain ⟨T, b, code, hres⟩ : ∃ T b code, resOf l = (T, b, code) := ⟨_, _, _, rfl⟩
  have hsm := res_small l
  rw [hres] at hsm
  obtain ⟨hsm, hfew⟩ := hsm
  have HSM : Hid (∀ f ∈ T, f.nm.length ≤ 140737488355328 ∧ f.bd.length ≤ 140737488355328) := fun f hf => by have := hsm f hf; omega
  have HSN : Hid (∀ f ∈ T, f.nm.length ≤ 140737488355328) := fun f hf => (HSM.out f hf).1
  have hfew2 : T.length ≤ 140737488355328 := by have : T.length ≤ 1000 := hfew; omega
  have HFW := Lib.hid hfew2
  have HSH := Lib.hid (pShown w he)
  have HR := Lib.hid hr
  have HV : Hid (∀ w1, Below w.heap.size w w1 → Env w1) := fun w1 h => he.on h
  have HGS : Hid (∀ w1, Below w.heap.size w w1 → Calls Tryd.prog 8 #[.slice A l.length c] w1 fun e w' => ∃ a cc, e = .returned (.tuple #[.slice a T.length cc, .int .i64 (b : Int), .int .i64 (code : Int)]) ∧ FReads w' (.slice a T.length cc) T ∧ Below w1.heap.size w1 w') := fun w1 h => (rSplit A c l w1 (HR.out.on h) (by omega)).mono fun e w' h => by
    have := split_res h
    rw [hres] at this
    exact this
  have HPS : Hid (∀ u w1, Below w.heap.size w w1 → Reads w1 u l → Calls Tryd.prog 9 #[u] w1 fun e w' => ∃ a cc, e = .returned (.tuple #[.slice a T.length cc, .int .i64 (b : Int), .int .i64 (code : Int)]) ∧ FReads w' (.slice a T.length cc) T ∧ Below w1.heap.size w1 w') := fun u w1 h hr1 => (pSplit u l w1 hr1 (by omega) (HV.out _ h)).mono fun e w' h => by
    have := split_res h
    rw [hres] at this
    exact this
  clear hr he hres hsm hfew hfew2
  go_enter Tryd.func3, Tryd.ntmps3
  go_wp2_with (first | (go_at_call 7; refine HSH.out.mono ?_; rintro e w1 ⟨rfl, hb1⟩; refine Hid.out ?_) | fail)
  refine Lib.hid ?_
  have HB1 := Lib.hid hb1
  have HON := Lib.hid (owns_new w1)
  have HBA := Lib.hid (Below.alloc1 w1 (.cells #[] 5))
  have HR1 : Hid (Reads (w1.alloc (.cells #[] 5)) (.slice A l.length c) l) := (HR.out.on hb1).on HBA.out
  clear hb1 HSH
  go_wp2_with (first | (at_builtin; go_must (refine wp_append_reads _ rfl _ _ rfl w1.heap.size (.slice (some ⟨w1.heap.size, 0, none⟩) 0 0) (.slice A l.length c) [] l rfl rfl HON.out HR1.out (by simp; omega) HBA.out.size ?_); intro v2 w2 own2 b2; refine Hid.out ?_) | fail)
  refine Lib.hid ?_
  have HO2 : Hid (Owns w2 w1.heap.size v2 l) := own2
  have HB2 : Hid (Below w.heap.size w w2) := HB1.out.trans (((HBA.out).trans b2).mono HB1.out.size)
  clear own2 b2 HON HBA HR1
  go_wp2_with (first | (go_at_call 8; refine (HGS.out _ HB2.out).mono ?_; rintro e w3 ⟨aw, cw, rfl, hf3, hb3⟩; refine Hid.out ?_) | fail)
  refine Lib.hid ?_
  have HO3 := Lib.hid (HO2.out.on hb3)
  have HB3 : Hid (Below w.heap.size w w3) := HB2.out.trans (hb3.mono HB2.out.size)
  have HF3 := Lib.hid hf3
  clear hf3 hb3 HGS HO2 HB2
  go_wp2_with (first | (go_at_call 9; refine (HPS.out _ _ HB3.out HO3.out.reads).mono ?_; rintro e w4 ⟨al, cl, rfl, hf4, hb4⟩; refine Hid.out ?_) | fail)
  refine Lib.hid ?_
  have HO4 := Lib.hid (HO3.out.on hb4)
  have HB4 : Hid (Below w.heap.size w w4) := HB3.out.trans (hb4.mono HB3.out.size)
  have HFW4 := Lib.hid (HF3.out.on hb4)
  have HFL4 := Lib.hid hf4
  have HG1 : Hid (w.heap.size ≤ w1.heap.size) := HB1.out.size
  clear hf4 hb4 HPS HO3 HB3 HF3 HB1
  obtain ⟨vA, vc, hv2⟩ := HO4.out.reads.form
  subst hv2
  go_wp2
  go_loopw [13] (fun i wr => ∃ (k : Nat) (l' : List UInt8), k ≤ l.length ∧ i = .int .i64 (k : Int) ∧ Hid (l'.length = l.length) ∧ Hid (Owns wr w1.heap.size (.slice vA l.length vc) l') ∧ Hid (FReads wr (.slice aw T.length cw) T) ∧ Hid (FReads wr (.slice al T.length cl) T) ∧ Hid (Below w.heap.size w wr)) (fun i _ => l.length - (intOf i).toNat)
  case atStart => exact ⟨0, l, Nat.zero_le _, rfl, rfl, HO4, HFW4, HFL4, HB4⟩
  case round =>
    clear HO4 HFW4 HFL4 HB4
    obtain ⟨k, l', hk, rfl, HLL, HO, HFW5, HFL5, HB5⟩ := hrel
    have i0 : (0 : Int) ≤ (k : Int) := by omega
    by_cases hlt : k < l.length
    · have i1 : (k : Int) < (l.length : Int) := by omega
      have hO := HO.out
      rw [← HLL.out] at hO
      have hlt' : k < l'.length := by rw [HLL.out]; exact hlt
      obtain ⟨g, cg, hgv, hg1, hg2⟩ := hO.form (by omega)
      cases hgv
      have hcell := hO.cell k hlt'
      have hfree := hO.free k
      have HNX : Hid (Owns (wr.setCell ⟨g, k, none⟩ (.int .u8 77)) w1.heap.size (.slice (some ⟨g, 0, none⟩) l.length vc) (l'.set k 77)) := by
        have := hO.stored k 77 hlt'
        rw [HLL.out] at this
        exact this
      have HNL : Hid ((l'.set k 77).length = l.length) := by show _ = _; rw [List.length_set]; exact HLL.out
      have HNW := Lib.hid (HFW5.out.spared hcell (.int .u8 77))
      have HNF := Lib.hid (HFL5.out.spared hcell (.int .u8 77))
      have HNB : Hid (Below w.heap.size w (wr.setCell ⟨g, k, none⟩ (.int .u8 77))) := HB5.out.setCell (p := ⟨g, k, none⟩) (Nat.le_trans HG1.out hg1) _
      clear hO hlt' hg1 hg2 HO HFW5 HFL5 HB5
      generalize (l'.getD k 0).toNat = old at hcell
      go_wp2
      go_roundw
      case rel => exact ⟨k + 1, l'.set k 77, hlt, by go_num, HNL, HNX, HNW, HNF, HNB⟩
      case measure => simp [intOf]; omega
    · have i1 : ¬ (k : Int) < (l.length : Int) := by omega
      have HSF := Lib.hid (rSameF (.slice al T.length cl) (.slice aw T.length cw) T wr HFL5.out HFW5.out HFW.out)
      clear HO HLL
      go_wp2_with (first | (go_at_call 10; refine HSF.out.mono ?_; rintro e w5 ⟨rfl, hb5⟩; refine Hid.out ?_) | fail)
      refine Lib.hid ?_
      have HFW6 := Lib.hid (HFW5.out.on hb5)
      have HFL6 := Lib.hid (HFL5.out.on hb5)
      have HB6 : Hid (Below w.heap.size w w5) := HB5.out.trans (hb5.mono HB5.out.size)
      clear hb5 HSF HFW5 HFL5 HB5
      obtain ⟨r, hr⟩ : ∃ r, r = (findF T nm.data.toList).getD zeroFld := ⟨_, rfl⟩
      obtain ⟨q, hq⟩ : ∃ q, q = (findF T nm.data.toList).isSome := ⟨_, rfl⟩
      have HF1 : Hid (Calls Tryd.prog 11 #[.slice al T.length cl, .string nm] w5 fun e w' => e = .returned (.tuple #[.agg #[S r.nm, S r.bd, .int .i64 (r.fr : Int), .int .i64 (r.en : Int)], .bool q]) ∧ Below w5.heap.size w5 w') := by
        rw [hr, hq]
        exact pFind _ T nm w5 HFL6.out HFW.out HSM.out (by omega)
      have HRR := Lib.hid hr
      have HQQ := Lib.hid hq
      clear hr hq
      go_wp2_with (first | (go_at_call 11; refine HF1.out.mono ?_; rintro e w6 ⟨rfl, hb6⟩; refine Hid.out ?_) | fail)
      refine Lib.hid ?_
      have hb7 : Below w6.heap.size w6 (w6.alloc (.cells #[S r.nm, S r.bd, .int .i64 (r.fr : Int), .int .i64 (r.en : Int)] 30)) := Below.alloc1 _ _
      have HX7 : Hid ((w6.alloc (.cells #[S r.nm, S r.bd, .int .i64 (r.fr : Int), .int .i64 (r.en : Int)] 30)).heap[w6.heap.size]? = some (fldO r)) := (MapKept.heap_alloc w6 _).1
      have HFW7 := Lib.hid ((HFW6.out.on hb6).on hb7)
      have HFL7 := Lib.hid ((HFL6.out.on hb6).on hb7)
      have HB7 : Hid (Below w.heap.size w (w6.alloc (.cells #[S r.nm, S r.bd, .int .i64 (r.fr : Int), .int .i64 (r.en : Int)] 30))) := HB6.out.trans ((hb6.trans (hb7.mono hb6.size)).mono HB6.out.size)
      have HF2 : Hid (Calls Tryd.prog 12 #[.slice aw T.length cw, .string nm] (w6.alloc (.cells #[S r.nm, S r.bd, .int .i64 (r.fr : Int), .int .i64 (r.en : Int)] 30)) fun e w' => e = .returned (.tuple #[.agg #[S r.nm, S r.bd, .int .i64 (r.fr : Int), .int .i64 (r.en : Int)], .bool q]) ∧ Below (w6.alloc (.cells #[S r.nm, S r.bd, .int .i64 (r.fr : Int), .int .i64 (r.en : Int)] 30)).heap.size (w6.alloc (.cells #[S r.nm, S r.bd, .int .i64 (r.fr : Int), .int .i64 (r.en : Int)] 30)) w') := by
        have h0 := rFind _ T nm (w6.alloc (.cells #[S r.nm, S r.bd, .int .i64 (r.fr : Int), .int .i64 (r.en : Int)] 30)) HFW7.out HFW.out HSN.out (by omega)
        unfold FindEnd at h0
        rw [← HRR.out, ← HQQ.out] at h0
        exact h0
      clear hb6 hb7 HF1 HFW6 HFL6 HB6
      go_wp2_with (first | (go_at_call 12; refine HF2.out.mono ?_; rintro e w8 ⟨rfl, hb8⟩; refine Hid.out ?_) | fail)
      refine Lib.hid ?_
      have HX8 : Hid (w8.heap[w6.heap.size]? = some (fldO r)) := (hb8.block _ (heap_lt HX7.out)).trans HX7.out
      have HFW8 := Lib.hid (HFW7.out.on hb8)
      have HFL8 := Lib.hid (HFL7.out.on hb8)
      have HB8 : Hid (Below w.heap.size w w8) := HB7.out.trans (hb8.mono HB7.out.size)
      clear hb8 HF2 HFW7 HFL7 HB7 HX7
      have hba := Below.alloc1 w8 (fldO r)
      have HX9 : Hid ((w8.alloc (fldO r)).heap[w6.heap.size]? = some (fldO r)) := (hba.block _ (heap_lt HX8.out)).trans HX8.out
      have HY9 : Hid ((w8.alloc (fldO r)).heap[w8.heap.size]? = some (fldO r)) := (MapKept.heap_alloc w8 _).1
      have HB9 : Hid (Below w.heap.size w (w8.alloc (fldO r))) := HB8.out.trans (hba.mono HB8.out.size)
      have HFW9 := Lib.hid (HFW8.out.on hba)
      have HH1 : Hid (Calls Tryd.prog 13 #[.slice al T.length cl] (w8.alloc (.cells #[S r.nm, S r.bd, .int .i64 (r.fr : Int), .int .i64 (r.en : Int)] 30)) fun e w' => e = .returned (.int .i64 (hopsF T : Int)) ∧ Below (w8.alloc (fldO r)).heap.size (w8.alloc (fldO r)) w') := pHops _ T _ (HFL8.out.on hba) HFW.out HSN.out
      clear hba HX8 HFW8 HFL8 HB8
      obtain ⟨hp, hhp⟩ : ∃ hp, hp = hopsF T := ⟨_, rfl⟩
      have HHP := Lib.hid hhp
      rw [← hhp] at HH1
      clear hhp
      go_wp2_with (first | (go_at_call 13; refine HH1.out.mono ?_; rintro e w10 ⟨rfl, hb10⟩; refine Hid.out ?_) | fail)
      refine Lib.hid ?_
      have hx10 : w10.heap[w6.heap.size]? = some (fldO r) := (hb10.block _ (heap_lt HX9.out)).trans HX9.out
      have hy10 : w10.heap[w8.heap.size]? = some (fldO r) := (hb10.block _ (heap_lt HY9.out)).trans HY9.out
      have HB10 : Hid (Below w.heap.size w w10) := HB9.out.trans (hb10.mono HB9.out.size)
      have HH2 : Hid (Calls Tryd.prog 14 #[.slice aw T.length cw] w10 fun e w' => e = .returned (.int .i64 (hp : Int)) ∧ Below w10.heap.size w10 w') := by rw [HHP.out]; exact rHops _ T _ (HFW9.out.on hb10) HFW.out HSN.out
      obtain ⟨p0, p1, p2, p3, _, _, _, _⟩ := four_cells' hx10
      obtain ⟨y0, y1, y2, y3, _, _, _, _⟩ := four_cells' hy10
      clear hx10 hy10 hb10 HX9 HY9 HB9 HFW9 HH1
      go_wp2_with (first | (go_at_call 14; refine HH2.out.mono ?_; rintro e w11 ⟨rfl, hb11⟩; refine Hid.out ?_) | fail)
      refine Lib.hid ?_
      have HB11 : Hid (Below w.heap.size w w11) := HB10.out.trans (hb11.mono HB10.out.size)
      clear hb11
      go_wp2
      go_ret
      exact ⟨rfl, HB11.out⟩
end Go.Proofs.YtnogpoojhhmadaaDoor.Header
