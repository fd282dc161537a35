/-
  HEADER, the program: a field's bytes.
-/
import Derived.Test.YtnogpoojhhmadaaDoorHpText
namespace Go.Proofs.YtnogpoojhhmadaaDoor.Header
open Go.RowKit Go.Shelf Base
attribute [local go_sem] Oper.semAt_some
theorem results_write {w : World} {tmps : Array Value} {b c : Nat} {v u : Value} (h1 : tmps.getD 4 undef = .pointer (some ⟨b, 0, none⟩)) (h2 : tmps.getD 5 undef = .pointer (some ⟨c, 0, none⟩)) (hb : w.cell? ⟨b, 0, none⟩ = some v) (hc : w.cell? ⟨c, 0, none⟩ = some u) :
    (results Tryd.f16 tmps).run Tryd.prog w = .ok (.tuple #[v, u]) w := by
  unfold results
  rw [Tryd.results16]
  rw [Array.getD_eq_getD_getElem?] at h1 h2
  simp [h1, h2, hb, hc, asAddr, go_sem]
/-- The boxes of the two results. -/
def Two (w : World) (v u : Value) (W : World) : Prop := Below w.heap.size w W ∧ Boxed W w.heap.size 22 v ∧ Boxed W (w.heap.size + 1) 25 u
abbrev two0 (w : World) : World := (w.alloc (.cells #[.slice none 0 0] 22)).alloc (.cells #[.int .i64 0] 25)
theorem Two.start (w : World) : Two w (.slice none 0 0) (.int .i64 0) (two0 w) := by
  have s1 : (w.alloc (.cells #[.slice none 0 0] 22)).heap.size = w.heap.size + 1 := by simp
  have b2 := Boxed.new (w.alloc (.cells #[.slice none 0 0] 22)) 25 (.int .i64 0)
  rw [s1] at b2
  exact ⟨(Below.alloc1 w _).trans ((Below.alloc1 _ _).mono (by rw [s1]; omega)), (Boxed.new w 22 (.slice none 0 0)).alloc _, b2⟩
theorem Two.on {w W W' : World} {v u : Value} (h : Two w v u W) (hb : Below W.heap.size W W') : Two w v u W' :=
  ⟨h.1.trans (hb.mono h.1.size), (hb.block _ h.2.1.lt).trans h.2.1, (hb.block _ h.2.2.lt).trans h.2.2⟩
theorem Two.put {w W : World} {v u : Value} (h : Two w v u W) (v' u' : Value) : Two w v' u' ((W.setCell ⟨w.heap.size, 0, none⟩ v').setCell ⟨w.heap.size + 1, 0, none⟩ u') :=
  ⟨(h.1.setCell (p := ⟨w.heap.size, 0, none⟩) (Nat.le_refl _) _).setCell (p := ⟨w.heap.size + 1, 0, none⟩) (by show _ ≤ w.heap.size + 1; omega) _,
    (set_other (by omega)).trans (h.2.1.set v'), by
      have : Boxed (W.setCell ⟨w.heap.size, 0, none⟩ v') (w.heap.size + 1) 25 u := (set_other (by omega)).trans h.2.2
      exact this.set u'⟩
theorem Two.grown {w A B : World} {v u : Value} {row : Option Nat} (h : Two w v u A) (hg : A.grownBy B row) (hr : ∀ r, row = some r → w.heap.size + 2 ≤ r) : Two w v u B :=
  ⟨h.1.grown hg h.1.size (fun k e => by have := hr k e; omega), h.2.1.kept hg (fun e => by have := hr _ e.symm; omega), h.2.2.kept hg (fun e => by have := hr _ e.symm; omega)⟩
theorem Two.other {w A : World} {v u : Value} (h : Two w v u A) {k : Nat} (hk : w.heap.size + 2 ≤ k) (x : Value) : Two w v u (A.setCell ⟨k, 0, none⟩ x) :=
  ⟨h.1.setCell (p := ⟨k, 0, none⟩) (by show _ ≤ k; omega) _, (set_other (by omega)).trans h.2.1, (set_other (by omega)).trans h.2.2⟩
theorem two_size (w : World) : (two0 w).heap.size = w.heap.size + 2 := by simp
set_option maxHeartbeats 8000000 in
set_option maxRecDepth 100000 in
/-- A name or a text that may not be. -/
theorem pWriteBad (nm bd : ByteArray) (w : World) (hn : nm.size ≤ 500000000) (hs : bd.size ≤ 500000000) (hbad : nameB nm.data.toList = false ∨ textB bd.data.toList = false) : Calls Tryd.prog 16 #[.string nm, .string bd] w (WriteEnd (.inl 110) w) := by
  obtain ⟨w1, hw1⟩ : ∃ w1, w1 = two0 w := ⟨_, rfl⟩
  have HW1 : Hid (w1 = (w.alloc (.cells #[.slice none 0 0] 22)).alloc (.cells #[.int .i64 0] 25)) := hw1
  have HT : Hid (Two w (.slice none 0 0) (.int .i64 0) w1) := by rw [hw1]; exact Two.start w
  have HTP := Lib.hid (HT.out.put (.slice none 0 0) (.int .i64 110))
  have b1 := HT.out.2.1.cell
  have b2 := HT.out.2.2.cell
  have f1 := HT.out.2.1.frozen
  have f2 := HT.out.2.2.frozen
  have HN := Lib.hid (pName nm w1 (by omega))
  have HX := Lib.hid (pText bd w1 (by omega))
  cases hnb : nameB nm.data.toList
  · rw [hnb] at HN
    clear hbad hnb HX hw1
    go_enter Tryd.func16, Tryd.ntmps16
    go_wp2_with (first | (go_at_call 33; refine (HW1.out ▸ HN.out).mono ?_; rintro e w' ⟨rfl, rfl⟩; refine Hid.out ?_) | fail)
    refine Lib.hid ?_
    rw [← HW1.out]
    go_wp2
    exact bodyPost_ret (results_write rfl rfl HTP.out.2.1.cell HTP.out.2.2.cell) rfl ⟨HTP.out.1, rfl⟩
  · have hx : textB bd.data.toList = false := by
      rcases hbad with h | h
      · rw [hnb] at h; cases h
      · exact h
    rw [hnb] at HN
    rw [hx] at HX
    clear hbad hnb hx hw1
    go_enter Tryd.func16, Tryd.ntmps16
    go_wp2_with (first | (go_at_call 33; refine (HW1.out ▸ HN.out).mono ?_; rintro e w' ⟨rfl, rfl⟩; refine Hid.out ?_) | fail)
    refine Lib.hid ?_
    rw [← HW1.out]
    go_wp2_with (first | (go_at_call 34; refine HX.out.mono ?_; rintro e w' ⟨rfl, rfl⟩; refine Hid.out ?_) | fail)
    refine Lib.hid ?_
    go_wp2
    exact bodyPost_ret (results_write rfl rfl HTP.out.2.1.cell HTP.out.2.2.cell) rfl ⟨HTP.out.1, rfl⟩
set_option maxHeartbeats 16000000 in
set_option maxRecDepth 100000 in
theorem pWriteOk (nm bd : ByteArray) (w : World) (hn : nm.size ≤ 500000000) (hs : bd.size ≤ 500000000) (he : Env w) (hnb : nameB nm.data.toList = true) (hxb : textB bd.data.toList = true) :
    Calls Tryd.prog 16 #[.string nm, .string bd] w (WriteEnd (if longF (fieldB nm.data.toList bd.data.toList) (fieldB nm.data.toList bd.data.toList).length 0 = true then .inl 111 else .inr (fieldB nm.data.toList bd.data.toList)) w) := by
  obtain ⟨w1, hw1⟩ : ∃ w1, w1 = two0 w := ⟨_, rfl⟩
  have HW1 : Hid (w1 = (w.alloc (.cells #[.slice none 0 0] 22)).alloc (.cells #[.int .i64 0] 25)) := hw1
  have HT : Hid (Two w (.slice none 0 0) (.int .i64 0) w1) := by rw [hw1]; exact Two.start w
  have hz1 : w1.heap.size = w.heap.size + 2 := by rw [hw1]; exact two_size w
  have HN := Lib.hid (pName nm w1 (by omega))
  have HX := Lib.hid (pText bd w1 (by omega))
  rw [hnb] at HN
  rw [hxb] at HX
  obtain ⟨fr, hfr⟩ : ∃ fr : ByteArray, fr = ⟨(foldOf bd.data.toList ((nm.size + 2 : Nat) : Int)).toArray⟩ := ⟨_, rfl⟩
  have hfl : fr.size ≤ 3 * (bd.size + 1) := by
    rw [hfr]
    have := fold_le bd.data.toList ((nm.size + 2 : Nat) : Int)
    rw [str_len] at this
    show (foldOf bd.data.toList ((nm.size + 2 : Nat) : Int)).toArray.size ≤ _
    rw [List.size_toArray]
    exact this
  have HFO : Hid (Calls Tryd.prog 35 #[.string bd, .int .i64 ((nm.size : Int) + 2)] w1 fun e w' => e = .returned (.string fr) ∧ Below w1.heap.size w1 w') := by
    have := pFold bd ((nm.size : Int) + 2) w1 (by omega)
    unfold FoldEnd at this
    rw [hfr]
    exact this
  obtain ⟨f, hf⟩ : ∃ f : ByteArray, f = nm ++ ⟨#[58, 32]⟩ ++ fr := ⟨_, rfl⟩
  have hfz : f.size = nm.size + 2 + fr.size := by rw [hf, ByteArray.size_append, ByteArray.size_append]; rfl
  have HFB : Hid (fieldB nm.data.toList bd.data.toList = f.data.toList ++ [13, 10]) := by
    show _ = _
    unfold fieldB
    rw [str_len, hf, hfr]
    simp
  have HFA : Hid (nm ++ ⟨#[58, 32]⟩ ++ fr = f) := hf.symm
  have HLF : Hid (longF (fieldB nm.data.toList bd.data.toList) (fieldB nm.data.toList bd.data.toList).length 0 = (linesO f.data.toList).any longB) := by
    show _ = _
    rw [HFB.out]
    exact long_field _
  have HV1 : Hid (Env w1) := he.on (by rw [hw1]; exact (Two.start w).1)
  rw [HLF.out, HFB.out]
  obtain ⟨r, hr⟩ : ∃ r : Nat ⊕ List UInt8, r = if (linesO f.data.toList).any longB = true then .inl 111 else .inr (f.data.toList ++ [13, 10]) := ⟨_, rfl⟩
  have HRR := Lib.hid hr
  rw [← hr]
  clear hfr hf hw1 he hnb hxb HFB HLF hr
  refine (callsIn_wide (n := 5)).1 ?_
  refine callsIn_of_wp_marks Tryd.func16 rfl trivial ?_ rfl
  simp only [Tryd.ntmps16, List.size_toArray, List.length_cons, List.length_nil, Nat.reduceAdd, Nat.reduceSub, Array.replicate_succ, Array.replicate_zero, List.push_toArray, List.append_toArray, List.nil_append, List.cons_append]
  gi_wp2
  rw [← HW1.out]
  refine ⟨trivial, ?_⟩
  refine (callsIn_wide.2 HN.out).mono ?_
  rintro e w' ⟨rfl, rfl⟩
  gi_wp2
  refine ⟨trivial, ?_⟩
  refine (callsIn_wide.2 HX.out).mono ?_
  rintro e w' ⟨rfl, rfl⟩
  gi_wp2
  refine ⟨trivial, ?_⟩
  refine (callsIn_wide.2 HFO.out).mono ?_
  rintro e w2 ⟨rfl, hb2⟩
  have HT2 := Lib.hid (HT.out.on hb2)
  have HV2 := Lib.hid (HV1.out.on hb2)
  clear HN HX HFO HW1
  gi_wp2
  have HSQ := Lib.hid (pSeq f w2)
  rw [HFA.out]
  refine ⟨trivial, ?_⟩
  refine (callsIn_wide.2 HSQ.out).mono ?_
  rintro e w3 ⟨rfl, hq1, hq2, hq3, hq4, hq5⟩
  have hz2 : w.heap.size + 2 ≤ w2.heap.size := by have := hb2.size; omega
  have HT3 : Hid (Two w (.slice none 0 0) (.int .i64 0) w3) := HT2.out.on hq5
  have hfz2 : f.size ≤ 4000000000 := by omega
  have HZ2 := Lib.hid hz2
  have HZ3 := Lib.hid hq4
  have HFZ := Lib.hid hfz2
  have hq5' := hq5
  clear HSQ HT HT2 HV1 hb2 hz1 hfz hfl hfz2 HFA hq4
  gi_wp2
  refine range_any rfl (by omega) (gf := 65) (lb := #[.pointer (some ⟨w2.heap.size + 1, 0, none⟩), .pointer (some ⟨w2.heap.size, 0, none⟩), .pointer (some ⟨w2.heap.size + 2, 0, none⟩)]) rfl trivial (enters_of Tryd.func65 (by kernel_rfl) rfl)
    (seq_c 4 (by omega) (w2.heap.size + 1) w2.heap.size (w2.heap.size + 2) f w2 w3 HV2.out HFZ.out (Nat.le_refl _) (by omega) (by omega) hq5 hq2 hq1 hq3)
    (fun h1 h2 => KpC.trans h1 h2)
    (fun W l o o' hl ho _ => by
      have := HZ3.out
      exact ⟨⟨rfl, rfl, rfl, by simp, fun k hk => World.putObj_heap_other (by omega)⟩, World.putObj_heap_other (by omega), World.putObj_heap_other (by omega), World.putObj_heap_other (by omega)⟩)
    (by have := HZ3.out; omega) (Below.refl _ _) (fun _ => rfl) (fun x : Ln => longB x.1) (Two w (.slice none 0 0) (.int .i64 0)) (Two w (.slice none 0 0) (.int .i64 111))
    (fun A B row h hg hr => h.grown hg (fun r e => by have := hr r e; have := HZ3.out; have := HZ2.out; omega)) (fun A B row h hg hr => h.grown hg (fun r e => by have := hr r e; have := HZ3.out; have := HZ2.out; omega))
    (fun A v h => h.other HZ2.out v) HT3.out
    (fun x => { tmps := #[.string nm, .string bd, undef, undef, .pointer (some ⟨w.heap.size, 0, none⟩), .pointer (some ⟨w.heap.size + 1, 0, none⟩), .string f, .string ⟨x.1.toArray⟩, .string nm, .bool true, .bool false, .bool false, .string bd, .bool true, .bool false, .bool false, .string nm, .string (nm ++ ⟨#[58, 32]⟩), .string bd, .string nm, .int .i64 nm.size, .int .i64 (nm.size + 2), .string fr, .string f, .string f, seqF w2.heap.size, .string ⟨x.1.toArray⟩, undef, undef, undef, undef, undef, undef], defers := [] }) ?assign ?body ?done ?stop
  case assign =>
    intro l x W K hK
    gi_wp2
    exact hK
  case body =>
    rintro l x W hI
    have HXS : Hid ((⟨x.1.toArray⟩ : ByteArray).size = x.1.length) := by show x.1.toArray.size = _; simp
    have b1 := hI.2.1.cell
    have b2 := hI.2.2.cell
    have f1 := hI.2.1.frozen
    have f2 := hI.2.2.frozen
    have HTP := Lib.hid (hI.put (.slice none 0 0) (.int .i64 111))
    have HKF : Hid (KeepsFrom w3.heap.size W ((W.setCell ⟨w.heap.size, 0, none⟩ (.slice none 0 0)).setCell ⟨w.heap.size + 1, 0, none⟩ (.int .i64 111))) :=
      ⟨by simp [World.setCell], fun k o hk ho _ => (set_other (by have := HZ3.out; have := HZ2.out; omega)).trans ((set_other (by have := HZ3.out; have := HZ2.out; omega)).trans ho)⟩
    clear hI
    by_cases hb : 998 < x.1.length
    · have j1 : (998 : Int) < (x.1.length : Int) := by omega
      have HBX : Hid (longB x.1 = true) := by show _ = _; unfold longB; rw [decide_eq_true hb]
      clear hb
      gi_wp2
      exact ⟨HBX.out, HKF.out, HTP.out⟩
    · have j1 : ¬ (998 : Int) < (x.1.length : Int) := by omega
      have HBX : Hid (longB x.1 = false) := by show _ = _; unfold longB; rw [decide_eq_false hb]
      clear hb
      gi_wp2
      exact HBX.out
  case done =>
    rintro D xs W hD hS hxs hI hK
    have HR : Hid (r = .inr (f.data.toList ++ [13, 10])) := by
      show _ = _
      rw [HRR.out, if_neg]
      rw [← hS, List.any_map]
      have : xs.any (longB ∘ fun x : Ln => x.1) = false := hxs
      rw [this]; simp
    obtain ⟨X, hX⟩ : ∃ X : ByteArray, X = f ++ ⟨#[13, 10]⟩ := ⟨_, rfl⟩
    have hXs : X.size = f.size + 2 := by rw [hX, ByteArray.size_append]; rfl
    have hXd : X.data.toList = f.data.toList ++ [13, 10] := by rw [hX]; simp
    obtain ⟨cap, hcap, hcv⟩ := ref_bytes W X
    have hat := BytesAt.new W X cap hcap
    have hrs : (bytesRow X cap).size = cap := by unfold bytesRow; simp; exact Nat.add_sub_cancel' hcap
    have hfu : ∃ cs : Array Value, (W.drew.alloc (.cells (bytesRow X cap) 5 ((bytesRow X cap).size, (bytesRow X cap).size + 1))).heap[W.heap.size]? = some (.cells cs 5 (cap, cap + 1)) ∧ cs.size = cap := ⟨bytesRow X cap, (MapKept.heap_alloc W.drew (.cells (bytesRow X cap) 5 ((bytesRow X cap).size, (bytesRow X cap).size + 1))).1.trans (by rw [hrs]), hrs⟩
    have hbl : Below W.heap.size W (W.drew.alloc (.cells (bytesRow X cap) 5 ((bytesRow X cap).size, (bytesRow X cap).size + 1))) := (Below.refl _ _).drew.alloc (Nat.le_refl _) _
    have hK1 : (W.drew.alloc (.cells (bytesRow X cap) 5 ((bytesRow X cap).size, (bytesRow X cap).size + 1))).heap[D]? = some (.deferred (some [])) := (hbl.block D (heap_lt hK)).trans hK
    obtain ⟨WB, hWB⟩ : ∃ WB, WB = W.drew.alloc (.cells (bytesRow X cap) 5 ((bytesRow X cap).size, (bytesRow X cap).size + 1)) := ⟨_, rfl⟩
    rw [← hWB] at hcv hat hfu hbl hK1
    have HTB := Lib.hid (hI.on hbl)
    have HG : Hid (w.heap.size ≤ W.heap.size) := hI.1.size
    have HAT := Lib.hid hat
    have HFU := Lib.hid hfu
    have HXD := Lib.hid hXd
    have HWB := Lib.hid hWB
    have hK2 : ((WB.setCell ⟨w.heap.size, 0, none⟩ (.slice (some ⟨W.heap.size, 0, none⟩) X.size cap)).setCell ⟨w.heap.size + 1, 0, none⟩ (.int .i64 0)).heap[D]? = some (.deferred (some [])) := (KeepsOthers.setCell _ _ _).same D _ ((KeepsOthers.setCell _ _ _).same D _ hK1 rfl) rfl
    have HK2 := Lib.hid hK2
    have b1 := HTB.out.2.1.cell
    have b2 := HTB.out.2.2.cell
    have f1 := HTB.out.2.1.frozen
    have f2 := HTB.out.2.2.frozen
    have hfz3 := HFZ.out
    rw [hX] at hcv
    have HXX := Lib.hid hX
    have HDG : Hid (w.heap.size + 2 ≤ D) := by show _ ≤ _; have := HZ3.out; have := HZ2.out; omega
    have HDW : Hid (D < W.heap.size) := heap_lt hK
    have HWZ : Hid (w.heap.size + 2 ≤ W.heap.size) := by have := HDG.out; have := HDW.out; show _ ≤ _; omega
    clear hX hXd hat hfu hbl hK1 hWB hK2 hS hxs hI hK hD hrs hcap
    gi_wp2
    rw [← hXs]
    refine ⟨by simp, .inl ⟨_, _, rfl, run_takeDeferred HK2.out, ?_⟩⟩
    have hT := HTB.out.put (.slice (some ⟨W.heap.size, 0, none⟩) X.size cap) (.int .i64 0)
    have hblk : (((WB.setCell ⟨w.heap.size, 0, none⟩ (.slice (some ⟨W.heap.size, 0, none⟩) X.size cap)).setCell ⟨w.heap.size + 1, 0, none⟩ (.int .i64 0)).putObj D (.deferred none)).heap[W.heap.size]? = WB.heap[W.heap.size]? :=
      (World.putObj_heap_other (by have := HDW.out; omega)).trans ((set_other (by have := HWZ.out; omega)).trans (set_other (by have := HWZ.out; omega)))
    generalize ((WB.setCell ⟨w.heap.size, 0, none⟩ (.slice (some ⟨W.heap.size, 0, none⟩) X.size cap)).setCell ⟨w.heap.size + 1, 0, none⟩ (.int .i64 0)) = WZ at hT hblk ⊢
    have hT2 := hT.grown (grownBy_putObj' WZ D (.deferred none)) (fun r e => by cases e; exact HDG.out)
    refine ⟨_, results_write rfl rfl hT2.2.1.cell hT2.2.2.cell, ?_⟩
    rw [HR.out, ← HXD.out]
    obtain ⟨cs, q1, q2⟩ := HFU.out
    obtain ⟨cs', p1, p2⟩ := HAT.out
    exact ⟨hT2.1, W.heap.size, cap, by rw [str_len], HG.out, ⟨cs', hblk.trans p1, p2⟩, ⟨cs, hblk.trans q1, q2⟩⟩
  case stop =>
    rintro D pre W hD hSp hpx hIx hK
    have HR : Hid (r = .inl 111) := by
      show _ = _
      rw [HRR.out, if_pos]
      obtain ⟨t, ht⟩ := hSp
      rw [← ht, List.any_append, List.any_map]
      have : pre.any (longB ∘ fun x : Ln => x.1) = true := hpx
      rw [this]; rfl
    have HIX := Lib.hid hIx
    clear hSp hpx hIx
    gi_wp2
    refine ⟨by simp, .inl ⟨_, _, rfl, run_takeDeferred hK, ?_⟩⟩
    have hg := grownBy_putObj' W D (.deferred none)
    have hT := HIX.out.grown hg (fun r e => by cases e; have := HZ3.out; have := HZ2.out; omega)
    refine ⟨_, results_write rfl rfl hT.2.1.cell hT.2.2.cell, ?_⟩
    rw [HR.out]
    exact ⟨hT.1, rfl⟩
theorem pWrite (nm bd : ByteArray) (w : World) (hn : nm.size ≤ 500000000) (hs : bd.size ≤ 500000000) (he : Env w) : Calls Tryd.prog 16 #[.string nm, .string bd] w (WriteEnd (writeOf nm.data.toList bd.data.toList) w) := by
  unfold writeOf
  by_cases h1 : nameB nm.data.toList = true
  · rw [if_pos h1]
    by_cases h2 : bd.data.toList.any badB = true
    · rw [if_pos h2]
      exact pWriteBad nm bd w hn hs (Or.inr (by unfold textB; rw [h2]; rfl))
    · rw [if_neg h2]
      exact pWriteOk nm bd w hn hs he h1 (by unfold textB; have : bd.data.toList.any badB = false := by simpa using h2
                                             rw [this]; rfl)
  · rw [if_neg h1]
    exact pWriteBad nm bd w hn hs (Or.inl (by simpa using h1))
end Go.Proofs.YtnogpoojhhmadaaDoor.Header
