/-
  HEADER, the program: the first field of a name.
-/
import Derived.Test.YtnogpoojhhmadaaDoorHpHops
import Derived.Test.YtnogpoojhhmadaaDoorHpField
import Derived.Test.YtnogpoojhhmadaaDoorHdrFind
import Derived.Deep.RegionHeld3
namespace Go.Proofs.YtnogpoojhhmadaaDoor.Header
open Go.RowKit Base
theorem pClone (s : ByteArray) (w : World) (h : s.size ≤ 281474976710656) : Calls Tryd.prog 29 #[.string s] w fun e w' => e = .returned (.string s) ∧ Below w.heap.size w w' := by
  have HC := Lib.hid (Tryd.stringslite_Clone s w h)
  clear h
  go_enter Tryd.func29, Tryd.ntmps29
  go_wp2_with (first | (go_at_call 46; refine HC.out.mono ?_; rintro e w' ⟨rfl, hb⟩; refine Hid.out ?_) | fail)
  refine Lib.hid ?_
  go_wp2
  go_ret
  exact ⟨rfl, hb⟩
abbrev fldO (f : Fld) : Obj := .cells #[S f.nm, S f.bd, .int .i64 (f.fr : Int), .int .i64 (f.en : Int)] 30
/-- A field in a box of the call's own. -/
def BoxS (w0 : World) (H : Nat) (f : Fld) (w' : World) : Prop :=
  (Below w0.heap.size w0 w' ∧ w0.heap.size ≤ H ∧ w'.heap[H]? = some (fldO f)) ∧ w'.cell? ⟨H, 0, none⟩ = some (S f.nm) ∧ w'.cell? ⟨H, 1, none⟩ = some (S f.bd) ∧ w'.frozen? ⟨H, 0, none⟩ = false ∧ w'.frozen? ⟨H, 1, none⟩ = false
theorem BoxS.of {w0 : World} {H : Nat} {f : Fld} {w' : World} (hb : Below w0.heap.size w0 w') (hH : w0.heap.size ≤ H) (hh : w'.heap[H]? = some (fldO f)) : BoxS w0 H f w' :=
  ⟨⟨hb, hH, hh⟩, by simp [World.cell?, hh], by simp [World.cell?, hh], by simp [World.frozen?, hh], by simp [World.frozen?, hh]⟩
theorem BoxS.on {w0 : World} {H : Nat} {f : Fld} {w w' : World} (h : BoxS w0 H f w) (hb : Below w.heap.size w w') : BoxS w0 H f w' :=
  BoxS.of (h.1.1.trans (hb.mono h.1.1.size)) h.1.2.1 ((hb.block H (heap_lt h.1.2.2)).trans h.1.2.2)
theorem BoxS.set0 {w0 : World} {H : Nat} {f : Fld} {w : World} (h : BoxS w0 H f w) : BoxS w0 H f (w.setCell ⟨H, 0, none⟩ (S f.nm)) :=
  BoxS.of (h.1.1.setCell (p := ⟨H, 0, none⟩) h.1.2.1 _) h.1.2.1 (by rw [heap_setCell_any w H 0 _ _ _ _ h.1.2.2]; rfl)
theorem BoxS.set1 {w0 : World} {H : Nat} {f : Fld} {w : World} (h : BoxS w0 H f w) : BoxS w0 H f (w.setCell ⟨H, 1, none⟩ (S f.bd)) :=
  BoxS.of (h.1.1.setCell (p := ⟨H, 1, none⟩) h.1.2.1 _) h.1.2.1 (by rw [heap_setCell_any w H 1 _ _ _ _ h.1.2.2]; rfl)
theorem BoxS.drew {w0 : World} {H : Nat} {f : Fld} {w : World} (h : BoxS w0 H f w) : BoxS w0 H f w.drew := h.on (Below.refl _ _).drew
theorem four_cells' {w : World} {g : Nat} {a b c d : Value} {t : TypeId} (h : w.heap[g]? = some (.cells #[a, b, c, d] t)) :
    w.cell? ⟨g, 0, none⟩ = some a ∧ w.cell? ⟨g, 1, none⟩ = some b ∧ w.cell? ⟨g, 2, none⟩ = some c ∧ w.cell? ⟨g, 3, none⟩ = some d ∧ w.frozen? ⟨g, 0, none⟩ = false ∧ w.frozen? ⟨g, 1, none⟩ = false ∧ w.frozen? ⟨g, 2, none⟩ = false ∧ w.frozen? ⟨g, 3, none⟩ = false := by
  refine ⟨?_, ?_, ?_, ?_, ?_, ?_, ?_, ?_⟩ <;> simp [World.cell?, World.frozen?, h]
set_option maxHeartbeats 8000000 in
set_option maxRecDepth 100000 in
theorem pFind (v : Value) (T : List Fld) (nm : ByteArray) (w : World) (h : FReads w v T) (hn : T.length ≤ 140737488355328) (hs : ∀ f ∈ T, f.nm.length ≤ 140737488355328 ∧ f.bd.length ≤ 140737488355328) (hm : nm.size ≤ 140737488355328) :
    Calls Tryd.prog 11 #[v, .string nm] w (FindEnd (findF T nm.data.toList) w) := by
  obtain ⟨a1, c1, rfl⟩ := h.form
  obtain ⟨fin, hfin⟩ : ∃ fin, fin = findF T nm.data.toList := ⟨_, rfl⟩
  have HF0 : Hid (findF (T.drop 0) nm.data.toList = fin) := hfin.symm
  rw [← hfin]
  clear hfin
  obtain ⟨wb, hwb⟩ : ∃ wb, wb = w.alloc fld0 := ⟨_, rfl⟩
  have hbx : wb.heap[w.heap.size]? = some fld0 := by rw [hwb]; exact (MapKept.heap_alloc w _).1
  have HBW : Hid (Below w.heap.size w wb) := by rw [hwb]; exact Below.alloc1 _ _
  have HBX := Lib.hid hbx
  have HA := Lib.hid (h.on HBW.out)
  have HS := Lib.hid hs
  have HWB := Lib.hid hwb
  have HM := Lib.hid hm
  clear h hs hwb hbx hm
  go_enter Tryd.func11, Tryd.ntmps11
  go_wp2
  rw [← HWB.out]
  go_loopw [7, 10] (fun _ i wr => ∃ k : Nat, k ≤ T.length ∧ i = .int .i64 (k : Int) ∧ Hid (findF (T.drop k) nm.data.toList = fin) ∧ Hid (Below wb.heap.size wb wr)) (fun _ i _ => T.length - (intOf i).toNat)
  case atStart => exact ⟨0, by omega, rfl, HF0, Below.refl _ _⟩
  case round =>
    clear HF0
    obtain ⟨k, hk, rfl, HF, HW⟩ := hrel
    have HWW : Hid (Below w.heap.size w wr) := HBW.out.trans (HW.out.mono HBW.out.size)
    by_cases hlt : k < T.length
    · obtain ⟨f, hf⟩ : ∃ f, T[k]? = some f := ⟨_, List.getElem?_eq_getElem hlt⟩
      obtain ⟨b1, o1, e1, p0, p1, p2, p3⟩ := (HA.out.on HW.out).cell hf
      subst e1
      have i0 : (0 : Int) ≤ (k : Int) := by omega
      have i1 : (k : Int) < (T.length : Int) := by omega
      have hfm := HS.out f (List.mem_of_getElem? hf)
      have HC : Hid (∀ w1, Calls Tryd.prog 28 #[S f.nm, .string nm] w1 fun e w' => e = .returned (.bool (sameB f.nm nm.data.toList)) ∧ Below w1.heap.size w1 w') := fun w1 => pSame ⟨f.nm.toArray⟩ nm w1 (by show f.nm.toArray.size ≤ _; simp; omega) (by have := HM.out; omega)
      have HCL : Hid (∀ (w1 : World) (s : ByteArray), Hid (s.size ≤ 281474976710656) → Calls Tryd.prog 29 #[.string s] w1 fun e w' => e = .returned (.string s) ∧ Below w1.heap.size w1 w') := fun w1 s hs => pClone s w1 hs
      have HZ1 : Hid ((⟨f.nm.toArray⟩ : ByteArray).size ≤ 281474976710656) := by show f.nm.toArray.size ≤ _; simp; omega
      have HZ2 : Hid ((⟨f.bd.toArray⟩ : ByteArray).size ≤ 281474976710656) := by show f.bd.toArray.size ≤ _; simp; omega
      have HFD := Lib.hid (find_drop (nm := nm.data.toList) hf)
      have HBA := Lib.hid (Below.alloc1 wr (fldO f))
      have HH0 := Lib.hid (MapKept.heap_alloc wr (fldO f)).1
      cases hb : sameB f.nm nm.data.toList
      · have HC2 : Hid (∀ w1, Calls Tryd.prog 28 #[S f.nm, .string nm] w1 fun e w' => e = .returned (.bool false) ∧ Below w1.heap.size w1 w') := by rw [hb] at HC; exact HC
        have HF2 : Hid (findF (T.drop (k + 1)) nm.data.toList = fin) := by show _ = _; rw [← HF.out, HFD.out, hb]; rfl
        clear HC HFD hb hf HF hfm HCL HZ1 HZ2
        go_wp2_with (first | (go_at_call 28; refine (HC2.out _).mono ?_; rintro e w2 ⟨rfl, hb2⟩; refine Hid.out ?_) | fail)
        refine Lib.hid ?_
        have HW2 := Lib.hid (HW.out.trans ((HBA.out.trans (hb2.mono HBA.out.size)).mono HW.out.size))
        clear hb2 HBA HH0
        go_wp2
        go_roundw
        case rel => exact ⟨k + 1, by omega, by go_num, HF2, HW2⟩
        case measure => simp [intOf]; omega
      · have HC2 : Hid (∀ w1, Calls Tryd.prog 28 #[S f.nm, .string nm] w1 fun e w' => e = .returned (.bool true) ∧ Below w1.heap.size w1 w') := by rw [hb] at HC; exact HC
        have HF2 : Hid (some f = fin) := by show _ = _; rw [← HF.out, HFD.out, hb]; rfl
        clear HC HFD hb hf HF hfm
        go_wp2_with (first | (go_at_call 28; refine (HC2.out _).mono ?_; rintro e w2 ⟨rfl, hb2⟩; refine Hid.out ?_) | fail)
        refine Lib.hid ?_
        have hbox : BoxS wb wr.heap.size f w2 := BoxS.on (BoxS.of (HW.out.trans (HBA.out.mono HW.out.size)) HW.out.size HH0.out) hb2
        have HX0 := Lib.hid hbox
        obtain ⟨_, d0, d1, z0, z1⟩ := hbox
        clear hb2 HBA HH0 p0 p1 p2 p3
        go_wp2
        go_region_held3 (fun w' => (Below wb.heap.size wb w' ∧ wb.heap.size ≤ wr.heap.size ∧ w'.heap[wr.heap.size]? = some (fldO f)) ∧ w'.cell? ⟨wr.heap.size, 0, none⟩ = some (S f.nm) ∧ w'.cell? ⟨wr.heap.size, 1, none⟩ = some (S f.bd) ∧ w'.frozen? ⟨wr.heap.size, 0, none⟩ = false ∧ w'.frozen? ⟨wr.heap.size, 1, none⟩ = false)
          (first | exact BoxS.drew HX0.out | exact BoxS.on (by assumption) hb | exact BoxS.set0 (by assumption) | exact BoxS.set1 (by assumption) | fail)
          (first
            | (go_at_call 29; refine (HCL.out _ _ (by first | exact HZ1 | exact HZ2)).mono ?_; rintro e wz ⟨rfl, hb⟩)
            | fail)
        all_goals
          have hbx2 : BoxS wb wr.heap.size f ((wz.setCell ⟨wr.heap.size, 0, none⟩ (S f.nm)).setCell ⟨wr.heap.size, 1, none⟩ (S f.bd)) := by first | assumption | exact BoxS.set1 (by assumption) | exact BoxS.set1 (BoxS.set0 (by assumption))
          generalize ((wz.setCell ⟨wr.heap.size, 0, none⟩ (S f.nm)).setCell ⟨wr.heap.size, 1, none⟩ (S f.bd)) = wx at hbx2 ⊢
          obtain ⟨p0, p1, p2, p3, _, _, _, _⟩ := four_cells' hbx2.1.2.2
          have hx2 := (hbx2.1.1.block _ (heap_lt HBX.out)).trans HBX.out
          obtain ⟨y0, y1, y2, y3, z0, z1, z2, z3⟩ := four_cells hx2
          have HST := Lib.hid (set_four hx2 (S f.nm) (S f.bd) (.int .i64 (f.fr : Int)) (.int .i64 (f.en : Int)))
          have HWF : Hid (Below w.heap.size w wx) := HBW.out.trans (hbx2.1.1.mono HBW.out.size)
          clear hbx2 hx2 HX0 HCL HZ1 HZ2
          go_wp2_with fail
          obtain ⟨v0, v1, v2, v3, _, _, _, _⟩ := four_cells HST.out
          exact bodyPost_ret (v := .tuple #[.agg #[S f.nm, S f.bd, .int .i64 (f.fr : Int), .int .i64 (f.en : Int)], .bool true]) (by simp [results, Tryd.results11, go_sem, v0, v1, v2, v3]) rfl ⟨by rw [← HF2.out]; rfl, (((HWF.out.setCell (Nat.le_refl _) _).setCell (Nat.le_refl _) _).setCell (Nat.le_refl _) _).setCell (Nat.le_refl _) _⟩
    · have i1 : ¬ (k : Int) < (T.length : Int) := by omega
      have HF2 : Hid (none = fin) := by show _ = _; rw [← HF.out, List.drop_eq_nil_of_le (by omega)]; rfl
      have hx2 := (HW.out.block _ (heap_lt HBX.out)).trans HBX.out
      obtain ⟨y0, y1, y2, y3, z0, z1, z2, z3⟩ := four_cells hx2
      have HST := Lib.hid (set_four hx2 (.string ⟨#[]⟩) (.string ⟨#[]⟩) (.int .i64 0) (.int .i64 0))
      clear HF hx2
      go_wp2_with fail
      obtain ⟨v0, v1, v2, v3, _, _, _, _⟩ := four_cells HST.out
      exact bodyPost_ret (v := .tuple #[.agg #[.string ⟨#[]⟩, .string ⟨#[]⟩, .int .i64 0, .int .i64 0], .bool false]) (by simp [results, Tryd.results11, go_sem, v0, v1, v2, v3]) rfl ⟨by rw [← HF2.out]; rfl, (((HWW.out.setCell (Nat.le_refl _) _).setCell (Nat.le_refl _) _).setCell (Nat.le_refl _) _).setCell (Nat.le_refl _) _⟩
end Go.Proofs.YtnogpoojhhmadaaDoor.Header
