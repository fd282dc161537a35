/-
  HEADER, the given answers: the first field of a name.
-/
import Derived.Test.YtnogpoojhhmadaaDoorHdrRow
namespace Go.Proofs.YtnogpoojhhmadaaDoor.Header
open Go.RowKit Base
def findF (T : List Fld) (nm : List UInt8) : Option Fld := T.find? fun f => sameB f.nm nm
def zeroFld : Fld := ⟨[], [], 0, 0⟩
def FindEnd (r : Option Fld) (w : World) (e : Ending) (w' : World) : Prop := e = .returned (.tuple #[.agg (cells4 (r.getD zeroFld)).toArray, .bool r.isSome]) ∧ Below w.heap.size w w'
theorem find_drop {T : List Fld} {nm : List UInt8} {k : Nat} {f : Fld} (h : T[k]? = some f) : findF (T.drop k) nm = if sameB f.nm nm = true then some f else findF (T.drop (k + 1)) nm := by
  have hk := (List.getElem?_eq_some_iff.1 h).1
  unfold findF
  rw [List.drop_eq_getElem_cons hk, (List.getElem?_eq_some_iff.1 h).2, List.find?_cons]
  cases sameB f.nm nm <;> rfl
set_option maxHeartbeats 8000000 in
set_option maxRecDepth 100000 in
theorem rFind (v : Value) (T : List Fld) (nm : ByteArray) (w : World) (h : FReads w v T) (hn : T.length ≤ 140737488355328) (hs : ∀ f ∈ T, f.nm.length ≤ 140737488355328) (hm : nm.size ≤ 140737488355328) :
    Calls Tryd.prog 12 #[v, .string nm] w (FindEnd (findF T nm.data.toList) w) := by
  obtain ⟨a1, c1, rfl⟩ := h.form
  obtain ⟨fin, hfin⟩ : ∃ fin, fin = findF T nm.data.toList := ⟨_, rfl⟩
  have HF0 : Hid (findF (T.drop 0) nm.data.toList = fin) := hfin.symm
  rw [← hfin]
  clear hfin
  obtain ⟨wb, hwb⟩ : ∃ wb, wb = w.alloc (.cells #[.string ⟨#[]⟩, .string ⟨#[]⟩, .int .i64 0, .int .i64 0] 30) := ⟨_, rfl⟩
  have hbx : wb.heap[w.heap.size]? = some (.cells #[.string ⟨#[]⟩, .string ⟨#[]⟩, .int .i64 0, .int .i64 0] 30 (0, 0)) := by rw [hwb]; exact (MapKept.heap_alloc w _).1
  have HBW : Hid (Below w.heap.size w wb) := by rw [hwb]; exact Below.alloc1 _ _
  have HBX := Lib.hid hbx
  have HA := Lib.hid (h.on HBW.out)
  have HS := Lib.hid hs
  have HWB := Lib.hid hwb
  have HM := Lib.hid hm
  clear h hs hwb hbx hm
  go_enter Tryd.func12, Tryd.ntmps12
  go_wp2
  rw [← HWB.out]
  go_loopw [6, 7] (fun i _ wr => ∃ k : Nat, k ≤ T.length ∧ i = .int .i64 (k : Int) ∧ Hid (findF (T.drop k) nm.data.toList = fin) ∧ Hid (Below wb.heap.size wb wr)) (fun i _ _ => T.length - (intOf i).toNat)
  case atStart => exact ⟨0, by omega, rfl, HF0, Below.refl _ _⟩
  case round =>
    clear HF0
    obtain ⟨k, hk, rfl, HF, HW⟩ := hrel
    have HWW : Hid (Below w.heap.size w wr) := HBW.out.trans (HW.out.mono HBW.out.size)
    by_cases hlt : k < T.length
    · obtain ⟨f, hf⟩ : ∃ f, T[k]? = some f := ⟨_, List.getElem?_eq_getElem hlt⟩
      obtain ⟨b1, o1, e1, p0, p1, p2, p3⟩ := (HA.out.on HW.out).cell hf
      subst e1
      have i0 : (0 : Int) ≤ (k : Int) := by omega
      have i1 : (k : Int) < (T.length : Int) := by omega
      have HC := Lib.hid (rSame ⟨f.nm.toArray⟩ nm wr (by show f.nm.toArray.size ≤ _; simp; exact HS.out f (List.mem_of_getElem? hf)) HM.out)
      have HFD := Lib.hid (find_drop (nm := nm.data.toList) hf)
      have HFX := Lib.hid hf
      cases hb : sameB f.nm nm.data.toList
      · have HC2 : Hid (Calls Tryd.prog 30 #[S f.nm, .string nm] wr fun e w' => e = .returned (.bool false) ∧ Below wr.heap.size wr w') := HC.out.mono fun e w' h => ⟨by rw [h.1]; show Ending.returned (.bool (sameB f.nm nm.data.toList)) = _; rw [hb], h.2⟩
        have HF2 : Hid (findF (T.drop (k + 1)) nm.data.toList = fin) := by show _ = _; rw [← HF.out, HFD.out, hb]; rfl
        clear HC HFD hb hf p1 p2 p3 HF
        go_wp2_with (first | (go_at_call 30; refine HC2.out.mono ?_; rintro e w2 ⟨rfl, hb2⟩; refine Hid.out ?_) | fail)
        refine Lib.hid ?_
        have HW2 := Lib.hid (HW.out.trans (hb2.mono HW.out.size))
        clear hb2
        go_wp2
        go_roundw
        case rel => exact ⟨k + 1, by omega, by go_num, HF2, HW2⟩
        case measure => simp [intOf]; omega
      · have HC2 : Hid (Calls Tryd.prog 30 #[S f.nm, .string nm] wr fun e w' => e = .returned (.bool true) ∧ Below wr.heap.size wr w') := HC.out.mono fun e w' h => ⟨by rw [h.1]; show Ending.returned (.bool (sameB f.nm nm.data.toList)) = _; rw [hb], h.2⟩
        have HF2 : Hid (some f = fin) := by show _ = _; rw [← HF.out, HFD.out, hb]; rfl
        clear HC HFD hb hf p1 p2 p3 HF
        go_wp2_with (first | (go_at_call 30; refine HC2.out.mono ?_; rintro e w2 ⟨rfl, hb2⟩; refine Hid.out ?_) | fail)
        refine Lib.hid ?_
        have HW2 := Lib.hid (HW.out.trans (hb2.mono HW.out.size))
        obtain ⟨b9, o9, e9, p0', p1, p2, p3⟩ := (HA.out.on HW2.out).cell HFX.out
        cases e9
        have hx2 := (HW2.out.block _ (heap_lt HBX.out)).trans HBX.out
        obtain ⟨y0, y1, y2, y3, z0, z1, z2, z3⟩ := four_cells hx2
        have HST := Lib.hid (set_four hx2 (S f.nm) (S f.bd) (.int .i64 (f.fr : Int)) (.int .i64 (f.en : Int)))
        have HWF : Hid (Below w.heap.size w w2) := HBW.out.trans (HW2.out.mono HBW.out.size)
        clear hb2 hx2 p0
        go_wp2_with fail
        obtain ⟨v0, v1, v2, v3, _, _, _, _⟩ := four_cells HST.out
        exact bodyPost_ret (v := .tuple #[.agg #[S f.nm, S f.bd, .int .i64 (f.fr : Int), .int .i64 (f.en : Int)], .bool true]) (by simp [results, Tryd.results12, go_sem, v0, v1, v2, v3]) rfl ⟨by rw [← HF2.out]; rfl, (((HWF.out.setCell (Nat.le_refl _) _).setCell (Nat.le_refl _) _).setCell (Nat.le_refl _) _).setCell (Nat.le_refl _) _⟩
    · have i1 : ¬ (k : Int) < (T.length : Int) := by omega
      have HF2 : Hid (none = fin) := by show _ = _; rw [← HF.out, List.drop_eq_nil_of_le (by omega)]; rfl
      have hx2 := (HW.out.block _ (heap_lt HBX.out)).trans HBX.out
      obtain ⟨y0, y1, y2, y3, z0, z1, z2, z3⟩ := four_cells hx2
      have HST := Lib.hid (set_four hx2 (.string ⟨#[]⟩) (.string ⟨#[]⟩) (.int .i64 0) (.int .i64 0))
      clear HF hx2
      go_wp2_with fail
      obtain ⟨v0, v1, v2, v3, _, _, _, _⟩ := four_cells HST.out
      exact bodyPost_ret (v := .tuple #[.agg #[.string ⟨#[]⟩, .string ⟨#[]⟩, .int .i64 0, .int .i64 0], .bool false]) (by simp [results, Tryd.results12, go_sem, v0, v1, v2, v3]) rfl ⟨by rw [← HF2.out]; rfl, (((HWW.out.setCell (Nat.le_refl _) _).setCell (Nat.le_refl _) _).setCell (Nat.le_refl _) _).setCell (Nat.le_refl _) _⟩
end Go.Proofs.YtnogpoojhhmadaaDoor.Header
