/-
  DATE, the laws: a moment's date, day and text. (What the program's Civil and Day answer is given as premises, for a text of the real seat.)
-/
import Derived.Test.YtklhgaioolamfaaDoorDatShn
import Derived.DeepKeys
import Derived.Deep.CutBlock
import Derived.Deep.DeepCutAuto
namespace Go.Proofs.YtklhgaioolamfaaDoor.Date
open Go.RowKit Base
theorem infoI : (Tryd.prog.info? 3).map (fun i => (i.zero, i.size, i.bytes)) = some (some (.int .i64 0), 1, 8) := by kernel_rfl
theorem plainI : Tryd.prog.plainKey 3 = true := by kernel_rfl
theorem cellsOfI : Tryd.prog.cellsOf 3 = 1 := by kernel_rfl
theorem run_eqSame (d : Nat) (xs : Array Value) (w : World) : ∀ (is : List Nat), (∀ i ∈ is, ∃ v : Int, xs[i]? = some (.int .i64 v)) → (Op.eqItems (d + 1) 3 1 xs xs is).run Tryd.prog w = .ok true w
  | [], _ => by simp [Op.eqItems]
  | i :: is, h => by
    obtain ⟨v, hv⟩ := h i List.mem_cons_self
    have p1 : (part 3 xs (i * 1)).run Tryd.prog w = .ok (.int .i64 v) w := run_part_plain w plainI (by rw [Nat.mul_one]; exact hv)
    have p3 := run_equalIn_int (P := Tryd.prog) w d 3 .i64 .i64 v v Tryd.underlying3
    have ih := run_eqSame d xs w is fun j hj => h j (List.mem_cons_of_mem _ hj)
    simp only [Op.eqItems, Sem.run_bind, p1, p3, Result.andThen_ok]
    simpa using ih
theorem run_eqSix (a b c d f g : Int) (w : World) : (Op.equalIn 10000 23 (.agg #[.int .i64 a, .int .i64 b, .int .i64 c, .int .i64 d, .int .i64 f, .int .i64 g]) (.agg #[.int .i64 a, .int .i64 b, .int .i64 c, .int .i64 d, .int .i64 f, .int .i64 g])).run Tryd.prog w = .ok true w := by
  obtain ⟨i0, hi, _⟩ := info_parts infoI
  rw [run_equalIn_array w 9999 _ _ Tryd.underlying23 hi, cellsOfI]
  refine run_eqSame 9998 _ w (List.range 6) (fun i hi => ?_)
  have hlt := List.mem_range.1 hi
  rcases (by omega : i = 0 ∨ i = 1 ∨ i = 2 ∨ i = 3 ∨ i = 4 ∨ i = 5) with rfl | rfl | rfl | rfl | rfl | rfl
  all_goals exact ⟨_, rfl⟩
theorem day_ways (t : Int) : ∃ a b : Int, ∀ e w w', DayEnd t w e w' ↔ (e = .returned (.tuple #[.int .i64 a, .int .i64 b]) ∧ w = w') := by
  by_cases h : t < 0 ∨ 253402300799 < t
  · exact ⟨0, 130, fun e w w' => by unfold DayEnd; rw [if_pos h]⟩
  · exact ⟨(dayOf t.toNat : Int), 0, fun e w w' => by unfold DayEnd; rw [if_neg h]⟩
theorem civ_ways (t : Int) : ∃ a b c d f g n : Int, ∀ e w w', CivEnd t w e w' ↔ (e = .returned (.tuple #[.agg (sixV a b c d f g), .int .i64 n]) ∧ Below w.heap.size w w') := by
  by_cases h : t < 0 ∨ 253402300799 < t
  · exact ⟨0, 0, 0, 0, 0, 0, 130, fun e w w' => by unfold CivEnd; rw [if_pos h]⟩
  · exact ⟨_, _, _, _, _, _, 0, fun e w w' => by unfold CivEnd; rw [if_neg h]; exact Iff.rfl⟩
theorem show_ways (t : Int) : ∃ (s : List UInt8) (n : Int), ∀ e w w', ShowEnd t w e w' ↔ (e = .returned (.tuple #[S s, .int .i64 n]) ∧ Below w.heap.size w w') := by
  by_cases h : t < 0 ∨ 253402300799 < t
  · exact ⟨_, 130, fun e w w' => by unfold ShowEnd; rw [if_pos h]⟩
  · exact ⟨_, 0, fun e w w' => by unfold ShowEnd; rw [if_neg h]⟩
set_option maxHeartbeats 4000000 in
set_option maxRecDepth 100000 in
theorem wDateShows (t : Int) (w : World) (hv : Vars w) : Calls Tryd.prog 3 #[.int .i64 t] w fun e w' => e = .returned (.bool true) ∧ Below w.heap.size w w' := by
  have HH := Lib.hid (wShown w hv)
  have HV := Lib.hid hv
  obtain ⟨a, b, c, d, f, g, n, h1⟩ := civ_ways t
  obtain ⟨q, n2, h2⟩ := day_ways t
  obtain ⟨s, n3, h3⟩ := show_ways t
  have HC1 : Hid (∀ w1, Vars w1 → Calls Tryd.prog 9 #[.int .i64 t] w1 fun e w' => e = .returned (.tuple #[.agg (sixV a b c d f g), .int .i64 n]) ∧ Below w1.heap.size w1 w') := fun w1 hvx => (pCivil t w1 hvx).mono (fun e w' h => (h1 e _ w').1 h)
  have HC2 : Hid (∀ w1, Calls Tryd.prog 10 #[.int .i64 t] w1 fun e w' => e = .returned (.tuple #[.agg (sixV a b c d f g), .int .i64 n]) ∧ Below w1.heap.size w1 w') := fun w1 => (rCivil t w1).mono (fun e w' h => (h1 e _ w').1 h)
  have HD1 : Hid (∀ w1, Calls Tryd.prog 11 #[.int .i64 t] w1 fun e w' => e = .returned (.tuple #[.int .i64 q, .int .i64 n2]) ∧ Below w1.heap.size w1 w') := fun w1 => (pDay t w1).mono (fun e w' h => by obtain ⟨w2, h4, h5⟩ := h; exact ⟨((h2 e w2 w2).1 h4).1, h5⟩)
  have HD2 : Hid (∀ w1, Calls Tryd.prog 12 #[.int .i64 t] w1 fun e w' => e = .returned (.tuple #[.int .i64 q, .int .i64 n2]) ∧ w1 = w') := fun w1 => (rDay t w1).mono (fun e w' h => (h2 e _ w').1 h)
  have HS1 : Hid (∀ w1, Vars w1 → Calls Tryd.prog 13 #[.int .i64 t] w1 fun e w' => e = .returned (.tuple #[S s, .int .i64 n3]) ∧ Below w1.heap.size w1 w') := fun w1 hvx => (pShow t w1 hvx).mono (fun e w' h => (h3 e _ w').1 h)
  have HS2 : Hid (∀ w1, Calls Tryd.prog 14 #[.int .i64 t] w1 fun e w' => e = .returned (.tuple #[S s, .int .i64 n3]) ∧ Below w1.heap.size w1 w') := fun w1 => (rShow t w1).mono (fun e w' h => (h3 e _ w').1 h)
  clear h1 h2 h3
  go_enter Tryd.func3, Tryd.ntmps3
  go_wp2_with (first | (go_at_call 8; refine HH.out.mono ?_; rintro ee w1 ⟨rfl, hb⟩; refine Hid.out ?_) | fail)
  refine Lib.hid ?_
  have HB1 : Hid (Below w.heap.size w w1) := hb
  clear hb
  go_wp2_with (first | (go_at_call 9; refine (HC1.out _ (by first | exact HV.out | exact HV.out.on HB1.out | exact HV.out.on HB2.out | exact HV.out.on HB3.out | exact HV.out.on HB4.out | exact HV.out.on HB5.out | exact HV.out.on HB6.out | exact HV.out.on HB7.out | exact HV.out.on HA2.out | exact HV.out.on HA3.out | exact HV.out.on (HB2.out.trans ((HBZ.out _).mono HB2.out.size)))).mono ?_; rintro ee w2 ⟨rfl, hb⟩; refine Hid.out ?_) | fail)
  refine Lib.hid ?_
  have HB2 : Hid (Below w.heap.size w w2) := HB1.out.trans (hb.mono HB1.out.size)
  clear hb
  have HA2 : Hid (Below w.heap.size w (w2.alloc (.cells (sixV a b c d f g) 23))) := HB2.out.alloc HB2.out.size _
  have HR2 : Hid ((w2.alloc (.cells (sixV a b c d f g) 23)).heap[w2.heap.size]? = some (.cells (sixV a b c d f g) 23 (0, 0))) := (MapKept.heap_alloc w2 _).1
  go_wp2_with (first | (go_at_call 10; refine (HC2.out _).mono ?_; rintro ee w3 ⟨rfl, hb⟩; refine Hid.out ?_) | fail)
  refine Lib.hid ?_
  have HB3 : Hid (Below w.heap.size w w3) := HA2.out.trans (hb.mono HA2.out.size)
  have HR3 : Hid (w3.heap[w2.heap.size]? = some (.cells (sixV a b c d f g) 23 (0, 0))) := (hb.block _ (heap_lt HR2.out)).trans HR2.out
  have HA3 : Hid (Below w.heap.size w (w3.alloc (.cells (sixV a b c d f g) 23))) := HB3.out.alloc HB3.out.size _
  have HQ3 : Hid ((w3.alloc (.cells (sixV a b c d f g) 23)).heap[w3.heap.size]? = some (.cells (sixV a b c d f g) 23 (0, 0))) := (MapKept.heap_alloc w3 _).1
  have HR3' : Hid ((w3.alloc (.cells (sixV a b c d f g) 23)).heap[w2.heap.size]? = some (.cells (sixV a b c d f g) 23 (0, 0))) := ((Below.alloc1 w3 _).block _ (heap_lt HR3.out)).trans HR3.out
  obtain ⟨w3a, hw3a⟩ : ∃ w3a, w3a = w3.alloc (.cells (sixV a b c d f g) 23) := ⟨_, rfl⟩
  obtain ⟨g3, hg3⟩ : ∃ g3, g3 = w3.heap.size := ⟨_, rfl⟩
  obtain ⟨g2, hg2⟩ : ∃ g2, g2 = w2.heap.size := ⟨_, rfl⟩
  rw [← hw3a, ← hg3] at HQ3
  rw [← hw3a, ← hg2] at HR3'
  rw [← hw3a] at HA3
  clear hb
  go_upto_region 3 with fail
  rw [← hg3, ← hw3a, ← hg2]
  clear hw3a hg3 hg2 HR2 HR3 HA2 HB2 HB3
  go_wp2_with (first | (go_at_call 11; refine (HD1.out _).mono ?_; rintro ee w4 ⟨rfl, hb⟩; refine Hid.out ?_) | fail)
  refine Lib.hid ?_
  have HB4 : Hid (Below w.heap.size w w4) := HA3.out.trans (hb.mono HA3.out.size)
  have HQ4 : Hid (w4.heap[g3]? = some (.cells (sixV a b c d f g) 23 (0, 0))) := (hb.block _ (heap_lt HQ3.out)).trans HQ3.out
  have HR4 : Hid (w4.heap[g2]? = some (.cells (sixV a b c d f g) 23 (0, 0))) := (hb.block _ (heap_lt HR3'.out)).trans HR3'.out
  clear hb HQ3 HR3' HA3
  go_wp2_with (first | (go_at_call 12; refine (HD2.out _).mono ?_; rintro ee w5 ⟨rfl, rfl⟩; refine Hid.out ?_) | fail)
  refine Lib.hid ?_
  go_wp2_with (first | (go_at_call 13; refine (HS1.out _ (by first | exact HV.out | exact HV.out.on HB1.out | exact HV.out.on HB2.out | exact HV.out.on HB3.out | exact HV.out.on HB4.out | exact HV.out.on HB5.out | exact HV.out.on HB6.out | exact HV.out.on HB7.out | exact HV.out.on HA2.out | exact HV.out.on HA3.out | exact HV.out.on (HB2.out.trans ((HBZ.out _).mono HB2.out.size)))).mono ?_; rintro ee w5 ⟨rfl, hb⟩; refine Hid.out ?_) | fail)
  refine Lib.hid ?_
  have HB5 : Hid (Below w.heap.size w w5) := HB4.out.trans (hb.mono HB4.out.size)
  have HQ5 : Hid (w5.heap[g3]? = some (.cells (sixV a b c d f g) 23 (0, 0))) := (hb.block _ (heap_lt HQ4.out)).trans HQ4.out
  have HR5 : Hid (w5.heap[g2]? = some (.cells (sixV a b c d f g) 23 (0, 0))) := (hb.block _ (heap_lt HR4.out)).trans HR4.out
  clear hb HQ4 HR4 HB4
  go_wp2_with (first | (go_at_call 14; refine (HS2.out _).mono ?_; rintro ee w6 ⟨rfl, hb⟩; refine Hid.out ?_) | fail)
  refine Lib.hid ?_
  have HB6 : Hid (Below w.heap.size w w6) := HB5.out.trans (hb.mono HB5.out.size)
  have HQ6 : Hid (w6.heap[g3]? = some (.cells (sixV a b c d f g) 23 (0, 0))) := (hb.block _ (heap_lt HQ5.out)).trans HQ5.out
  have HR6 : Hid (w6.heap[g2]? = some (.cells (sixV a b c d f g) 23 (0, 0))) := (hb.block _ (heap_lt HR5.out)).trans HR5.out
  clear hb HQ5 HR5 HB5
  have hqs := run_eqSix a b c d f g w6
  have c0 := cell_of_row w6 g2 0 _ _ _ HR6.out
  have d0 := cell_of_row w6 g3 0 _ _ _ HQ6.out
  have c1 := cell_of_row w6 g2 1 _ _ _ HR6.out
  have d1 := cell_of_row w6 g3 1 _ _ _ HQ6.out
  have c2 := cell_of_row w6 g2 2 _ _ _ HR6.out
  have d2 := cell_of_row w6 g3 2 _ _ _ HQ6.out
  have c3 := cell_of_row w6 g2 3 _ _ _ HR6.out
  have d3 := cell_of_row w6 g3 3 _ _ _ HQ6.out
  have c4 := cell_of_row w6 g2 4 _ _ _ HR6.out
  have d4 := cell_of_row w6 g3 4 _ _ _ HQ6.out
  have c5 := cell_of_row w6 g2 5 _ _ _ HR6.out
  have d5 := cell_of_row w6 g3 5 _ _ _ HQ6.out
  go_wp2
  go_ret
  exact ⟨rfl, HB6.out⟩
end Go.Proofs.YtklhgaioolamfaaDoor.Date
