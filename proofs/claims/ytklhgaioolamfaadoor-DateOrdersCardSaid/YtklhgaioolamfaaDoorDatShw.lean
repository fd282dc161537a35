/-
  DATE, the given answers: Show.
-/
import Derived.Test.YtklhgaioolamfaaDoorDatPrs
import Derived.Test.YtklhgaioolamfaaDoorDatCiv
import Derived.Deep.RegionHeld3
import Derived.Deep.CutBlock
import Derived.Deep.DeepCutAuto
namespace Go.Proofs.YtklhgaioolamfaaDoor.Date
open Go.RowKit Base
def ShowEnd (t : Int) (w : World) (e : Ending) (w' : World) : Prop := (if t < 0 ∨ 253402300799 < t then e = .returned (.tuple #[S [], .int .i64 130]) else e = .returned (.tuple #[S (textOf t.toNat), .int .i64 0])) ∧ Below w.heap.size w w'
set_option maxHeartbeats 4000000 in
set_option maxRecDepth 100000 in
theorem rShowNo (t : Int) (w : World) (h : t < 0 ∨ 253402300799 < t) : Calls Tryd.prog 14 #[.int .i64 t] w (ShowEnd t w) := by
  have HD : Hid (∀ e w', ShowEnd t w e w' = ((e = .returned (.tuple #[S [], .int .i64 130])) ∧ Below w.heap.size w w')) := fun e w' => by unfold ShowEnd; rw [if_pos h]
  have HC : Hid (Calls Tryd.prog 10 #[.int .i64 t] w fun e w' => e = .returned (.tuple #[.agg (sixV 0 0 0 0 0 0), .int .i64 130]) ∧ Below w.heap.size w w') := (rCivil t w).mono (fun e w' h2 => by unfold CivEnd at h2; rwa [if_pos h] at h2)
  have HS6 := Lib.hid size6
  clear h
  go_enter Tryd.func14, Tryd.ntmps14
  go_wp2_with (first | (go_at_call 10; refine HC.out.mono ?_; rintro ee w1 ⟨rfl, hb1⟩; refine Hid.out ?_) | fail)
  refine Lib.hid ?_
  have HB1 : Hid (Below w.heap.size w (w1.alloc (.cells (sixV 0 0 0 0 0 0) 23))) := hb1.alloc hb1.size _
  clear hb1
  go_wp2
  go_ret2
  rw [HD.out]
  exact ⟨rfl, HB1.out⟩
/-- The date's block stands. -/
structure DS (w : World) (g : Nat) (c : Civ) (w' : World) : Prop where
  bel : Below w.heap.size w w'
  row : w'.heap[g]? = some (.cells (sixV c.y c.m c.d c.h c.mi c.s) 23 (0, 0))
theorem DS.keep {w w1 w2 : World} {g : Nat} {c : Civ} (h : DS w g c w1) (hb : Below w1.heap.size w1 w2) : DS w g c w2 := ⟨h.bel.trans (hb.mono h.bel.size), (hb.block g (heap_lt h.row)).trans h.row⟩
theorem DS.c0 {w w' : World} {g : Nat} {c : Civ} (h : DS w g c w') : w'.cell? ⟨g, 0, none⟩ = some (.int .i64 (c.y : Int)) := cell_of_row w' g 0 _ _ _ h.row
theorem DS.c1 {w w' : World} {g : Nat} {c : Civ} (h : DS w g c w') : w'.cell? ⟨g, 1, none⟩ = some (.int .i64 (c.m : Int)) := cell_of_row w' g 1 _ _ _ h.row
theorem DS.c2 {w w' : World} {g : Nat} {c : Civ} (h : DS w g c w') : w'.cell? ⟨g, 2, none⟩ = some (.int .i64 (c.d : Int)) := cell_of_row w' g 2 _ _ _ h.row
theorem DS.c3 {w w' : World} {g : Nat} {c : Civ} (h : DS w g c w') : w'.cell? ⟨g, 3, none⟩ = some (.int .i64 (c.h : Int)) := cell_of_row w' g 3 _ _ _ h.row
theorem DS.c4 {w w' : World} {g : Nat} {c : Civ} (h : DS w g c w') : w'.cell? ⟨g, 4, none⟩ = some (.int .i64 (c.mi : Int)) := cell_of_row w' g 4 _ _ _ h.row
theorem DS.c5 {w w' : World} {g : Nat} {c : Civ} (h : DS w g c w') : w'.cell? ⟨g, 5, none⟩ = some (.int .i64 (c.s : Int)) := cell_of_row w' g 5 _ _ _ h.row
theorem exec_addS {ρ : Operand → Value} {o : Oper} {s t : Operand} {r : TypeId} {x y z : List UInt8} (ho : o.op = .binOp .add 9 s t r) (hs : ρ s = S x) (ht : ρ t = S y) (hz : z = x ++ y) (h : z.length ≤ 1000) (w : World) :
    (execOp ρ o).run Tryd.prog w = .ok (.value (S z)) w := by
  subst hz
  unfold execOp
  simp only [ho, hs, ht]
  rw [List.length_append] at h
  have e : (⟨x.toArray⟩ : ByteArray) ++ ⟨y.toArray⟩ = ⟨(x ++ y).toArray⟩ := by
    apply ByteArray.ext
    simp
  go_simp
  omega
theorem exec_sliceS {ρ : Operand → Value} {o : Oper} {s lo hi : Operand} {x : ByteArray} {a b : Nat} {z : List UInt8} (ho : o.op = .slice 9 s (some lo) (some hi) none) (hs : ρ s = .string x) (hlo : ρ lo = .int .i64 (a : Int)) (hhi : ρ hi = .int .i64 (b : Int)) (hab : a ≤ b) (hb : b ≤ x.size) (hz : (x.data.toList.take b).drop a = z) (w : World) :
    (execOp ρ o).run Tryd.prog w = .ok (.value (S z)) w := by
  subst hz
  unfold execOp
  simp only [ho, hs, Option.map_some, Option.map_none, hlo, hhi]
  have i0 : (0 : Int) ≤ (a : Int) := by omega
  have i1 : (a : Int) ≤ (b : Int) := by omega
  have i2 : (b : Int) ≤ (x.size : Int) := by omega
  have ex := extract_bytes x a b
  go_simp
set_option linter.unusedSimpArgs false in
set_option maxHeartbeats 8000000 in
set_option maxRecDepth 100000 in
theorem rShowYes (n : Nat) (w : World) (h : n ≤ 253402300799) : Calls Tryd.prog 14 #[.int .i64 (n : Int)] w (ShowEnd (n : Int) w) := by
  have hno : ¬ ((n : Int) < 0 ∨ 253402300799 < (n : Int)) := by omega
  have HD : Hid (∀ e w', ShowEnd (n : Int) w e w' = ((e = .returned (.tuple #[S (textOf n), .int .i64 0])) ∧ Below w.heap.size w w')) := fun e w' => by unfold ShowEnd; rw [if_neg hno, Int.toNat_natCast]
  obtain ⟨c, hc⟩ : ∃ c, c = civOf n := ⟨_, rfl⟩
  obtain ⟨dn, hdn⟩ : ∃ dn, dn = dayOf n := ⟨_, rfl⟩
  have HC : Hid (Calls Tryd.prog 10 #[.int .i64 (n : Int)] w fun e w' => e = .returned (.tuple #[civV c, .int .i64 0]) ∧ Below w.heap.size w w') := (rCivil (n : Int) w).mono (fun e w' h2 => by unfold CivEnd at h2; rw [if_neg hno, Int.toNat_natCast] at h2; rw [hc]; exact h2)
  have HDY : Hid (∀ w1, Calls Tryd.prog 12 #[.int .i64 (n : Int)] w1 fun e w' => e = .returned (.tuple #[.int .i64 (dn : Int), .int .i64 0]) ∧ w1 = w') := fun w1 => (rDay (n : Int) w1).mono (fun e w' h2 => by unfold DayEnd at h2; rw [if_neg hno, Int.toNat_natCast] at h2; rw [hdn]; exact h2)
  obtain ⟨fc, _⟩ := civ_spec n
  have hyr2 := civ_year h
  rw [← hc] at fc hyr2
  have hdn7 : dn < 7 := by rw [hdn]; exact Nat.mod_lt _ (by decide)
  have HFR : Hid (textOf n = ((nmAt dayB dn ++ [44]) ++ 32 :: (dgD c.d ++ 32 :: (nmAt monB (c.m - 1) ++ 32 :: ((twoD (c.y / 100) ++ twoD (c.y % 100)) ++ 32 :: (clkD c ++ [32]))))) ++ utcB) := by show _ = _; rw [hc, hdn]; rfl
  have HT2 : Hid (∀ (k : Nat) w1, k ≤ 99 → Calls Tryd.prog 26 #[.int .i64 (k : Int)] w1 fun e w' => e = .returned (S (twoD k)) ∧ Below w1.heap.size w1 w') := fun k w1 hk => rTwo k w1 hk
  have f1 := fc.m1; have f2 := fc.m2; have f3 := fc.d1; have f4 := fc.d2; have f5 := fc.y; have f6 := fc.h; have f7 := fc.mi; have f8 := fc.s
  have f9 := md_le c.y c.m
  have f10 : c.d ≤ 31 := by omega
  obtain ⟨p, hp⟩ : ∃ p : ByteArray, p = ⟨(twoD c.d).toArray⟩ := ⟨_, rfl⟩
  have HT2D : Hid (∀ w1, Calls Tryd.prog 26 #[.int .i64 (c.d : Int)] w1 fun e w' => e = .returned (.string p) ∧ Below w1.heap.size w1 w') := fun w1 => by rw [hp]; exact HT2.out c.d w1 (by omega)
  have hps : p.size = 2 := by rw [hp]; rfl
  have HP0 : Hid (.string p = S (twoD c.d)) := by show _ = _; rw [hp]
  have HP1 : Hid (.string (p.extract 1 2) = S [UInt8.ofNat (48 + c.d % 10)]) := by show _ = _; rw [extract_bytes, hp]; rfl
  have HP2 := Lib.hid hps
  have k1 : (1 : Int) ≤ (p.size : Int) := by omega
  clear hp
  clear hno hc hdn h fc f9 f4
  unfold civV at HC
  go_enter Tryd.func14, Tryd.ntmps14
  go_wp2_with (first | (go_at_call 10; refine HC.out.mono ?_; rintro ee w1 ⟨rfl, hb1⟩; refine Hid.out ?_) | fail)
  refine Lib.hid ?_
  have hb2 : Below w.heap.size w (w1.alloc (.cells (sixV c.y c.m c.d c.h c.mi c.s) 23)) := hb1.alloc hb1.size _
  have HDS : Hid (DS w w1.heap.size c (w1.alloc (.cells (sixV c.y c.m c.d c.h c.mi c.s) 23))) := ⟨hb2, (MapKept.heap_alloc w1 _).1⟩
  clear hb1 hb2
  go_wp2_with (first | (go_at_call 12; refine (HDY.out _).mono ?_; rintro ee w2 ⟨rfl, rfl⟩; refine Hid.out ?_) | fail)
  refine Lib.hid ?_
  obtain ⟨g, hg⟩ : ∃ g, g = w1.heap.size := ⟨_, rfl⟩
  obtain ⟨w2, hw2⟩ : ∃ w2, w2 = w1.alloc (.cells (sixV c.y c.m c.d c.h c.mi c.s) 23) := ⟨_, rfl⟩
  rw [← hg] at HDS ⊢
  rw [← hw2] at HDS ⊢
  clear hg hw2
  have hc2 := HDS.out.c2
  go_wp2_with (first | (go_at_call 26; refine (HT2D.out _).mono ?_; rintro ee w3 ⟨rfl, hb3⟩; refine Hid.out ?_) | fail)
  refine Lib.hid ?_
  have HD3 : Hid (DS w g c w3) := HDS.out.keep hb3
  clear hb3 hc2 HDS HT2D HC HDY
  have hc2 := HD3.out.c2
  go_upto_if 27 with fail
  go_cut [8] (fun x wx => x = S (dgD c.d) ∧ wx = w3)
  case first =>
    by_cases h10 : c.d < 10
    · have k2 : (c.d : Int) < 10 := by omega
      have HG : Hid (dgD c.d = [UInt8.ofNat (48 + c.d % 10)]) := by show _ = _; unfold dgD; rw [if_pos h10]
      clear h10
      go_wp2
      go_meet
      rw [HG.out]
      exact ⟨HP1.out, rfl⟩
    · have k2 : ¬ (c.d : Int) < 10 := by omega
      have HG : Hid (dgD c.d = twoD c.d) := by show _ = _; unfold dgD; rw [if_neg h10]
      clear h10
      go_wp2
      go_meet
      rw [HG.out]
      exact ⟨HP0.out, rfl⟩
  case rest =>
  obtain ⟨rfl, rfl⟩ := hcut
  go_upto_region 8 with fail
  obtain ⟨G, hG⟩ : ∃ G, G = dgD c.d := ⟨_, rfl⟩
  obtain ⟨M1, hM1⟩ : ∃ M1, M1 = nmAt monB (c.m - 1) := ⟨_, rfl⟩
  obtain ⟨yq, hyq⟩ : ∃ yq, yq = c.y / 100 := ⟨_, rfl⟩
  obtain ⟨yr, hyr⟩ : ∃ yr, yr = c.y % 100 := ⟨_, rfl⟩
  obtain ⟨Z1, hZ1⟩ : ∃ Z1, Z1 = nmAt dayB dn := ⟨_, rfl⟩
  obtain ⟨A1, hA1⟩ : ∃ A1, A1 = twoD yq := ⟨_, rfl⟩
  obtain ⟨A2, hA2⟩ : ∃ A2, A2 = twoD yr := ⟨_, rfl⟩
  obtain ⟨A3, hA3⟩ : ∃ A3, A3 = twoD c.h := ⟨_, rfl⟩
  obtain ⟨A4, hA4⟩ : ∃ A4, A4 = twoD c.mi := ⟨_, rfl⟩
  obtain ⟨A5, hA5⟩ : ∃ A5, A5 = twoD c.s := ⟨_, rfl⟩
  obtain ⟨Z2, hZ2⟩ : ∃ Z2, Z2 = Z1 ++ ([44, 32] : List UInt8) := ⟨_, rfl⟩
  obtain ⟨Z3, hZ3⟩ : ∃ Z3, Z3 = Z2 ++ (G : List UInt8) := ⟨_, rfl⟩
  obtain ⟨Z4, hZ4⟩ : ∃ Z4, Z4 = Z3 ++ ([32] : List UInt8) := ⟨_, rfl⟩
  obtain ⟨Z5, hZ5⟩ : ∃ Z5, Z5 = Z4 ++ (M1 : List UInt8) := ⟨_, rfl⟩
  obtain ⟨Z6, hZ6⟩ : ∃ Z6, Z6 = Z5 ++ ([32] : List UInt8) := ⟨_, rfl⟩
  obtain ⟨Z7, hZ7⟩ : ∃ Z7, Z7 = Z6 ++ (A1 : List UInt8) := ⟨_, rfl⟩
  obtain ⟨Z8, hZ8⟩ : ∃ Z8, Z8 = Z7 ++ (A2 : List UInt8) := ⟨_, rfl⟩
  obtain ⟨Z9, hZ9⟩ : ∃ Z9, Z9 = Z8 ++ ([32] : List UInt8) := ⟨_, rfl⟩
  obtain ⟨Z10, hZ10⟩ : ∃ Z10, Z10 = Z9 ++ (A3 : List UInt8) := ⟨_, rfl⟩
  obtain ⟨Z11, hZ11⟩ : ∃ Z11, Z11 = Z10 ++ ([58] : List UInt8) := ⟨_, rfl⟩
  obtain ⟨Z12, hZ12⟩ : ∃ Z12, Z12 = Z11 ++ (A4 : List UInt8) := ⟨_, rfl⟩
  obtain ⟨Z13, hZ13⟩ : ∃ Z13, Z13 = Z12 ++ ([58] : List UInt8) := ⟨_, rfl⟩
  obtain ⟨Z14, hZ14⟩ : ∃ Z14, Z14 = Z13 ++ (A5 : List UInt8) := ⟨_, rfl⟩
  obtain ⟨Z15, hZ15⟩ : ∃ Z15, Z15 = Z14 ++ ([32, 43, 48, 48, 48, 48] : List UInt8) := ⟨_, rfl⟩
  have HZF : Hid (textOf n = Z15) := by
    show _ = _
    rw [HFR.out, hZ15, hZ14, hZ13, hZ12, hZ11, hZ10, hZ9, hZ8, hZ7, hZ6, hZ5, hZ4, hZ3, hZ2, hZ1, hA1, hA2, hA3, hA4, hA5, hyq, hyr, hG, hM1]
    unfold clkD
    simp [List.append_assoc]
  have lG : G.length ≤ 2 := by rw [hG]; unfold dgD; split <;> simp [twoD]
  have lM : M1.length ≤ 3 := by rw [hM1]; exact List.length_take_le _ _
  have lZ1 : Z1.length ≤ 3 := by rw [hZ1]; exact List.length_take_le _ _
  have lA1 : A1.length = 2 := by rw [hA1]; rfl
  have lA2 : A2.length = 2 := by rw [hA2]; rfl
  have lA3 : A3.length = 2 := by rw [hA3]; rfl
  have lA4 : A4.length = 2 := by rw [hA4]; rfl
  have lA5 : A5.length = 2 := by rw [hA5]; rfl
  have lZ2 : Z2.length ≤ 5 := by rw [hZ2, List.length_append]; simp only [List.length_cons, List.length_nil]; omega
  have lZ3 : Z3.length ≤ 7 := by rw [hZ3, List.length_append]; omega
  have lZ4 : Z4.length ≤ 8 := by rw [hZ4, List.length_append]; simp only [List.length_cons, List.length_nil]; omega
  have lZ5 : Z5.length ≤ 11 := by rw [hZ5, List.length_append]; omega
  have lZ6 : Z6.length ≤ 12 := by rw [hZ6, List.length_append]; simp only [List.length_cons, List.length_nil]; omega
  have lZ7 : Z7.length ≤ 14 := by rw [hZ7, List.length_append]; omega
  have lZ8 : Z8.length ≤ 16 := by rw [hZ8, List.length_append]; omega
  have lZ9 : Z9.length ≤ 17 := by rw [hZ9, List.length_append]; simp only [List.length_cons, List.length_nil]; omega
  have lZ10 : Z10.length ≤ 19 := by rw [hZ10, List.length_append]; omega
  have lZ11 : Z11.length ≤ 20 := by rw [hZ11, List.length_append]; simp only [List.length_cons, List.length_nil]; omega
  have lZ12 : Z12.length ≤ 22 := by rw [hZ12, List.length_append]; omega
  have lZ13 : Z13.length ≤ 23 := by rw [hZ13, List.length_append]; simp only [List.length_cons, List.length_nil]; omega
  have lZ14 : Z14.length ≤ 25 := by rw [hZ14, List.length_append]; omega
  have lZ15 : Z15.length ≤ 31 := by rw [hZ15, List.length_append]; simp only [List.length_cons, List.length_nil]; omega
  have HZ2 := Lib.hid hZ2
  have HLZ2 : Hid (Z2.length ≤ 1000) := by show _ ≤ _; omega
  have HZ3 := Lib.hid hZ3
  have HLZ3 : Hid (Z3.length ≤ 1000) := by show _ ≤ _; omega
  have HZ4 := Lib.hid hZ4
  have HLZ4 : Hid (Z4.length ≤ 1000) := by show _ ≤ _; omega
  have HZ5 := Lib.hid hZ5
  have HLZ5 : Hid (Z5.length ≤ 1000) := by show _ ≤ _; omega
  have HZ6 := Lib.hid hZ6
  have HLZ6 : Hid (Z6.length ≤ 1000) := by show _ ≤ _; omega
  have HZ7 := Lib.hid hZ7
  have HLZ7 : Hid (Z7.length ≤ 1000) := by show _ ≤ _; omega
  have HZ8 := Lib.hid hZ8
  have HLZ8 : Hid (Z8.length ≤ 1000) := by show _ ≤ _; omega
  have HZ9 := Lib.hid hZ9
  have HLZ9 : Hid (Z9.length ≤ 1000) := by show _ ≤ _; omega
  have HZ10 := Lib.hid hZ10
  have HLZ10 : Hid (Z10.length ≤ 1000) := by show _ ≤ _; omega
  have HZ11 := Lib.hid hZ11
  have HLZ11 : Hid (Z11.length ≤ 1000) := by show _ ≤ _; omega
  have HZ12 := Lib.hid hZ12
  have HLZ12 : Hid (Z12.length ≤ 1000) := by show _ ≤ _; omega
  have HZ13 := Lib.hid hZ13
  have HLZ13 : Hid (Z13.length ≤ 1000) := by show _ ≤ _; omega
  have HZ14 := Lib.hid hZ14
  have HLZ14 : Hid (Z14.length ≤ 1000) := by show _ ≤ _; omega
  have HZ15 := Lib.hid hZ15
  have HLZ15 : Hid (Z15.length ≤ 1000) := by show _ ≤ _; omega
  have HN1 : Hid ((dayS.data.toList.take (3 * dn + 3)).drop (3 * dn) = Z1) := by
    show _ = _
    rw [hZ1]; unfold nmAt; rw [List.drop_take]; congr 1; omega
  have HN2 : Hid ((monS.data.toList.take (3 * c.m)).drop (3 * c.m - 3) = M1) := by
    show _ = _
    rw [hM1]; unfold nmAt
    rw [List.drop_take, show 3 * c.m - 3 = 3 * (c.m - 1) by omega, show 3 * c.m - 3 * (c.m - 1) = 3 by omega]
  have HT3 : Hid (∀ w1, Calls Tryd.prog 26 #[.int .i64 (yq : Int)] w1 fun e w' => e = .returned (S A1) ∧ Below w1.heap.size w1 w') := fun w1 => by rw [hA1]; exact HT2.out yq w1 (by omega)
  have HT4 : Hid (∀ w1, Calls Tryd.prog 26 #[.int .i64 (yr : Int)] w1 fun e w' => e = .returned (S A2) ∧ Below w1.heap.size w1 w') := fun w1 => by rw [hA2]; exact HT2.out yr w1 (by omega)
  have HT5 : Hid (∀ w1, Calls Tryd.prog 26 #[.int .i64 (c.h : Int)] w1 fun e w' => e = .returned (S A3) ∧ Below w1.heap.size w1 w') := fun w1 => by rw [hA3]; exact HT2.out c.h w1 (by omega)
  have HT6 : Hid (∀ w1, Calls Tryd.prog 26 #[.int .i64 (c.mi : Int)] w1 fun e w' => e = .returned (S A4) ∧ Below w1.heap.size w1 w') := fun w1 => by rw [hA4]; exact HT2.out c.mi w1 (by omega)
  have HT7 : Hid (∀ w1, Calls Tryd.prog 26 #[.int .i64 (c.s : Int)] w1 fun e w' => e = .returned (S A5) ∧ Below w1.heap.size w1 w') := fun w1 => by rw [hA5]; exact HT2.out c.s w1 (by omega)
  have x5 : Int.tdiv (c.y : Int) 100 = (yq : Int) := by rw [hyq]; exact quo_nat c.y 100
  have x6 : Int.tmod (c.y : Int) 100 = (yr : Int) := by rw [hyr]; exact rem_nat c.y 100
  have bq : yq ≤ 99 := by omega
  have br : yr ≤ 99 := by omega
  have x7 : IntKind.i64.wrap (yq : Int) = (yq : Int) := IntWalk.i64_in _ (by omega)
  have x8 : IntKind.i64.wrap (yr : Int) = (yr : Int) := IntWalk.i64_in _ (by omega)
  obtain ⟨da, hda⟩ : ∃ da, da = 3 * dn := ⟨_, rfl⟩
  obtain ⟨db, hdb⟩ : ∃ db, db = 3 * dn + 3 := ⟨_, rfl⟩
  obtain ⟨mb, hmb⟩ : ∃ mb, mb = 3 * c.m := ⟨_, rfl⟩
  obtain ⟨ma, hma⟩ : ∃ ma, ma = 3 * c.m - 3 := ⟨_, rfl⟩
  rw [← hdb, ← hda] at HN1
  rw [← hma, ← hmb] at HN2
  have x1 : IntKind.i64.wrap (3 * (dn : Int)) = (da : Int) := by rw [hda]; exact (IntWalk.i64_in _ (by omega)).trans (by omega)
  have x2 : IntKind.i64.wrap ((da : Int) + 3) = (db : Int) := by rw [hda, hdb]; exact (IntWalk.i64_in _ (by omega)).trans (by omega)
  have x3 : IntKind.i64.wrap (3 * (c.m : Int)) = (mb : Int) := by rw [hmb]; exact (IntWalk.i64_in _ (by omega)).trans (by omega)
  have x4 : IntKind.i64.wrap ((mb : Int) - 3) = (ma : Int) := by rw [hma, hmb]; exact (IntWalk.i64_in _ (by omega)).trans (by omega)
  have HI1 : Hid (da ≤ db ∧ db ≤ dayS.size) := ⟨by omega, by show db ≤ 21; omega⟩
  have HI2 : Hid (ma ≤ mb ∧ mb ≤ monS.size) := ⟨by omega, by show mb ≤ 36; omega⟩
  have HST : Hid (DS w g c wc.drew) := ⟨HD3.out.bel.drew, HD3.out.row⟩
  rw [← hG]
  clear hZ1 hZ2 hZ3 hZ4 hZ5 hZ6 hZ7 hZ8 hZ9 hZ10 hZ11 hZ12 hZ13 hZ14 hZ15 lZ1 lZ2 lZ3 lZ4 lZ5 lZ6 lZ7 lZ8 lZ9 lZ10 lZ11 lZ12 lZ13 lZ14 lZ15 hG hM1 hyq hyr hA1 hA2 hA3 hA4 hA5 lG lM lA1 lA2 lA3 lA4 lA5 hda hdb hmb hma HFR HT2 HP0 HP1 HP2 hps k1 f1 f2 f3 f5 f6 f7 f8 f10 hyr2 hdn7 hc2
  refine wp_region_noPanic ?_
  refine wp_region_held_drew (S := (DS w g c)) (by kernel_rfl) HST.out (fun hHeld => ?_)
  refine wpAnyH_take (i := 0) (v := ?vz1) rfl (by kernel_rfl) (by kernel_rfl) (by kernel_rfl) (fun _ _ _ h => h) (Or.inl ⟨by rfl, ?hyz1⟩) (by assumption) ?restz1
  case hyz1 => (intro w hSw; (try dsimp only at hSw); have hC0 := hSw.c0; have hC1 := hSw.c1; have hC3 := hSw.c3; have hC4 := hSw.c4; have hC5 := hSw.c5; go_simp; try with_reducible rfl)
  (try simp only [Act.put, List.getElem_toArray, List.getElem_cons_succ, List.getElem_cons_zero, List.setIfInBounds_toArray, List.set_cons_zero, List.set_cons_succ])
  refine wpAnyH_take (i := 1) (v := ?vz2) rfl (by kernel_rfl) (by kernel_rfl) (by kernel_rfl) (fun _ _ _ h => h) (Or.inl ⟨by rfl, ?hyz2⟩) (by assumption) ?restz2
  case hyz2 => (intro w hSw; (try dsimp only at hSw); have hC0 := hSw.c0; have hC1 := hSw.c1; have hC3 := hSw.c3; have hC4 := hSw.c4; have hC5 := hSw.c5; go_simp; try with_reducible rfl)
  (try simp only [Act.put, List.getElem_toArray, List.getElem_cons_succ, List.getElem_cons_zero, List.setIfInBounds_toArray, List.set_cons_zero, List.set_cons_succ])
  refine wpAnyH_take (i := 2) (v := ?vz3) rfl (by kernel_rfl) (by kernel_rfl) (by kernel_rfl) (fun _ _ _ h => h) (Or.inl ⟨by rfl, ?hyz3⟩) (by assumption) ?restz3
  case hyz3 => (intro w hSw; (try dsimp only at hSw); have hC0 := hSw.c0; have hC1 := hSw.c1; have hC3 := hSw.c3; have hC4 := hSw.c4; have hC5 := hSw.c5; go_simp; try with_reducible rfl)
  (try simp only [Act.put, List.getElem_toArray, List.getElem_cons_succ, List.getElem_cons_zero, List.setIfInBounds_toArray, List.set_cons_zero, List.set_cons_succ])
  refine wpAnyH_take (i := 3) (v := ?vz4) rfl (by kernel_rfl) (by kernel_rfl) (by kernel_rfl) (fun _ _ _ h => h) (Or.inl ⟨by rfl, ?hyz4⟩) (by assumption) ?restz4
  case hyz4 => (intro w hSw; (try dsimp only at hSw); have hC0 := hSw.c0; have hC1 := hSw.c1; have hC3 := hSw.c3; have hC4 := hSw.c4; have hC5 := hSw.c5; go_simp; try with_reducible rfl)
  (try simp only [Act.put, List.getElem_toArray, List.getElem_cons_succ, List.getElem_cons_zero, List.setIfInBounds_toArray, List.set_cons_zero, List.set_cons_succ])
  refine wpAnyH_take (i := 4) (v := ?vz5) rfl (by kernel_rfl) (by kernel_rfl) (by kernel_rfl) (fun _ _ _ h => h) (Or.inl ⟨by rfl, ?hyz5⟩) (by assumption) ?restz5
  case hyz5 => (intro w hSw; (try dsimp only at hSw); have hC0 := hSw.c0; have hC1 := hSw.c1; have hC3 := hSw.c3; have hC4 := hSw.c4; have hC5 := hSw.c5; go_simp; try with_reducible rfl)
  (try simp only [Act.put, List.getElem_toArray, List.getElem_cons_succ, List.getElem_cons_zero, List.setIfInBounds_toArray, List.set_cons_zero, List.set_cons_succ])
  refine wpAnyH_take (i := 5) rfl (by kernel_rfl) (by kernel_rfl) (by kernel_rfl) (fun _ _ _ h => h) (Or.inl ⟨by rfl, fun w' _ => exec_sliceS (x := dayS) (a := da) (b := db) rfl rfl rfl rfl HI1.out.1 HI1.out.2 HN1.out w'⟩) (by assumption) ?_
  (try simp only [Act.put, List.getElem_toArray, List.getElem_cons_succ, List.getElem_cons_zero, List.setIfInBounds_toArray, List.set_cons_zero, List.set_cons_succ])
  refine wpAnyH_take (i := 6) rfl (by kernel_rfl) (by kernel_rfl) (by kernel_rfl) (fun _ _ _ h => h) (Or.inl ⟨by rfl, fun w' _ => exec_addS (x := Z1) (y := [44, 32]) (z := Z2) rfl rfl rfl HZ2.out HLZ2.out w'⟩) (by assumption) ?_
  (try simp only [Act.put, List.getElem_toArray, List.getElem_cons_succ, List.getElem_cons_zero, List.setIfInBounds_toArray, List.set_cons_zero, List.set_cons_succ])
  refine wpAnyH_take (i := 7) (v := ?vz8) rfl (by kernel_rfl) (by kernel_rfl) (by kernel_rfl) (fun _ _ _ h => h) (Or.inl ⟨by rfl, ?hyz8⟩) (by assumption) ?restz8
  case hyz8 => (intro w hSw; (try dsimp only at hSw); have hC0 := hSw.c0; have hC1 := hSw.c1; have hC3 := hSw.c3; have hC4 := hSw.c4; have hC5 := hSw.c5; go_simp; try with_reducible rfl)
  (try simp only [Act.put, List.getElem_toArray, List.getElem_cons_succ, List.getElem_cons_zero, List.setIfInBounds_toArray, List.set_cons_zero, List.set_cons_succ])
  refine wpAnyH_take (i := 8) rfl (by kernel_rfl) (by kernel_rfl) (by kernel_rfl) (fun _ _ _ h => h) (Or.inl ⟨by rfl, fun w' _ => exec_addS (x := Z2) (y := G) (z := Z3) rfl rfl rfl HZ3.out HLZ3.out w'⟩) (by assumption) ?_
  (try simp only [Act.put, List.getElem_toArray, List.getElem_cons_succ, List.getElem_cons_zero, List.setIfInBounds_toArray, List.set_cons_zero, List.set_cons_succ])
  refine wpAnyH_take (i := 9) rfl (by kernel_rfl) (by kernel_rfl) (by kernel_rfl) (fun _ _ _ h => h) (Or.inl ⟨by rfl, fun w' _ => exec_addS (x := Z3) (y := [32]) (z := Z4) rfl rfl rfl HZ4.out HLZ4.out w'⟩) (by assumption) ?_
  (try simp only [Act.put, List.getElem_toArray, List.getElem_cons_succ, List.getElem_cons_zero, List.setIfInBounds_toArray, List.set_cons_zero, List.set_cons_succ])
  refine wpAnyH_take (i := 10) (v := ?vz11) rfl (by kernel_rfl) (by kernel_rfl) (by kernel_rfl) (fun _ _ _ h => h) (Or.inl ⟨by rfl, ?hyz11⟩) (by assumption) ?restz11
  case hyz11 => (intro w hSw; (try dsimp only at hSw); have hC0 := hSw.c0; have hC1 := hSw.c1; have hC3 := hSw.c3; have hC4 := hSw.c4; have hC5 := hSw.c5; go_simp; try with_reducible rfl)
  (try simp only [Act.put, List.getElem_toArray, List.getElem_cons_succ, List.getElem_cons_zero, List.setIfInBounds_toArray, List.set_cons_zero, List.set_cons_succ])
  refine wpAnyH_take (i := 11) (v := ?vz12) rfl (by kernel_rfl) (by kernel_rfl) (by kernel_rfl) (fun _ _ _ h => h) (Or.inl ⟨by rfl, ?hyz12⟩) (by assumption) ?restz12
  case hyz12 => (intro w hSw; (try dsimp only at hSw); have hC0 := hSw.c0; have hC1 := hSw.c1; have hC3 := hSw.c3; have hC4 := hSw.c4; have hC5 := hSw.c5; go_simp; try with_reducible rfl)
  (try simp only [Act.put, List.getElem_toArray, List.getElem_cons_succ, List.getElem_cons_zero, List.setIfInBounds_toArray, List.set_cons_zero, List.set_cons_succ])
  refine wpAnyH_take (i := 12) (v := ?vz13) rfl (by kernel_rfl) (by kernel_rfl) (by kernel_rfl) (fun _ _ _ h => h) (Or.inl ⟨by rfl, ?hyz13⟩) (by assumption) ?restz13
  case hyz13 => (intro w hSw; (try dsimp only at hSw); have hC0 := hSw.c0; have hC1 := hSw.c1; have hC3 := hSw.c3; have hC4 := hSw.c4; have hC5 := hSw.c5; go_simp; try with_reducible rfl)
  (try simp only [Act.put, List.getElem_toArray, List.getElem_cons_succ, List.getElem_cons_zero, List.setIfInBounds_toArray, List.set_cons_zero, List.set_cons_succ])
  refine wpAnyH_take (i := 13) (v := ?vz14) rfl (by kernel_rfl) (by kernel_rfl) (by kernel_rfl) (fun _ _ _ h => h) (Or.inl ⟨by rfl, ?hyz14⟩) (by assumption) ?restz14
  case hyz14 => (intro w hSw; (try dsimp only at hSw); have hC0 := hSw.c0; have hC1 := hSw.c1; have hC3 := hSw.c3; have hC4 := hSw.c4; have hC5 := hSw.c5; go_simp; try with_reducible rfl)
  (try simp only [Act.put, List.getElem_toArray, List.getElem_cons_succ, List.getElem_cons_zero, List.setIfInBounds_toArray, List.set_cons_zero, List.set_cons_succ])
  refine wpAnyH_take (i := 14) (v := ?vz15) rfl (by kernel_rfl) (by kernel_rfl) (by kernel_rfl) (fun _ _ _ h => h) (Or.inl ⟨by rfl, ?hyz15⟩) (by assumption) ?restz15
  case hyz15 => (intro w hSw; (try dsimp only at hSw); have hC0 := hSw.c0; have hC1 := hSw.c1; have hC3 := hSw.c3; have hC4 := hSw.c4; have hC5 := hSw.c5; go_simp; try with_reducible rfl)
  (try simp only [Act.put, List.getElem_toArray, List.getElem_cons_succ, List.getElem_cons_zero, List.setIfInBounds_toArray, List.set_cons_zero, List.set_cons_succ])
  refine wpAnyH_take (i := 15) (v := ?vz16) rfl (by kernel_rfl) (by kernel_rfl) (by kernel_rfl) (fun _ _ _ h => h) (Or.inl ⟨by rfl, ?hyz16⟩) (by assumption) ?restz16
  case hyz16 => (intro w hSw; (try dsimp only at hSw); have hC0 := hSw.c0; have hC1 := hSw.c1; have hC3 := hSw.c3; have hC4 := hSw.c4; have hC5 := hSw.c5; go_simp; try with_reducible rfl)
  (try simp only [Act.put, List.getElem_toArray, List.getElem_cons_succ, List.getElem_cons_zero, List.setIfInBounds_toArray, List.set_cons_zero, List.set_cons_succ])
  refine wpAnyH_take (i := 16) (v := ?vz17) rfl (by kernel_rfl) (by kernel_rfl) (by kernel_rfl) (fun _ _ _ h => h) (Or.inl ⟨by rfl, ?hyz17⟩) (by assumption) ?restz17
  case hyz17 => (intro w hSw; (try dsimp only at hSw); have hC0 := hSw.c0; have hC1 := hSw.c1; have hC3 := hSw.c3; have hC4 := hSw.c4; have hC5 := hSw.c5; go_simp; try with_reducible rfl)
  (try simp only [Act.put, List.getElem_toArray, List.getElem_cons_succ, List.getElem_cons_zero, List.setIfInBounds_toArray, List.set_cons_zero, List.set_cons_succ])
  refine wpAnyH_take (i := 17) rfl (by kernel_rfl) (by kernel_rfl) (by kernel_rfl) (fun _ _ _ h => h) (Or.inl ⟨by rfl, fun w' _ => exec_sliceS (x := monS) (a := ma) (b := mb) rfl rfl rfl rfl HI2.out.1 HI2.out.2 HN2.out w'⟩) (by assumption) ?_
  (try simp only [Act.put, List.getElem_toArray, List.getElem_cons_succ, List.getElem_cons_zero, List.setIfInBounds_toArray, List.set_cons_zero, List.set_cons_succ])
  refine wpAnyH_take (i := 18) rfl (by kernel_rfl) (by kernel_rfl) (by kernel_rfl) (fun _ _ _ h => h) (Or.inl ⟨by rfl, fun w' _ => exec_addS (x := Z4) (y := M1) (z := Z5) rfl rfl rfl HZ5.out HLZ5.out w'⟩) (by assumption) ?_
  (try simp only [Act.put, List.getElem_toArray, List.getElem_cons_succ, List.getElem_cons_zero, List.setIfInBounds_toArray, List.set_cons_zero, List.set_cons_succ])
  refine wpAnyH_take (i := 19) rfl (by kernel_rfl) (by kernel_rfl) (by kernel_rfl) (fun _ _ _ h => h) (Or.inl ⟨by rfl, fun w' _ => exec_addS (x := Z5) (y := [32]) (z := Z6) rfl rfl rfl HZ6.out HLZ6.out w'⟩) (by assumption) ?_
  (try simp only [Act.put, List.getElem_toArray, List.getElem_cons_succ, List.getElem_cons_zero, List.setIfInBounds_toArray, List.set_cons_zero, List.set_cons_succ])
  refine wpAnyH_take (i := 20) (v := ?vz21) rfl (by kernel_rfl) (by kernel_rfl) (by kernel_rfl) (fun _ _ _ h => h) (Or.inl ⟨by rfl, ?hyz21⟩) (by assumption) ?restz21
  case hyz21 => (intro w hSw; (try dsimp only at hSw); have hC0 := hSw.c0; have hC1 := hSw.c1; have hC3 := hSw.c3; have hC4 := hSw.c4; have hC5 := hSw.c5; go_simp; try with_reducible rfl)
  (try simp only [Act.put, List.getElem_toArray, List.getElem_cons_succ, List.getElem_cons_zero, List.setIfInBounds_toArray, List.set_cons_zero, List.set_cons_succ])
  refine wpAnyH_take (i := 21) (v := ?vz22) rfl (by kernel_rfl) (by kernel_rfl) (by kernel_rfl) (fun _ _ _ h => h) (Or.inl ⟨by rfl, ?hyz22⟩) (by assumption) ?restz22
  case hyz22 => (intro w hSw; (try dsimp only at hSw); have hC0 := hSw.c0; have hC1 := hSw.c1; have hC3 := hSw.c3; have hC4 := hSw.c4; have hC5 := hSw.c5; go_simp; try with_reducible rfl)
  (try simp only [Act.put, List.getElem_toArray, List.getElem_cons_succ, List.getElem_cons_zero, List.setIfInBounds_toArray, List.set_cons_zero, List.set_cons_succ])
  refine wpAnyH_take (i := 22) (v := ?vz23) rfl (by kernel_rfl) (by kernel_rfl) (by kernel_rfl) (fun _ _ _ h => h) (Or.inl ⟨by rfl, ?hyz23⟩) (by assumption) ?restz23
  case hyz23 => (intro w hSw; (try dsimp only at hSw); have hC0 := hSw.c0; have hC1 := hSw.c1; have hC3 := hSw.c3; have hC4 := hSw.c4; have hC5 := hSw.c5; go_simp; try with_reducible rfl)
  (try simp only [Act.put, List.getElem_toArray, List.getElem_cons_succ, List.getElem_cons_zero, List.setIfInBounds_toArray, List.set_cons_zero, List.set_cons_succ])
  refine wpAnyH_take (i := 25) (v := ?vz24) rfl (by kernel_rfl) (by kernel_rfl) (by kernel_rfl) (fun _ _ _ h => h) (Or.inl ⟨by rfl, ?hyz24⟩) (by assumption) ?restz24
  case hyz24 => (intro w hSw; (try dsimp only at hSw); have hC0 := hSw.c0; have hC1 := hSw.c1; have hC3 := hSw.c3; have hC4 := hSw.c4; have hC5 := hSw.c5; go_simp; try with_reducible rfl)
  (try simp only [Act.put, List.getElem_toArray, List.getElem_cons_succ, List.getElem_cons_zero, List.setIfInBounds_toArray, List.set_cons_zero, List.set_cons_succ])
  refine wpAnyH_take (i := 26) (v := ?vz25) rfl (by kernel_rfl) (by kernel_rfl) (by kernel_rfl) (fun _ _ _ h => h) (Or.inl ⟨by rfl, ?hyz25⟩) (by assumption) ?restz25
  case hyz25 => (intro w hSw; (try dsimp only at hSw); have hC0 := hSw.c0; have hC1 := hSw.c1; have hC3 := hSw.c3; have hC4 := hSw.c4; have hC5 := hSw.c5; go_simp; try with_reducible rfl)
  (try simp only [Act.put, List.getElem_toArray, List.getElem_cons_succ, List.getElem_cons_zero, List.setIfInBounds_toArray, List.set_cons_zero, List.set_cons_succ])
  refine wpAnyH_take (i := 27) (v := ?vz26) rfl (by kernel_rfl) (by kernel_rfl) (by kernel_rfl) (fun _ _ _ h => h) (Or.inl ⟨by rfl, ?hyz26⟩) (by assumption) ?restz26
  case hyz26 => (intro w hSw; (try dsimp only at hSw); have hC0 := hSw.c0; have hC1 := hSw.c1; have hC3 := hSw.c3; have hC4 := hSw.c4; have hC5 := hSw.c5; go_simp; try with_reducible rfl)
  (try simp only [Act.put, List.getElem_toArray, List.getElem_cons_succ, List.getElem_cons_zero, List.setIfInBounds_toArray, List.set_cons_zero, List.set_cons_succ])
  refine wpAnyH_take (i := 31) (v := ?vz27) rfl (by kernel_rfl) (by kernel_rfl) (by kernel_rfl) (fun _ _ _ h => h) (Or.inl ⟨by rfl, ?hyz27⟩) (by assumption) ?restz27
  case hyz27 => (intro w hSw; (try dsimp only at hSw); have hC0 := hSw.c0; have hC1 := hSw.c1; have hC3 := hSw.c3; have hC4 := hSw.c4; have hC5 := hSw.c5; go_simp; try with_reducible rfl)
  (try simp only [Act.put, List.getElem_toArray, List.getElem_cons_succ, List.getElem_cons_zero, List.setIfInBounds_toArray, List.set_cons_zero, List.set_cons_succ])
  refine wpAnyH_take (i := 32) (v := ?vz28) rfl (by kernel_rfl) (by kernel_rfl) (by kernel_rfl) (fun _ _ _ h => h) (Or.inl ⟨by rfl, ?hyz28⟩) (by assumption) ?restz28
  case hyz28 => (intro w hSw; (try dsimp only at hSw); have hC0 := hSw.c0; have hC1 := hSw.c1; have hC3 := hSw.c3; have hC4 := hSw.c4; have hC5 := hSw.c5; go_simp; try with_reducible rfl)
  (try simp only [Act.put, List.getElem_toArray, List.getElem_cons_succ, List.getElem_cons_zero, List.setIfInBounds_toArray, List.set_cons_zero, List.set_cons_succ])
  refine wpAnyH_take (i := 36) (v := ?vz29) rfl (by kernel_rfl) (by kernel_rfl) (by kernel_rfl) (fun _ _ _ h => h) (Or.inl ⟨by rfl, ?hyz29⟩) (by assumption) ?restz29
  case hyz29 => (intro w hSw; (try dsimp only at hSw); have hC0 := hSw.c0; have hC1 := hSw.c1; have hC3 := hSw.c3; have hC4 := hSw.c4; have hC5 := hSw.c5; go_simp; try with_reducible rfl)
  (try simp only [Act.put, List.getElem_toArray, List.getElem_cons_succ, List.getElem_cons_zero, List.setIfInBounds_toArray, List.set_cons_zero, List.set_cons_succ])
  refine wpAnyH_take (i := 37) (v := ?vz30) rfl (by kernel_rfl) (by kernel_rfl) (by kernel_rfl) (fun _ _ _ h => h) (Or.inl ⟨by rfl, ?hyz30⟩) (by assumption) ?restz30
  case hyz30 => (intro w hSw; (try dsimp only at hSw); have hC0 := hSw.c0; have hC1 := hSw.c1; have hC3 := hSw.c3; have hC4 := hSw.c4; have hC5 := hSw.c5; go_simp; try with_reducible rfl)
  (try simp only [Act.put, List.getElem_toArray, List.getElem_cons_succ, List.getElem_cons_zero, List.setIfInBounds_toArray, List.set_cons_zero, List.set_cons_succ])
  refine wpAnyH_take (i := 41) (v := ?vz31) rfl (by kernel_rfl) (by kernel_rfl) (by kernel_rfl) (fun _ _ _ h => h) (Or.inl ⟨by rfl, ?hyz31⟩) (by assumption) ?restz31
  case hyz31 => (intro w hSw; (try dsimp only at hSw); have hC0 := hSw.c0; have hC1 := hSw.c1; have hC3 := hSw.c3; have hC4 := hSw.c4; have hC5 := hSw.c5; go_simp; try with_reducible rfl)
  (try simp only [Act.put, List.getElem_toArray, List.getElem_cons_succ, List.getElem_cons_zero, List.setIfInBounds_toArray, List.set_cons_zero, List.set_cons_succ])
  refine wpAnyH_take (i := 42) (v := ?vz32) rfl (by kernel_rfl) (by kernel_rfl) (by kernel_rfl) (fun _ _ _ h => h) (Or.inl ⟨by rfl, ?hyz32⟩) (by assumption) ?restz32
  case hyz32 => (intro w hSw; (try dsimp only at hSw); have hC0 := hSw.c0; have hC1 := hSw.c1; have hC3 := hSw.c3; have hC4 := hSw.c4; have hC5 := hSw.c5; go_simp; try with_reducible rfl)
  (try simp only [Act.put, List.getElem_toArray, List.getElem_cons_succ, List.getElem_cons_zero, List.setIfInBounds_toArray, List.set_cons_zero, List.set_cons_succ])
  refine wpAnyH_ready (rs := [23]) (by kernel_rfl) (by simp) ?_
  refine AllReadyH.cons rfl (fun K hK => ?_) AllReadyH.nil
  go_simp
  go_wp2_with (go_at_call 26; refine (HT3.out _).mono ?_; rintro e wn1 ⟨rfl, hb1⟩)
  refine hK.out _ _ ((by assumption : DS w g c _).keep hb1) (fun hHeld => ?_)
  clear hK K
  (try simp only [Act.put, List.getElem_toArray, List.getElem_cons_succ, List.getElem_cons_zero, List.setIfInBounds_toArray, List.set_cons_zero, List.set_cons_succ])
  refine wpAnyH_take (i := 24) rfl (by kernel_rfl) (by kernel_rfl) (by kernel_rfl) (fun _ _ _ h => h) (Or.inl ⟨by rfl, fun w' _ => exec_addS (x := Z6) (y := A1) (z := Z7) rfl rfl rfl HZ7.out HLZ7.out w'⟩) (by assumption) ?_
  (try simp only [Act.put, List.getElem_toArray, List.getElem_cons_succ, List.getElem_cons_zero, List.setIfInBounds_toArray, List.set_cons_zero, List.set_cons_succ])
  refine wpAnyH_ready (rs := [28]) (by kernel_rfl) (by simp) ?_
  refine AllReadyH.cons rfl (fun K hK => ?_) AllReadyH.nil
  go_simp
  go_wp2_with (go_at_call 26; refine (HT4.out _).mono ?_; rintro e wn2 ⟨rfl, hb2⟩)
  refine hK.out _ _ ((by assumption : DS w g c _).keep hb2) (fun hHeld => ?_)
  clear hK K
  (try simp only [Act.put, List.getElem_toArray, List.getElem_cons_succ, List.getElem_cons_zero, List.setIfInBounds_toArray, List.set_cons_zero, List.set_cons_succ])
  refine wpAnyH_take (i := 29) rfl (by kernel_rfl) (by kernel_rfl) (by kernel_rfl) (fun _ _ _ h => h) (Or.inl ⟨by rfl, fun w' _ => exec_addS (x := Z7) (y := A2) (z := Z8) rfl rfl rfl HZ8.out HLZ8.out w'⟩) (by assumption) ?_
  (try simp only [Act.put, List.getElem_toArray, List.getElem_cons_succ, List.getElem_cons_zero, List.setIfInBounds_toArray, List.set_cons_zero, List.set_cons_succ])
  refine wpAnyH_take (i := 30) rfl (by kernel_rfl) (by kernel_rfl) (by kernel_rfl) (fun _ _ _ h => h) (Or.inl ⟨by rfl, fun w' _ => exec_addS (x := Z8) (y := [32]) (z := Z9) rfl rfl rfl HZ9.out HLZ9.out w'⟩) (by assumption) ?_
  (try simp only [Act.put, List.getElem_toArray, List.getElem_cons_succ, List.getElem_cons_zero, List.setIfInBounds_toArray, List.set_cons_zero, List.set_cons_succ])
  refine wpAnyH_ready (rs := [33]) (by kernel_rfl) (by simp) ?_
  refine AllReadyH.cons rfl (fun K hK => ?_) AllReadyH.nil
  go_simp
  go_wp2_with (go_at_call 26; refine (HT5.out _).mono ?_; rintro e wn3 ⟨rfl, hb3⟩)
  refine hK.out _ _ ((by assumption : DS w g c _).keep hb3) (fun hHeld => ?_)
  clear hK K
  (try simp only [Act.put, List.getElem_toArray, List.getElem_cons_succ, List.getElem_cons_zero, List.setIfInBounds_toArray, List.set_cons_zero, List.set_cons_succ])
  refine wpAnyH_take (i := 34) rfl (by kernel_rfl) (by kernel_rfl) (by kernel_rfl) (fun _ _ _ h => h) (Or.inl ⟨by rfl, fun w' _ => exec_addS (x := Z9) (y := A3) (z := Z10) rfl rfl rfl HZ10.out HLZ10.out w'⟩) (by assumption) ?_
  (try simp only [Act.put, List.getElem_toArray, List.getElem_cons_succ, List.getElem_cons_zero, List.setIfInBounds_toArray, List.set_cons_zero, List.set_cons_succ])
  refine wpAnyH_take (i := 35) rfl (by kernel_rfl) (by kernel_rfl) (by kernel_rfl) (fun _ _ _ h => h) (Or.inl ⟨by rfl, fun w' _ => exec_addS (x := Z10) (y := [58]) (z := Z11) rfl rfl rfl HZ11.out HLZ11.out w'⟩) (by assumption) ?_
  (try simp only [Act.put, List.getElem_toArray, List.getElem_cons_succ, List.getElem_cons_zero, List.setIfInBounds_toArray, List.set_cons_zero, List.set_cons_succ])
  refine wpAnyH_ready (rs := [38]) (by kernel_rfl) (by simp) ?_
  refine AllReadyH.cons rfl (fun K hK => ?_) AllReadyH.nil
  go_simp
  go_wp2_with (go_at_call 26; refine (HT6.out _).mono ?_; rintro e wn4 ⟨rfl, hb4⟩)
  refine hK.out _ _ ((by assumption : DS w g c _).keep hb4) (fun hHeld => ?_)
  clear hK K
  (try simp only [Act.put, List.getElem_toArray, List.getElem_cons_succ, List.getElem_cons_zero, List.setIfInBounds_toArray, List.set_cons_zero, List.set_cons_succ])
  refine wpAnyH_take (i := 39) rfl (by kernel_rfl) (by kernel_rfl) (by kernel_rfl) (fun _ _ _ h => h) (Or.inl ⟨by rfl, fun w' _ => exec_addS (x := Z11) (y := A4) (z := Z12) rfl rfl rfl HZ12.out HLZ12.out w'⟩) (by assumption) ?_
  (try simp only [Act.put, List.getElem_toArray, List.getElem_cons_succ, List.getElem_cons_zero, List.setIfInBounds_toArray, List.set_cons_zero, List.set_cons_succ])
  refine wpAnyH_take (i := 40) rfl (by kernel_rfl) (by kernel_rfl) (by kernel_rfl) (fun _ _ _ h => h) (Or.inl ⟨by rfl, fun w' _ => exec_addS (x := Z12) (y := [58]) (z := Z13) rfl rfl rfl HZ13.out HLZ13.out w'⟩) (by assumption) ?_
  (try simp only [Act.put, List.getElem_toArray, List.getElem_cons_succ, List.getElem_cons_zero, List.setIfInBounds_toArray, List.set_cons_zero, List.set_cons_succ])
  refine wpAnyH_ready (rs := [43]) (by kernel_rfl) (by simp) ?_
  refine AllReadyH.cons rfl (fun K hK => ?_) AllReadyH.nil
  go_simp
  go_wp2_with (go_at_call 26; refine (HT7.out _).mono ?_; rintro e wn5 ⟨rfl, hb5⟩)
  refine hK.out _ _ ((by assumption : DS w g c _).keep hb5) (fun hHeld => ?_)
  clear hK K
  (try simp only [Act.put, List.getElem_toArray, List.getElem_cons_succ, List.getElem_cons_zero, List.setIfInBounds_toArray, List.set_cons_zero, List.set_cons_succ])
  refine wpAnyH_take (i := 44) rfl (by kernel_rfl) (by kernel_rfl) (by kernel_rfl) (fun _ _ _ h => h) (Or.inl ⟨by rfl, fun w' _ => exec_addS (x := Z13) (y := A5) (z := Z14) rfl rfl rfl HZ14.out HLZ14.out w'⟩) (by assumption) ?_
  (try simp only [Act.put, List.getElem_toArray, List.getElem_cons_succ, List.getElem_cons_zero, List.setIfInBounds_toArray, List.set_cons_zero, List.set_cons_succ])
  refine wpAnyH_take (i := 45) rfl (by kernel_rfl) (by kernel_rfl) (by kernel_rfl) (fun _ _ _ h => h) (Or.inl ⟨by rfl, fun w' _ => exec_addS (x := Z14) (y := [32, 43, 48, 48, 48, 48]) (z := Z15) rfl rfl rfl HZ15.out HLZ15.out w'⟩) (by assumption) ?_
  (try simp only [Act.put, List.getElem_toArray, List.getElem_cons_succ, List.getElem_cons_zero, List.setIfInBounds_toArray, List.set_cons_zero, List.set_cons_succ])
  refine wpAnyH_take (i := 46) (v := ?vz47) rfl (by kernel_rfl) (by kernel_rfl) (by kernel_rfl) (fun _ _ _ h => h) (Or.inl ⟨by rfl, ?hyz47⟩) (by assumption) ?restz47
  case hyz47 => (intro w hSw; (try dsimp only at hSw); have hC0 := hSw.c0; have hC1 := hSw.c1; have hC3 := hSw.c3; have hC4 := hSw.c4; have hC5 := hSw.c5; go_simp; try with_reducible rfl)
  (try simp only [Act.put, List.getElem_toArray, List.getElem_cons_succ, List.getElem_cons_zero, List.setIfInBounds_toArray, List.set_cons_zero, List.set_cons_succ])
  refine wpAnyH_take (i := 47) (v := ?vz48) rfl (by kernel_rfl) (by kernel_rfl) (by kernel_rfl) (fun _ _ _ h => h) (Or.inl ⟨by rfl, ?hyz48⟩) (by assumption) ?restz48
  case hyz48 => (intro w hSw; (try dsimp only at hSw); have hC0 := hSw.c0; have hC1 := hSw.c1; have hC3 := hSw.c3; have hC4 := hSw.c4; have hC5 := hSw.c5; go_simp; try with_reducible rfl)
  (try simp only [Act.put, List.getElem_toArray, List.getElem_cons_succ, List.getElem_cons_zero, List.setIfInBounds_toArray, List.set_cons_zero, List.set_cons_succ])
  refine wpAnyH_done (by kernel_rfl) ?_ _
  refine NoPanic.normal ?_
  have hf := (by assumption : DS w g c wn5)
  go_wp2
  go_ret2
  rw [HD.out, HZF.out]
  exact ⟨rfl, hf.bel⟩
theorem rShow (t : Int) (w : World) : Calls Tryd.prog 14 #[.int .i64 t] w (ShowEnd t w) := by
  by_cases h : t < 0 ∨ 253402300799 < t
  · exact rShowNo t w h
  · obtain ⟨n, rfl⟩ := Int.eq_ofNat_of_zero_le (show 0 ≤ t by omega)
    exact rShowYes n w (by omega)
end Go.Proofs.YtklhgaioolamfaaDoor.Date
