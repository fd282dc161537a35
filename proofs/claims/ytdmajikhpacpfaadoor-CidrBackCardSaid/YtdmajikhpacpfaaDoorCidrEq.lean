/-
  CIDR: two addresses compared whole.
-/
import Derived.Test.YtdmajikhpacpfaaDoorCidrNet
import Derived.ChangeKeysEq
namespace Go.Proofs.YtdmajikhpacpfaaDoor.Cidr
open Go.RowKit Base
theorem cellsOf5 : Tryd.prog.cellsOf 5 = 1 := by kernel_rfl
theorem plain5 : Tryd.prog.plainKey 5 = true := by kernel_rfl
theorem run_eqBytes (d : Nat) (xs ys : List UInt8) (w : World) : ∀ (is : List Nat), (∀ i ∈ is, i < xs.length ∧ i < ys.length) →
    (Op.eqItems (d + 1) 5 1 (xs.map B8).toArray (ys.map B8).toArray is).run Tryd.prog w = .ok (is.all fun i => xs.getD i 0 == ys.getD i 0) w
  | [], _ => by simp [Op.eqItems]
  | i :: is, h => by
    obtain ⟨h1, h2⟩ := h i List.mem_cons_self
    have p1 : (part 5 (xs.map B8).toArray (i * 1)).run Tryd.prog w = .ok (.int .u8 ((xs.getD i 0).toNat : Int)) w := run_part_plain w plain5 (by simp [List.getElem?_eq_getElem h1])
    have p2 : (part 5 (ys.map B8).toArray (i * 1)).run Tryd.prog w = .ok (.int .u8 ((ys.getD i 0).toNat : Int)) w := run_part_plain w plain5 (by simp [List.getElem?_eq_getElem h2])
    have p3 := run_equalIn_int (P := Tryd.prog) w d 5 .u8 .u8 ((xs.getD i 0).toNat : Int) ((ys.getD i 0).toNat : Int) Tryd.underlying5
    have ih := run_eqBytes d xs ys w is fun j hj => h j (List.mem_cons_of_mem _ hj)
    simp only [Op.eqItems, Sem.run_bind, p1, p2, p3, Result.andThen_ok, List.all_cons]
    by_cases he : xs.getD i 0 = ys.getD i 0
    · have e1 : (((xs.getD i 0).toNat : Int) == ((ys.getD i 0).toNat : Int)) = true := by rw [he]; simp
      have e2 : (xs.getD i 0 == ys.getD i 0) = true := by rw [he]; simp
      rw [e1, e2]; simpa using ih
    · have e1 : (((xs.getD i 0).toNat : Int) == ((ys.getD i 0).toNat : Int)) = false := by
        rw [beq_eq_false_iff_ne]; intro h; exact he (UInt8.toNat_inj.1 (by omega))
      have e2 : (xs.getD i 0 == ys.getD i 0) = false := by rw [beq_eq_false_iff_ne]; exact he
      rw [e1, e2]; simp
theorem all_range_eq {xs ys : List UInt8} {n : Nat} (hx : xs.length = n) (hy : ys.length = n) : ((List.range n).all fun i => xs.getD i 0 == ys.getD i 0) = decide (xs = ys) := by
  rw [Bool.eq_iff_iff, List.all_eq_true, decide_eq_true_iff]
  constructor
  · intro h
    apply List.ext_getElem (by omega)
    intro i h1 h2
    have := h i (List.mem_range.2 (by omega))
    simpa [List.getD, List.getElem?_eq_getElem h1, List.getElem?_eq_getElem h2] using this
  · rintro rfl i _
    simp
theorem run_eqAddr (d : Nat) (xs ys : List UInt8) (hx : xs.length = 16) (hy : ys.length = 16) (w : World) : (Op.equalIn (d + 2) 23 (.agg (xs.map B8).toArray) (.agg (ys.map B8).toArray)).run Tryd.prog w = .ok (decide (xs = ys)) w := by
  obtain ⟨i0, hi, _⟩ := info_parts info5
  rw [run_equalIn_array w (d + 1) _ _ Tryd.underlying23 hi, cellsOf5, run_eqBytes d xs ys w _ (fun i hi => by rw [List.mem_range] at hi; omega), all_range_eq hx hy]
/-- As the walk meets it within a range. -/
theorem run_eqAddr16 (xs ys : List UInt8) (hx : xs.length = 16) (hy : ys.length = 16) (w : World) : (Op.equalIn 9999 23 (.agg (List.take 16 (List.map B8 xs)).toArray) (.agg (List.take 16 (List.map B8 ys)).toArray)).run Tryd.prog w = .ok (decide (xs = ys)) w := by
  rw [List.take_of_length_le (by simp; omega), List.take_of_length_le (by simp; omega)]
  exact run_eqAddr 9997 xs ys hx hy w
theorem net_eq (x y : NetM) : decide (x = y) = (decide (x.six = y.six) && (decide (x.bits = y.bits) && decide (x.a = y.a))) := by
  obtain ⟨a, b, c⟩ := x
  obtain ⟨d, e, f⟩ := y
  simp only [NetM.mk.injEq]
  rw [Bool.eq_iff_iff]
  simp
theorem run_neqNet (x y : NetM) (hx : x.a.length = 16) (hy : y.a.length = 16) (w : World) : (binOp .neq 25 (netV x) (netV y)).run Tryd.prog w = .ok (.bool (!decide (x = y))) w := by
  have h16 := run_eqAddr16 x.a y.a hx hy w
  rw [net_eq]
  by_cases h6 : x.six = y.six
  · by_cases hb : x.bits = y.bits
    · by_cases ha : x.a = y.a
      · rw [decide_eq_true ha, ha] at h16
        rw [decide_eq_true h6, decide_eq_true hb, decide_eq_true ha]
        go_simp
      · rw [decide_eq_false ha] at h16
        rw [decide_eq_true h6, decide_eq_true hb, decide_eq_false ha]
        go_simp
    · rw [decide_eq_true h6, decide_eq_false hb]
      go_simp
  · rw [decide_eq_false h6]
    go_simp
theorem run_eqlNet (x y : NetM) (hx : x.a.length = 16) (hy : y.a.length = 16) (w : World) : (binOp .eql 25 (netV x) (netV y)).run Tryd.prog w = .ok (.bool (decide (x = y))) w := by
  have h16 := run_eqAddr16 x.a y.a hx hy w
  rw [net_eq]
  by_cases h6 : x.six = y.six
  · by_cases hb : x.bits = y.bits
    · by_cases ha : x.a = y.a
      · rw [decide_eq_true ha, ha] at h16
        rw [decide_eq_true h6, decide_eq_true hb, decide_eq_true ha]
        go_simp
      · rw [decide_eq_false ha] at h16
        rw [decide_eq_true h6, decide_eq_true hb, decide_eq_false ha]
        go_simp
    · rw [decide_eq_true h6, decide_eq_false hb]
      go_simp
  · rw [decide_eq_false h6]
    go_simp
theorem guard25 : Tryd.prog.eqGuardType Tryd.prog.depth 25 = false := by kernel_rfl
theorem exec_neqNet {ρ : Operand → Value} {o : Oper} {s t : Operand} {r : TypeId} {x y : NetM} (ho : o.op = .binOp .neq 25 s t r) (hs : ρ s = netV x) (ht : ρ t = netV y) (hx : x.a.length = 16) (hy : y.a.length = 16) (w : World) :
    (execOp ρ o).run Tryd.prog w = .ok (.value (.bool (!decide (x = y)))) w := by
  unfold execOp
  simp only [ho, hs, ht, Sem.run_bind, run_eqGuard_agg w _ _ _ _ _ _ guard25, Result.andThen_ok, run_neqNet x y hx hy w, Sem.run_pure]
end Go.Proofs.YtdmajikhpacpfaaDoor.Cidr
