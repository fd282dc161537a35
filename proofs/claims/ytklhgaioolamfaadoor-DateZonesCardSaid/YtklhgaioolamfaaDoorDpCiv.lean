/-
  DATE, the program: a day's date, a second's time, a date's day.
-/
import Derived.Test.YtklhgaioolamfaaDoorDpCal
import Derived.Test.YtklhgaioolamfaaDoorDatCiv
import Derived.Deep.MidRow
namespace Go.Proofs.YtklhgaioolamfaaDoor.Date
open Go.RowKit Base
abbrev threeV (a b c : Int) : Array Value := #[.int .i64 a, .int .i64 b, .int .i64 c]
theorem size3 : (Tryd.prog.info? 37).map (·.size) = some 3 := by kernel_rfl
theorem three_range {w : World} {b : Nat} {p q r : Value} {ty : TypeId} (h : w.heap[b]? = some (.cells #[p, q, r] ty (0, 0))) : w.rangeAt b 0 [p, q, r] := fun i v hv => by
  rw [Nat.zero_add]
  unfold World.cell?
  rw [h]
  show (#[p, q, r] : Array Value)[i]? = some v
  rw [← hv]
  simp
theorem results_three {w : World} {fn : Func} {tmps : Array Value} {i b : Nat} {a c d : Value} {ty : TypeId} (hr : fn.results = #[ResultVar.cell i 37]) (h1 : tmps.getD i undef = .pointer (some ⟨b, 0, none⟩)) (hat : w.heap[b]? = some (.cells #[a, c, d] ty (0, 0))) :
    (results fn tmps).run Tryd.prog w = .ok (.agg #[a, c, d]) w := by
  have hl := run_loadVar_mid w b 0 37 [a, c, d] _ (three_range hat) Tryd.underlying37 rfl size3
  unfold results
  rw [hr]
  rw [Array.getD_eq_getD_getElem?] at h1
  simp [h1, hl, asAddr]
abbrev zero3 : Obj := .cells (threeV 0 0 0) 37 (0, 0)
theorem set_three {w : World} {b : Nat} {t : TypeId} {cs : Array Value} (h : w.heap[b]? = some (.cells cs t (0, 0))) (i : Nat) (v : Value) : (w.setCell ⟨b, i, none⟩ v).heap[b]? = some (.cells (cs.setIfInBounds i v) t (0, 0)) := heap_setCell_any w b i _ _ _ v h
set_option maxHeartbeats 1600000 in
set_option maxRecDepth 100000 in
theorem pClk (n : Nat) (w : World) (h : n ≤ 86399) : Calls Tryd.prog 19 #[.int .i64 (n : Int)] w fun e w' => e = .returned (.agg (threeV (n / 3600 : Nat) (n / 60 % 60 : Nat) (n % 60 : Nat))) ∧ Below w.heap.size w w' := by
  have e1 : Int.tdiv (n : Int) 3600 = ((n / 3600 : Nat) : Int) := quo_nat n 3600
  have e2 : Int.tmod (n : Int) 3600 = ((n % 3600 : Nat) : Int) := rem_nat n 3600
  have e3 : Int.tmod (n : Int) 60 = ((n % 60 : Nat) : Int) := rem_nat n 60
  have e4 : Int.tdiv ((n % 3600 : Nat) : Int) 60 = ((n / 60 % 60 : Nat) : Int) := by
    have := quo_nat (n % 3600) 60
    rw [show n % 3600 / 60 = n / 60 % 60 by omega] at this
    exact this
  have ba : n / 3600 ≤ 86399 := by omega
  have bb : n % 3600 ≤ 86399 := by omega
  have bc : n / 60 % 60 ≤ 86399 := by omega
  have bd : n % 60 ≤ 86399 := by omega
  generalize n / 60 % 60 = c at e4 bc
  generalize n % 3600 = b at e2 e4 bb
  generalize n / 3600 = a at e1 ba
  generalize n % 60 = d at e3 bd
  go_enter Tryd.func19, Tryd.ntmps19
  go_wp2
  refine bodyPost_ret (results_three Tryd.results19 rfl (MapKept.heap_alloc w _).1) rfl ?_
  exact ⟨rfl, Below.alloc1 w _⟩
set_option maxHeartbeats 8000000 in
set_option maxRecDepth 100000 in
theorem pDayOf (y m d : Nat) (w : World) (hv : Vars w) (hy : y ≤ 9000000000) (hm1 : 1 ≤ m) (hm2 : m ≤ 12) (hd2 : d ≤ 99) : Calls Tryd.prog 52 #[.int .i64 (y : Int), .int .i64 (m : Int), .int .i64 (d : Int)] w fun e w' => e = .returned (.int .i64 (dayZ y m d)) ∧ w = w' := by
  have HN : Hid (∀ w1, Calls Tryd.prog 40 #[.int .i64 (y : Int)] w1 fun e w' => e = .returned (.int .i64 (newZ y)) ∧ w1 = w') := fun w1 => pNew y w1 hy
  have HM : Hid (∀ (k : Nat), 1 ≤ k → k ≤ 12 → Calls Tryd.prog 41 #[.int .i64 (y : Int), .int .i64 (k : Int)] w fun e w' => e = .returned (.int .i64 (md y k : Int)) ∧ w = w') := fun k a b => pDays y k w hv (by omega) a b
  have n1 := new_hi hy
  have n2 := new_lo y
  obtain ⟨fin, hfin⟩ : ∃ fin, fin = dayZ y m d := ⟨_, rfl⟩
  have HF : Hid (fin = newZ y + (d : Int) - 1 + (befM y (m - 1) : Int)) := hfin
  rw [← hfin]
  generalize newZ y = Z at HN n1 n2 HF
  clear hfin hv
  go_enter Tryd.func52, Tryd.ntmps52
  go_wp2_with (first | (go_at_call 40; refine (HN.out _).mono ?_; rintro ee w1 ⟨rfl, rfl⟩; refine Hid.out ?_) | fail)
  refine Lib.hid ?_
  go_wp2
  go_loop [7, 8] (fun nv iv => ∃ (z : Int) (i : Nat), nv = .int .i64 z ∧ iv = .int .i64 (i : Int) ∧ 1 ≤ i ∧ i ≤ m ∧ -2000000 ≤ z ∧ z ≤ 9000000000200 + 31 * (i : Int) ∧ Hid (z = Z + (d : Int) - 1 + (befM y (i - 1) : Int))) (fun _ iv => m - (intOf iv).toNat)
  case atStart => exact ⟨_, 1, rfl, rfl, by omega, by omega, by omega, by omega, by show _ = _; simp [befM]⟩
  case round =>
    obtain ⟨z, i, rfl, rfl, hi1, hi2, hz1, hz2, hq⟩ := hrel
    by_cases hlt : i < m
    · have i1 : (i : Int) < (m : Int) := by omega
      obtain ⟨q, hqd⟩ : ∃ q, q = md y i := ⟨_, rfl⟩
      have HMC : Hid (Calls Tryd.prog 41 #[.int .i64 (y : Int), .int .i64 (i : Int)] w fun e w' => e = .returned (.int .i64 (q : Int)) ∧ w = w') := by rw [hqd]; exact HM.out i (by omega) (by omega)
      have hq2 : q ≤ 31 := by rw [hqd]; exact md_le y i
      have HNX : Hid (z + (q : Int) = Z + (d : Int) - 1 + (befM y (i + 1 - 1) : Int)) := by
        show _ = _
        rw [Nat.add_sub_cancel, hq.out, hqd]
        obtain ⟨j, rfl⟩ : ∃ j, i = j + 1 := ⟨i - 1, by omega⟩
        rw [befM, Nat.add_sub_cancel]
        omega
      clear hqd hq
      go_wp2_with (first | (go_at_call 41; refine HMC.out.mono ?_; rintro ee w2 ⟨rfl, rfl⟩; refine Hid.out ?_) | fail)
      refine Lib.hid ?_
      go_wp2
      go_round
      case rel => exact ⟨z + (q : Int), i + 1, by first | rfl | go_num, by go_num, by omega, by omega, by omega, by omega, HNX⟩
      case measure => simp [intOf]; omega
    · have i1 : ¬ (i : Int) < (m : Int) := by omega
      have HE : Hid (fin = z) := by
        show _ = _
        rw [HF.out, hq.out, show i = m by omega]
      clear hq
      go_wp2
      go_ret
      rw [HE.out]
      exact ⟨rfl, rfl⟩
end Go.Proofs.YtklhgaioolamfaaDoor.Date
