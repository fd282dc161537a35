/-
  REPLY: bytes of one: the given answers' digits, strconv.AppendInt, frames.
-/
import Derived.Test.YthkabehojmncmaaDoorRepRight
import Derived.Test.YthkabehojmncmaaDoorShelf
import Derived.Lib.SmallJoins
import Derived.Lib.LaidTab
import Derived.Lib.ItoaNum
import Derived.Lib.AppendIntMem
namespace Go.Proofs.YthkabehojmncmaaDoor.Reply
open Go.RowKit Base
theorem gPow : Tryd.prog.globalNamed "internal/strconv.uint64pow10" = some 1 := by kernel_rfl
/-- What the listed variables hold. -/
structure Vars (w : World) : Prop where
  pow : Lib.TabIs Tryd.prog w "internal/strconv.uint64pow10" .u64 Lib.pow10Tab
theorem Vars.on {w w' : World} (h : Vars w) (hb : Below w.heap.size w w') : Vars w' where
  pow := Go.Joins.tab_stays gPow h.pow hb (Nat.le_refl _)
theorem dec_digs {n : Nat} (h1 : 200 ≤ n) (h2 : n ≤ 599) : Lib.decDigits n = digs n := by
  rw [Lib.decDigits, dif_neg (by omega), Lib.decDigits, dif_neg (by omega), Lib.decDigits, dif_pos (by omega)]
  unfold digs
  rw [show n / 10 / 10 = n / 100 by omega]
  rfl
theorem pAppend (n B : Nat) (sv : Value) (xs : List UInt8) (w : World) (hown : Owns w B sv xs) (hB : B ≤ w.heap.size) (h1 : 200 ≤ n) (h2 : n ≤ 599) (hl : xs.length ≤ 1000000) (htab : Lib.TabBelow Tryd.prog B w "internal/strconv.uint64pow10" .u64 Lib.pow10Tab) :
    Calls Tryd.prog 25 #[sv, .int .i64 (n : Int), .int .i64 10] w fun e w' => ∃ v', e = .returned v' ∧ Owns w' B v' (xs ++ digs n) ∧ Below B w w' := by
  have happ := Tryd.strconv_AppendInt_10 B xs.length (n : Int) (by omega) (by omega) sv _ w hown hB (by omega) htab
  rw [Lib.itoa_nonneg, dec_digs h1 h2] at happ
  exact happ.mono fun e w' ⟨v', e1, e2, e3, _⟩ => ⟨v', e1, by unfold Owns; rw [List.length_append, Lib.byteCells_append]; exact e2, e3⟩
/-- A reply's box. -/
def BoxR (w : World) (g : Nat) (c : Int) (lv : Value) : Prop := w.heap[g]? = some (.cells #[.int .i64 c, lv] 24 (0, 0))
theorem BoxR.on {w w' : World} {g : Nat} {c : Int} {lv : Value} (h : BoxR w g c lv) (hb : Below w.heap.size w w') : BoxR w' g c lv := by
  unfold BoxR
  rw [hb.block g (heap_lt h)]; exact h
theorem BoxR.cells {w : World} {g : Nat} {c : Int} {lv : Value} (h : BoxR w g c lv) : w.cell? ⟨g, 0, none⟩ = some (.int .i64 c) ∧ w.cell? ⟨g, 1, none⟩ = some lv := ⟨(two_cells h).1, (two_cells h).2.1⟩
theorem BoxR.new (w : World) (c : Int) (lv : Value) : BoxR (w.alloc (.cells #[.int .i64 c, lv] 24)) w.heap.size c lv := heap_alloc_new w _
/-- What Print answers. -/
def printQ (c : Int) (ls : List (List UInt8)) : List UInt8 := if rightB c ls = true then printB c.toNat ls else []
def printE (c : Int) (ls : List (List UInt8)) : Int := if rightB c ls = true then 0 else 141
def PrintEnd (c : Int) (ls : List (List UInt8)) (w : World) (e : Ending) (w' : World) : Prop :=
  ∃ v, e = .returned (.tuple #[v, .int .i64 (printE c ls)]) ∧ Owns w' w.heap.size v (printQ c ls) ∧ Below w.heap.size w w'
theorem end_no {c : Int} {ls : List (List UInt8)} (h : rightB c ls = false) {w w' : World} (hb : Below w.heap.size w w') : PrintEnd c ls w (.returned (.tuple #[.slice none 0 0, .int .i64 141])) w' :=
  ⟨_, by unfold printE; rw [if_neg (by rw [h]; decide)], by unfold printQ; rw [if_neg (by rw [h]; decide)]; exact owns_nil w' _, hb⟩
theorem end_yes {c : Int} {ls : List (List UInt8)} (h : rightB c ls = true) {n : Nat} (hc : c = n) {w w' : World} {v : Value} (ho : Owns w' w.heap.size v (printB n ls)) (hb : Below w.heap.size w w') : PrintEnd c ls w (.returned (.tuple #[v, .int .i64 0])) w' :=
  ⟨_, by unfold printE; rw [if_pos h], by unfold printQ; rw [if_pos h, hc]; exact ho, hb⟩
set_option maxHeartbeats 4000000 in
set_option maxRecDepth 100000 in
theorem rDigits (n : Nat) (w : World) (h1 : 200 ≤ n) (h2 : n ≤ 599) : Calls Tryd.prog 27 #[.int .i64 (n : Int)] w fun e w' => e = .returned (S (digs n)) ∧ Below w.heap.size w w' := by
  obtain ⟨D, hD⟩ : ∃ D, D = digs n := ⟨_, rfl⟩
  have d0 : (48 + (n : Int) / 100) = (((UInt8.ofNat (48 + n / 100)).toNat : Nat) : Int) := by rw [ofNat_dig _ (by omega)]; omega
  have d1 : (48 + (n : Int) / 10 % 10) = (((UInt8.ofNat (48 + n / 10 % 10)).toNat : Nat) : Int) := by rw [ofNat_dig _ (by omega)]; omega
  have d2 : (48 + (n : Int) % 10) = (((UInt8.ofNat (48 + n % 10)).toNat : Nat) : Int) := by rw [ofNat_dig _ (by omega)]; omega
  have hcv : (convert 27 9 (.slice (some ⟨w.heap.size, 0, none⟩) 3 3)).run Tryd.prog (w.alloc (.cells #[.int .u8 (48 + (n : Int) / 100), .int .u8 (48 + (n : Int) / 10 % 10), .int .u8 (48 + (n : Int) % 10)] 5)) = .ok (S D) (w.alloc (.cells #[.int .u8 (48 + (n : Int) / 100), .int .u8 (48 + (n : Int) / 10 % 10), .int .u8 (48 + (n : Int) % 10)] 5)) := by
    have := reads_lit w 5 #[.int .u8 (48 + (n : Int) / 100), .int .u8 (48 + (n : Int) / 10 % 10), .int .u8 (48 + (n : Int) % 10)] (digs n) 3 rfl (by rw [d0, d1, d2]; rfl) (0, 0)
    rw [hD]
    exact conv_reads this
  have HB : Hid (Below w.heap.size w (w.alloc (.cells #[.int .u8 (48 + (n : Int) / 100), .int .u8 (48 + (n : Int) / 10 % 10), .int .u8 (48 + (n : Int) % 10)] 5))) := Below.alloc1 w _
  rw [← hD]
  clear hD d0 d1 d2
  go_enter Tryd.func27, Tryd.ntmps27
  go_wp2
  go_ret
  exact ⟨rfl, HB.out⟩
end Go.Proofs.YthkabehojmncmaaDoor.Reply
