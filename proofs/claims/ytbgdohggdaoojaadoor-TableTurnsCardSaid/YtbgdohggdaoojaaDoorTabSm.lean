/-
  TABLE, the statement's own: both tables answer a query the same.
-/
import Derived.Test.YtbgdohggdaoojaaDoorTabPar
import Derived.Test.YtbgdohggdaoojaaDoorTabIdx2
namespace Go.Proofs.YtbgdohggdaoojaaDoor.Table
open Go.RowKit Base
/-- The query's box. -/
structure QB (w w1 : World) (k l d : ByteArray) : Prop where
  it : w1.heap[w.heap.size]? = some (.cells #[.string k, .string l, .string d] 43 (0, 0))
  bel : Below w.heap.size w w1
theorem QB.start (w : World) (k l d : ByteArray) : QB w (w.alloc (.cells #[.string k, .string l, .string d] 43)) k l d := ⟨by show (w.heap.push _)[w.heap.size]? = _; simp, Below.alloc1 _ _⟩
theorem QB.on {w w1 w2 : World} {k l d : ByteArray} (h : QB w w1 k l d) (hb : Below w1.heap.size w1 w2) : QB w w2 k l d :=
  have hlt := heap_lt h.it
  ⟨(hb.block _ hlt).trans h.it, h.bel.trans (hb.mono (Nat.le_of_lt hlt))⟩
theorem QB.cells {w w1 : World} {k l d : ByteArray} (h : QB w w1 k l d) : w1.cell? ⟨w.heap.size, 0, none⟩ = some (.string k) ∧ w1.cell? ⟨w.heap.size, 1, none⟩ = some (.string l) ∧ w1.cell? ⟨w.heap.size, 2, none⟩ = some (.string d) := by
  have := h.it
  refine ⟨?_, ?_, ?_⟩ <;> simp [World.cell?, this]
set_option maxHeartbeats 4000000 in
set_option maxRecDepth 100000 in
theorem pSame (b c : Nat) (T : List KV) (k l d : ByteArray) (w : World) (hp : Asks 21 b T w) (hr : Asks 34 c T w) (hk : k.size ≤ 140737488355328) (hl : l.size ≤ 140737488355328) (hd : d.size ≤ 140737488355328) :
    Calls Tryd.prog 11 #[.pointer (some ⟨b, 0, none⟩), .pointer (some ⟨c, 0, none⟩), .agg #[.string k, .string l, .string d]] w fun e w' => e = .returned (.bool true) ∧ Below w.heap.size w w' := by
  have asks_on : ∀ {f : FuncId} {g : Nat} {w1 : World}, Asks f g T w → Below w.heap.size w w1 → Asks f g T w1 := fun h hb w2 key hb2 => h w2 key (hb.trans (hb2.mono hb.size))
  obtain ⟨x, hx⟩ : ∃ x, x = exactA T k.data.toList := ⟨_, rfl⟩
  obtain ⟨y, hy⟩ : ∃ y, y = addrA T l.data.toList d.data.toList := ⟨_, rfl⟩
  obtain ⟨z, hz⟩ : ∃ z, z = domA T d.data.toList := ⟨_, rfl⟩
  have H1 : Hid (∀ w1, Below w.heap.size w w1 → Calls Tryd.prog 21 #[.pointer (some ⟨b, 0, none⟩), .string k] w1 fun e w' => e = .returned (.tuple #[S x.1, .bool x.2]) ∧ Below w1.heap.size w1 w') := fun w1 h => by rw [hx]; exact hp w1 k h (by omega)
  have H2 : Hid (∀ w1, Below w.heap.size w w1 → Calls Tryd.prog 34 #[.pointer (some ⟨c, 0, none⟩), .string k] w1 fun e w' => e = .returned (.tuple #[S x.1, .bool x.2]) ∧ Below w1.heap.size w1 w') := fun w1 h => by rw [hx]; exact hr w1 k h (by omega)
  have H3 : Hid (∀ w1, Below w.heap.size w w1 → Calls Tryd.prog 20 #[.pointer (some ⟨b, 0, none⟩), .string l, .string d] w1 fun e w' => e = .returned (.tuple #[S y.1, .bool y.2]) ∧ Below w1.heap.size w1 w') := fun w1 h => by rw [hy]; exact pAddress b T l d w1 (asks_on hp h) hl hd
  have H4 : Hid (∀ w1, Below w.heap.size w w1 → Calls Tryd.prog 35 #[.pointer (some ⟨c, 0, none⟩), .string l, .string d] w1 fun e w' => e = .returned (.tuple #[S y.1, .bool y.2]) ∧ Below w1.heap.size w1 w') := fun w1 h => by rw [hy]; exact rAddress c T l d w1 (asks_on hr h) hl hd
  have H5 : Hid (∀ w1, Below w.heap.size w w1 → Calls Tryd.prog 19 #[.pointer (some ⟨b, 0, none⟩), .string d] w1 fun e w' => e = .returned (.tuple #[S z.1, .bool z.2]) ∧ Below w1.heap.size w1 w') := fun w1 h => by rw [hz]; exact pDomain b T d w1 (asks_on hp h) hd
  have H6 : Hid (∀ w1, Below w.heap.size w w1 → Calls Tryd.prog 36 #[.pointer (some ⟨c, 0, none⟩), .string d] w1 fun e w' => e = .returned (.tuple #[S z.1, .bool z.2]) ∧ Below w1.heap.size w1 w') := fun w1 h => by rw [hz]; exact rDomain c T d w1 (asks_on hr h) hd
  clear hp hr hk hl hd hx hy hz asks_on
  have Q0 := Lib.hid (QB.start w k l d)
  obtain ⟨c0, c1, c2⟩ := Q0.out.cells
  go_enter Tryd.func11, Tryd.ntmps11
  go_wp2_with (first | (go_at_call 21; refine (H1.out _ Q0.out.bel).mono ?_; rintro e w1 ⟨rfl, hb1⟩; refine Hid.out ?_) | fail)
  refine Lib.hid ?_
  have Q1 := Lib.hid (Q0.out.on hb1)
  clear hb1 c0 c1 c2 Q0
  obtain ⟨c0, c1, c2⟩ := Q1.out.cells
  go_wp2_with (first | (go_at_call 34; refine (H2.out _ Q1.out.bel).mono ?_; rintro e w2 ⟨rfl, hb1⟩; refine Hid.out ?_) | fail)
  refine Lib.hid ?_
  have Q2 := Lib.hid (Q1.out.on hb1)
  clear hb1 c0 c1 c2 Q1
  obtain ⟨c0, c1, c2⟩ := Q2.out.cells
  go_wp2_with (first | (go_at_call 20; refine (H3.out _ Q2.out.bel).mono ?_; rintro e w3 ⟨rfl, hb1⟩; refine Hid.out ?_) | fail)
  refine Lib.hid ?_
  have Q3 := Lib.hid (Q2.out.on hb1)
  clear hb1 c0 c1 c2 Q2
  obtain ⟨c0, c1, c2⟩ := Q3.out.cells
  go_wp2_with (first | (go_at_call 35; refine (H4.out _ Q3.out.bel).mono ?_; rintro e w4 ⟨rfl, hb1⟩; refine Hid.out ?_) | fail)
  refine Lib.hid ?_
  have Q4 := Lib.hid (Q3.out.on hb1)
  clear hb1 c0 c1 c2 Q3
  obtain ⟨c0, c1, c2⟩ := Q4.out.cells
  go_wp2_with (first | (go_at_call 19; refine (H5.out _ Q4.out.bel).mono ?_; rintro e w5 ⟨rfl, hb1⟩; refine Hid.out ?_) | fail)
  refine Lib.hid ?_
  have Q5 := Lib.hid (Q4.out.on hb1)
  clear hb1 c0 c1 c2 Q4
  obtain ⟨c0, c1, c2⟩ := Q5.out.cells
  go_wp2_with (first | (go_at_call 36; refine (H6.out _ Q5.out.bel).mono ?_; rintro e w6 ⟨rfl, hb1⟩; refine Hid.out ?_) | fail)
  refine Lib.hid ?_
  have Q6 := Lib.hid (Q5.out.on hb1)
  clear hb1 c0 c1 c2 Q5
  go_wp2
  go_ret
  exact ⟨rfl, Q6.out.bel⟩
end Go.Proofs.YtbgdohggdaoojaaDoor.Table
