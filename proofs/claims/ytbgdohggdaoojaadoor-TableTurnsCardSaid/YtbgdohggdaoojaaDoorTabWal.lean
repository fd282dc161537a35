/-
  TABLE, the statement's own: a text is read as the document says: the walk.
-/
import Derived.Test.YtbgdohggdaoojaaDoorTabShn
namespace Go.Proofs.YtbgdohggdaoojaaDoor.Table
open Go.RowKit Base
/-- The queries, in their row. -/
def QS (w : World) (qa : Option Addr) (n : Nat) : Prop := ∀ k, k < n → ∃ gb o kk ll dd, qa = some ⟨gb, o, none⟩ ∧ w.cell? ⟨gb, o + k * 3, none⟩ = some (.string kk) ∧ w.cell? ⟨gb, o + k * 3 + 1, none⟩ = some (.string ll) ∧ w.cell? ⟨gb, o + k * 3 + 2, none⟩ = some (.string dd) ∧
  gb < w.heap.size ∧ kk.size ≤ 140737488355328 ∧ ll.size ≤ 140737488355328 ∧ dd.size ≤ 140737488355328
theorem cell_on {w w' : World} {gb o : Nat} {v : Value} (h : w.cell? ⟨gb, o, none⟩ = some v) (hg : gb < w.heap.size) (hb : Below w.heap.size w w') : w'.cell? ⟨gb, o, none⟩ = some v := by
  have := hb.block gb hg
  simp only [World.cell?] at h ⊢
  rw [this]; exact h
theorem QS.on {w w' : World} {qa : Option Addr} {n : Nat} (h : QS w qa n) (hb : Below w.heap.size w w') : QS w' qa n := fun k hk => by
  obtain ⟨gb, o, kk, ll, dd, h1, h2, h3, h4, h5, h6, h7, h8⟩ := h k hk
  exact ⟨gb, o, kk, ll, dd, h1, cell_on h2 h5 hb, cell_on h3 h5 hb, cell_on h4 h5 hb, Nat.lt_of_lt_of_le h5 hb.size, h6, h7, h8⟩
theorem rParseYes (s : ByteArray) (w : World) (h : (parseOf s.data.toList).2.1 = 0) :
    Calls Tryd.prog 7 #[.string s] w fun e w' => ∃ b, e = .returned (.tuple #[.pointer (some ⟨b, 0, none⟩), .agg #[.int .i64 0, .int .i64 0]]) ∧ TabAt 36 w' b (parseOf s.data.toList).1 ∧ Below w.heap.size w w' := by
  refine (rParse s w).mono fun e w' hh => ?_
  rcases hh with ⟨h1, ⟨h2, b, h3, h4⟩ | ⟨h2, _⟩⟩
  · exact ⟨b, h3, h4.at, h1⟩
  · exact absurd h h2
theorem rParseNo (s : ByteArray) (f : Nat × Nat) (w : World) (h : (parseOf s.data.toList).2 = f) (h0 : f.1 ≠ 0) :
    Calls Tryd.prog 7 #[.string s] w fun e w' => e = .returned (.tuple #[.pointer none, .agg #[.int .i64 (f.1 : Int), .int .i64 (f.2 : Int)]]) ∧ Below w.heap.size w w' := by
  refine (rParse s w).mono fun e w' hh => ?_
  rcases hh with ⟨h1, ⟨h2, _⟩ | ⟨h2, h3⟩⟩
  · rw [h] at h2; exact absurd h2 h0
  · rw [h] at h3; exact ⟨h3, h1⟩
set_option maxHeartbeats 8000000 in
set_option maxRecDepth 100000 in
theorem wParsesNo (s : ByteArray) (qa : Option Addr) (n qc : Nat) (w : World) (hm : MaxOk w) (hno : (parseOf s.data.toList).2.1 ≠ 0) :
    Calls Tryd.prog 3 #[.string s, .slice qa n qc] w fun e w' => e = .returned (.bool true) ∧ Below w.heap.size w w' := by
  obtain ⟨f, hf⟩ : ∃ f, (parseOf s.data.toList).2 = f := ⟨_, rfl⟩
  have h0 : f.1 ≠ 0 := by rw [← hf]; exact hno
  have HS := Lib.hid (pShown w hm)
  have HR : Hid (∀ w1, Calls Tryd.prog 7 #[.string s] w1 fun e w' => e = .returned (.tuple #[.pointer none, .agg #[.int .i64 (f.1 : Int), .int .i64 (f.2 : Int)]]) ∧ Below w1.heap.size w1 w') := fun w1 => rParseNo s f w1 hf h0
  have HP : Hid (∀ w1, Below w.heap.size w w1 → Calls Tryd.prog 8 #[.string s] w1 fun e w' => e = .returned (.tuple #[.pointer none, .agg #[.int .i64 (f.1 : Int), .int .i64 (f.2 : Int)]]) ∧ Below w1.heap.size w1 w') := fun w1 h => pParseNo s f w1 (hm.on h) hf h0
  clear hf hno h0 hm
  go_enter Tryd.func3, Tryd.ntmps3
  go_wp2_with (first | (go_at_call 6; refine HS.out.mono ?_; rintro e w1 ⟨rfl, hb1⟩; refine Hid.out ?_) | fail)
  refine Lib.hid ?_
  have HB1 := Lib.hid hb1
  clear hb1
  go_wp2_with (first | (go_at_call 7; refine (HR.out _).mono ?_; rintro e w2 ⟨rfl, hb2⟩; refine Hid.out ?_) | fail)
  refine Lib.hid ?_
  have HB2 := Lib.hid (HB1.out.trans (hb2.mono HB1.out.size))
  clear hb2
  have HB3 : Hid (Below w.heap.size w (w2.alloc (.cells #[.int .i64 (f.1 : Int), .int .i64 (f.2 : Int)] 27))) := HB2.out.trans ((Below.alloc1 w2 _).mono HB2.out.size)
  go_wp2_with (first | (go_at_call 8; refine (HP.out _ HB3.out).mono ?_; rintro e w4 ⟨rfl, hb4⟩; refine Hid.out ?_) | fail)
  refine Lib.hid ?_
  have HB4 := Lib.hid (HB3.out.trans (hb4.mono HB3.out.size))
  have HX : Hid (box27 w4 w2.heap.size f) := box27.on (w := w2.alloc (.cells #[.int .i64 (f.1 : Int), .int .i64 (f.2 : Int)] 27)) (by show (w2.heap.push _)[w2.heap.size]? = _; simp) hb4
  have HY : box27 (w4.alloc (.cells #[.int .i64 (f.1 : Int), .int .i64 (f.2 : Int)] 27)) w2.heap.size f := HX.out.on (Below.alloc1 _ _)
  have x0 : (w4.alloc (.cells #[.int .i64 (f.1 : Int), .int .i64 (f.2 : Int)] 27)).cell? ⟨w2.heap.size, 0, none⟩ = some (.int .i64 (f.1 : Int)) := cell_of_row _ _ 0 _ _ _ HY
  have x1 : (w4.alloc (.cells #[.int .i64 (f.1 : Int), .int .i64 (f.2 : Int)] 27)).cell? ⟨w2.heap.size, 1, none⟩ = some (.int .i64 (f.2 : Int)) := cell_of_row _ _ 1 _ _ _ HY
  clear hb4 HY HX
  go_wp2
  go_ret
  exact ⟨rfl, HB4.out.trans ((Below.alloc1 w4 _).mono HB4.out.size)⟩
end Go.Proofs.YtbgdohggdaoojaaDoor.Table
