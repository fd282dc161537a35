/-
  TABLE, the program: a piece is added to the value.
-/
import Derived.Test.YtbgdohggdaoojaaDoorTabPSt
namespace Go.Proofs.YtbgdohggdaoojaaDoor.Table
open Go.RowKit Base
theorem owns_one {w : World} {B : Nat} {v : Value} {l : List UInt8} {x : UInt8} {n : Nat} (h : w.ownsRow B 5 1 v n (Lib.byteCells l ++ [.int .u8 (x.toNat : Int)])) (hn : n = l.length + 1) : Owns w B v (l ++ [x]) := by
  unfold Owns
  rw [Lib.byteCells_append, List.length_append]
  subst hn
  exact h
theorem owns_str {w : World} {B : Nat} {v : Value} {l : List UInt8} {q : ByteArray} (h : w.ownsRow B 5 1 v (l.length + q.size) (Lib.byteCells l ++ Lib.byteCells q.data.toList)) : Owns w B v (l ++ q.data.toList) := by
  unfold Owns
  rw [List.length_append, Lib.byteCells_append, str_len]; exact h
set_option maxHeartbeats 4000000 in
set_option maxRecDepth 100000 in
theorem pAdd (B : Nat) (w : World) (rb mb : Nat) (E : List KV) (o : Bool) (s : Int) (key val : List UInt8) (piece : ByteArray) (h : RSt B w rb mb E o s key val) (hv : val.length ≤ 1000000) (hp : piece.size ≤ 1000000) :
    Calls Tryd.prog 31 #[.pointer (some ⟨rb, 0, none⟩), .string piece] w (UnitEnd B w rb mb E o s key (joinP val (trim piece.data.toList))) := by
  have HT := pTrim piece w (by omega)
  obtain ⟨q, hq⟩ : ∃ q : ByteArray, q.data.toList = trim piece.data.toList := ⟨⟨(trim piece.data.toList).toArray⟩, rfl⟩
  have hql : q.size ≤ 1000000 := by rw [← str_len, hq]; have := trim_len piece.data.toList; rw [str_len] at this; omega
  have HTR : Hid (Calls Tryd.prog 52 #[.string piece, .string ⟨#[32, 9]⟩] w fun e w' => e = .returned (.string q) ∧ Below w.heap.size w w') := by
    rw [← hq] at HT; exact HT
  rw [← hq]
  clear HT hq
  obtain ⟨i0, hi0, hz0, hz1, hz2⟩ := info_parts info5
  have H := Lib.hid h
  clear h
  by_cases h0 : val = []
  · subst h0
    have HJ : Hid (joinP [] q.data.toList = [] ++ q.data.toList) := rfl
    go_enter Tryd.func31, Tryd.ntmps31
    go_wp2_with (first | (go_at_call 52; (with_reducible refine HTR.out.mono ?_); rintro e w1 ⟨rfl, hb1⟩; refine Hid.out ?_) | fail)
    refine Lib.hid ?_
    obtain ⟨ev, vv, hx⟩ := H.out.on hb1
    have HST : Hid (PStep B w w1) := PStep.of_below hb1 (by obtain ⟨_, _, h9⟩ := H.out; exact h9.bge)
    obtain ⟨va, vc, rfl, hvc⟩ := row_form hx.val
    clear hb1
    obtain ⟨c0, c1, c2, c3, c4, c5, c6⟩ := hx.cells
    have HX := Lib.hid hx
    have f5 := c6 5
    clear hx c0 c1 c2 c3 c4 c6
    go_wp2_with (at_builtin; go_must (refine Lib.wpList_append_own_string _ rfl _ _ 70 9 rfl B 5 i0 Tryd.underlying70 Tryd.underlying9 hi0 hz0 hz1 hz2 _ _ _ rfl HX.out.val q rfl (by unfold maxLen; first | omega | (simp; omega)) (by first | omega | (simp; omega)) HX.out.bge ?_); intro v2 w2 o2 g2 a2; refine Hid.out ?_)
    refine Lib.hid ?_
    have ho2 := owns_str o2
    obtain ⟨va2, vc2, rfl, _⟩ := row_form ho2
    obtain ⟨r1, r2, r3, r4⟩ := HX.out.putVal g2 ho2
    have HF1 : RSt B _ rb mb E o s key (([] : List UInt8) ++ q.data.toList) := ⟨_, _, r1⟩
    have HF := Lib.hid (And.intro HF1 (HST.out.trans r2))
    clear HF1
    clear o2 g2 a2 ho2 r1 r2
    go_wp2
    go_end0
    exact ⟨rfl, by rw [HJ.out]; exact HF.out.1, HF.out.2⟩
  · have HJ : Hid (joinP val q.data.toList = (val ++ [32]) ++ q.data.toList) := by show _ = _; unfold joinP; rw [if_neg h0]
    have hvl : 0 < val.length := List.length_pos_iff.2 h0
    have i1 : (0 : Int) < (val.length : Int) := by omega
    clear h0
    go_enter Tryd.func31, Tryd.ntmps31
    go_wp2_with (first | (go_at_call 52; (with_reducible refine HTR.out.mono ?_); rintro e w1 ⟨rfl, hb1⟩; refine Hid.out ?_) | fail)
    refine Lib.hid ?_
    obtain ⟨ev, vv, hx⟩ := H.out.on hb1
    have HST0 : Hid (PStep B w w1) := PStep.of_below hb1 (by obtain ⟨_, _, h9⟩ := H.out; exact h9.bge)
    obtain ⟨va, vc, rfl, hvc⟩ := row_form hx.val
    clear hb1
    obtain ⟨c0, c1, c2, c3, c4, c5, c6⟩ := hx.cells
    have HX0 := Lib.hid (hx.on (Below.alloc1 w1 (.cells #[.int .u8 32] 5)))
    have HST1 : Hid (PStep B w (w1.alloc (.cells #[.int .u8 32] 5))) := HST0.out.trans (PStep.of_below (Below.alloc1 _ _) hx.bge)
    have f5 := c6 5
    clear hx c0 c1 c2 c3 c4 c6
    go_wp2_with (at_builtin; go_must (refine wpList_append_row _ rfl _ _ 70 rfl B 5 i0 (.int .u8 0) 1 Tryd.underlying70 hi0 hz0 hz1 hz2 rfl _ _ _ _ [.int .u8 32] rfl rfl HX0.out.val (vreads_one _ _ _) (fun u hu => by rw [List.mem_singleton.1 hu]; rfl) (by simp; omega) (by simp; omega) HX0.out.bge ?_); intro v3 w3 o3 g3 a3; refine Hid.out ?_)
    refine Lib.hid ?_
    have ho3 : Owns w3 B v3 (val ++ [32]) := owns_one o3 rfl
    obtain ⟨va3, vc3, rfl, _⟩ := row_form ho3
    obtain ⟨r1, r2, r3, r4⟩ := HX0.out.putVal g3 ho3
    have hx := r1
    have HST := Lib.hid (HST1.out.trans r2)
    have hvl3 : (val ++ [32]).length ≤ 1000001 := by simp; omega
    generalize val ++ [32] = vn at *
    clear o3 g3 a3 ho3 r1 r2 f5 c5
    obtain ⟨c0, c1, c2, c3, c4, c5, c6⟩ := hx.cells
    have HX := Lib.hid hx
    have f5 := c6 5
    clear hx c0 c1 c2 c3 c4 c6
    go_wp2_with (at_builtin; go_must (refine Lib.wpList_append_own_string _ rfl _ _ 70 9 rfl B 5 i0 Tryd.underlying70 Tryd.underlying9 hi0 hz0 hz1 hz2 _ _ _ rfl HX.out.val q rfl (by unfold maxLen; first | omega | (simp; omega)) (by first | omega | (simp; omega)) HX.out.bge ?_); intro v2 w2 o2 g2 a2; refine Hid.out ?_)
    refine Lib.hid ?_
    have ho2 := owns_str o2
    obtain ⟨va2, vc2, rfl, _⟩ := row_form o2
    obtain ⟨r1, r2, r3, r4⟩ := HX.out.putVal g2 ho2
    have HF1 : RSt B _ rb mb E o s key (vn ++ q.data.toList) := ⟨_, _, r1⟩
    have HF := Lib.hid (And.intro HF1 (HST.out.trans r2))
    clear HF1
    clear o2 g2 a2 ho2 r1 r2
    go_wp2
    go_end0
    exact ⟨rfl, by rw [HJ.out]; exact HF.out.1, HF.out.2⟩
end Go.Proofs.YtbgdohggdaoojaaDoor.Table
