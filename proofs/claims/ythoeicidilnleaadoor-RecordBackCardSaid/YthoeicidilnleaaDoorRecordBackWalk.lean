/-
  RECORD: RecordBack returns true at every argument and leaves what was there.
-/
import Derived.Test.YthoeicidilnleaaDoorRecordCopyOwn
import Derived.Test.YthoeicidilnleaaDoorRecordTornWalk
namespace Go.Proofs.YthoeicidilnleaaDoor.Codec
open Go.RowKit

set_option maxHeartbeats 2000000 in
set_option maxRecDepth 100000 in
theorem back_no (v : Value) (m : Msg) (i y : Int) (w : World) (hf : Fits m) (hm : MR w v m) (htab : Tab w.heap.size w) (h : rightOf m ≠ 0) :
    Calls Tryd.prog 5 #[v, .int .i64 i, .int .u8 y] w fun e w' => e = .returned (.bool true) ∧ Below w.heap.size w w' := by
  have S0 := Lib.hid (fun w h => shown_any w h)
  have KX := Lib.hid (fun w h => cEncode_no v m w hf h (by assumption))
  have HT := Lib.hid htab
  generalize rightOf m = z at *
  clear hf htab
  obtain ⟨A, c, D, e, rfl, hrr, hd⟩ := hm
  have hm0 : MR w (msgV m A c D e) m := ⟨A, c, D, e, rfl, hrr, hd⟩
  unfold msgV at *
  clear hrr hd
  obtain ⟨w0, hw0⟩ : ∃ w0, w0 = w.alloc (.cells #[.int .i64 m.time, .string m.sender, .slice A m.rcpts.length c, .slice D m.data.length e] 25) := ⟨_, rfl⟩
  have hb0 : Below w.heap.size w w0 := by rw [hw0]; exact Below.alloc1 _ _
  have bm0 : BoxAt w0 w.heap.size m.time m.sender (.slice A m.rcpts.length c) (.slice D m.data.length e) := by rw [hw0]; exact BoxAt.new ..
  have HW := Lib.hid hw0
  clear hw0
  go_enter Tryd.func5, Tryd.ntmps5
  go_wp2_with (go_at_call 7; refine (S0.out _ (HT.out.on (Below.alloc1 _ _) |>.up (by simp))).mono ?_; rintro ee w1 ⟨rfl, b1⟩; refine Hid.out ?_)
  refine Lib.hid ?_
  rw [← HW.out] at b1
  have bm1 := bm0.on b1 bm0.msg
  have bw1 := hb0.trans (b1.mono hb0.size)
  have hm1 := hm0.on bw1
  obtain ⟨p0, p1, p2, p3⟩ := bm1
  go_wp2_with (go_at_call 10; refine (KX.out _ hm1).mono ?_; rintro ee w5 ⟨v5, rfl, o5, b5⟩; refine Hid.out ?_)
  refine Lib.hid ?_
  obtain ⟨A5, c5, rfl⟩ := o5.reads.form
  clear o5
  go_wp2
  go_ret
  exact ⟨rfl, bw1.trans (b5.mono bw1.size)⟩

theorem flatR_set {rs : List Rc} : ∀ {i : Nat} (x : UInt8), i < rs.length → flatR (rs.set i ((rs.getD i rc0).1, x)) = (flatR rs).set (i * 2 + 1) (.int .u8 (x.toNat : Int)) := by
  induction rs with
  | nil => intro i x h; simp at h
  | cons r t ih =>
    intro i x h
    cases i with
    | zero => simp [flatR]
    | succ i =>
      have := ih (i := i) x (by simpa using h)
      rw [show (i + 1) * 2 + 1 = (i * 2 + 1) + 1 + 1 by omega]
      simp only [flatR, List.set_cons_succ, List.flatMap_cons, List.getD_cons_succ, List.cons_append, List.nil_append] at this ⊢
      rw [this]

set_option maxHeartbeats 2000000 in
set_option maxRecDepth 100000 in
theorem back_idle (v : Value) (m : Msg) (i y : Int) (w : World) (hf : Fits m) (hm : MR w v m) (htab : Tab w.heap.size w) (hr : rightOf m = 0) (h : ¬ (0 ≤ i ∧ i < m.rcpts.length) ∨ (0 ≤ i ∧ i < m.rcpts.length) ∧ y ≠ 80 ∧ y ≠ 68 ∧ y ≠ 66 ∧ y ≠ 88) :
    Calls Tryd.prog 5 #[v, .int .i64 i, .int .u8 y] w fun e w' => e = .returned (.bool true) ∧ Below w.heap.size w w' := by
  have S0 := Lib.hid (fun w h => shown_any w h)
  obtain ⟨hv, _, hfm⟩ := valid_of hr
  obtain ⟨X, hX⟩ : ∃ X, X = bytesOf m := ⟨_, rfl⟩
  have KX : Hid (∀ w, MR w v m → Tab w.heap.size w → Calls Tryd.prog 10 #[v] w (OwnEnd X 0 w)) := fun w h ht => by rw [hX]; exact cEncode_yes v m w hf h hr ht
  have hX1 : X.length ≤ 1300000 := by
    have := bodyOf_len hv false
    have hx : ∀ n, (hexOf n).length = 8 := fun _ => rfl
    rw [hX]; unfold bytesOf; simp only [List.length_append, List.length_cons, List.length_nil, hx]; omega
  have hX0 : 0 < X.length := by rw [hX]; unfold bytesOf; simp only [List.length_append, List.length_cons, List.length_nil]; omega
  have K1 : Hid (∀ v w, Reads w v X → Old w.heap.size v → Calls Tryd.prog 17 #[v] w fun e w' => ∃ A3 q3 b3 d3 c3, e = .returned (.tuple #[.agg #[.int .i64 m.time, .string m.sender, .slice A3 m.rcpts.length q3, .slice (some ⟨b3, 0, none⟩) d3 c3], .int .i64 0]) ∧ Got w' w.heap.size (.agg #[.int .i64 m.time, .string m.sender, .slice A3 m.rcpts.length q3, .slice (some ⟨b3, 0, none⟩) d3 c3]) m ∧ Below w.heap.size w w') := fun v w h ho => by
    refine (cDecode v _ w h ho (by omega)).mono fun e w' ⟨⟨V, h1, h2, _⟩, h4⟩ => ?_
    have hd : decodeF X = (m, 0) := by rw [hX]; exact decode_back hv hfm
    rw [hd] at h1 h2
    have h2 := h2 rfl
    obtain ⟨RV, b, cap, S, rfl, hr, hd, hc, hb, hB⟩ := h2
    obtain ⟨A, q, rfl⟩ := hr.form'
    exact ⟨A, q, b, S.size, cap, h1, ⟨_, b, cap, S, rfl, hr, hd, hc, hb, hB⟩, h4⟩
  have KS := Lib.hid (fun va vb w h1 h2 => rSame va vb m w hf h1 h2)
  have KP := Lib.hid (fun V B w hB h => cSpoil V m B w hB hf h)
  have KM := Lib.hid (fun w h ht => cMarkAt_yes v m i w hf h hr ht)
  have HT := Lib.hid htab
  clear hf htab hr hv hfm hX
  obtain ⟨A, c, D, e, rfl, hrr, hd⟩ := hm
  have hm0 : MR w (msgV m A c D e) m := ⟨A, c, D, e, rfl, hrr, hd⟩
  unfold msgV at *
  clear hrr hd
  obtain ⟨w0, hw0⟩ : ∃ w0, w0 = w.alloc (.cells #[.int .i64 m.time, .string m.sender, .slice A m.rcpts.length c, .slice D m.data.length e] 25) := ⟨_, rfl⟩
  have hb0 : Below w.heap.size w w0 := by rw [hw0]; exact Below.alloc1 _ _
  have bm0 : BoxAt w0 w.heap.size m.time m.sender (.slice A m.rcpts.length c) (.slice D m.data.length e) := by rw [hw0]; exact BoxAt.new ..
  have HW := Lib.hid hw0
  clear hw0
  go_enter Tryd.func5, Tryd.ntmps5
  go_wp2_with (go_at_call 7; refine (S0.out _ (HT.out.on (Below.alloc1 _ _) |>.up (by simp))).mono ?_; rintro ee w1 ⟨rfl, b1⟩; refine Hid.out ?_)
  refine Lib.hid ?_
  rw [← HW.out] at b1
  have bm1 := bm0.on b1 bm0.msg
  have bw1 := hb0.trans (b1.mono hb0.size)
  have hm1 := hm0.on bw1
  have BM1 := Lib.hid bm1
  obtain ⟨p0, p1, p2, p3⟩ := bm1
  clear bm0
  go_wp2_with (go_at_call 10; refine (KX.out _ hm1 (HT.out.on bw1 |>.up bw1.size)).mono ?_; rintro ee w2 ⟨v2, rfl, o2, b2⟩; refine Hid.out ?_)
  refine Lib.hid ?_
  have bm2 := BM1.out.on b2 BM1.out.msg
  have bw2 := bw1.trans (b2.mono bw1.size)
  clear p0 p1 p2 p3 hm1
  obtain ⟨g2, c2, rfl, hc2, hd2⟩ := o2.form2 (by omega)
  obtain ⟨_, _, he, hg1, hg2⟩ := o2.form (by omega)
  obtain ⟨rfl, rfl⟩ : g2 = _ ∧ c2 = _ := by injection he with h1 _ h3; injection h1 with h1; injection h1 with h1; exact ⟨h1, h3⟩
  have R2 := Lib.hid o2.reads
  go_wp2_with (go_at_call 17; refine (K1.out _ _ R2.out (o2.old _ _)).mono ?_; rintro ee w3 ⟨A3, q3, b3, d3, c3, rfl, got3, k3⟩; refine Hid.out ?_)
  refine Lib.hid ?_
  have bm3 := bm2.on k3 bm2.msg
  have BM3 := Lib.hid bm3
  have G3 := Lib.hid got3
  have s3 := k3.size
  have bw3 := bw2.trans (k3.mono bw2.size)
  clear bm3 got3
  obtain ⟨V3, hV3⟩ : ∃ V3, V3 = Value.agg #[.int .i64 m.time, .string m.sender, .slice A3 m.rcpts.length q3, .slice (some ⟨b3, 0, none⟩) d3 c3] := ⟨_, rfl⟩
  have q4 : Below w3.heap.size w3 (w3.alloc (.cells #[.int .i64 m.time, .string m.sender, .slice A3 m.rcpts.length q3, .slice (some ⟨b3, 0, none⟩) d3 c3] 25)) := Below.alloc1 _ _
  have bm4 := BM3.out.on q4 (Nat.lt_of_lt_of_le BM1.out.msg (Nat.le_trans b2.size s3))
  have bx4 : BoxAt (w3.alloc (.cells #[.int .i64 m.time, .string m.sender, .slice A3 m.rcpts.length q3, .slice (some ⟨b3, 0, none⟩) d3 c3] 25)) w3.heap.size m.time m.sender (.slice A3 m.rcpts.length q3) (.slice (some ⟨b3, 0, none⟩) d3 c3) := BoxAt.new ..
  have MX := Lib.hid (G3.out.on q4).mr
  have MM := Lib.hid (hm0.on (bw3.trans (q4.mono bw3.size)))
  have Q4 := Lib.hid q4
  have BM4 := Lib.hid bm4
  have BX4 := Lib.hid bx4
  obtain ⟨p0, p1, p2, p3⟩ := bm4
  clear q4 bx4 hV3
  go_wp2_with (go_at_call 14; refine (KS.out _ _ _ MX.out MM.out).mono ?_; rintro ee w5 ⟨rfl, k5⟩; refine Hid.out ?_)
  refine Lib.hid ?_
  have s5 := k5.size
  have q5 : Below w3.heap.size w3 w5 := Q4.out.trans (k5.mono Q4.out.size)
  have g5 := G3.out.on q5
  have G5 := Lib.hid g5
  have BM5 := Lib.hid (BM4.out.on k5 (Nat.lt_of_lt_of_le BM1.out.msg (Nat.le_trans b2.size (Nat.le_trans s3 Q4.out.size))))
  have BX5 := Lib.hid (BX4.out.on k5 (by simp))
  clear p0 p1 p2 p3 g5
  obtain ⟨p0, p1, p2, p3⟩ := BX5.out
  go_wp2_with (go_at_call 18; refine (KP.out _ w2.heap.size _ (Nat.le_trans s3 q5.size) G5.out).mono ?_; rintro ee w6 ⟨⟨r6, rfl⟩, k6⟩; refine Hid.out ?_)
  refine Lib.hid ?_
  have q6 : Below w2.heap.size w2 w6 := (k3.trans (q5.mono s3)).trans k6
  have s6 := q6.size
  have bm6 := bm2.on q6 (Nat.lt_of_lt_of_le BM1.out.msg b2.size)
  have BM6 := Lib.hid bm6
  have bw6 := bw2.trans (q6.mono bw2.size)
  have m6 := Lib.hid (hm0.on bw6)
  have T6 := Lib.hid ((HT.out.on bw6).up bw6.size)
  clear p0 p1 p2 p3 BX5 BM5
  obtain ⟨p0, p1, p2, p3⟩ := bm6
  rcases h with h | ⟨h, h1, h2, h3, h4⟩
  · rw [if_neg h] at KM
    go_wp2_with (go_at_call 12; refine (KM.out _ m6.out T6.out).mono ?_; rintro ee w7 ⟨rfl, k7⟩; refine Hid.out ?_)
    refine Lib.hid ?_
    go_wp2
    go_ret
    exact ⟨rfl, bw6.trans (k7.mono bw6.size)⟩
  · rw [if_pos h] at KM
    have y1 : (y == 80) = false := by simpa using h1
    have y2 : (y == 68) = false := by simpa using h2
    have y3 : (y == 66) = false := by simpa using h3
    have y4 : (y == 88) = false := by simpa using h4
    have z1 : (y != 80) = true := by simpa using h1
    have z2 : (y != 68) = true := by simpa using h2
    have z3 : (y != 66) = true := by simpa using h3
    have z4 : (y != 88) = true := by simpa using h4
    clear h1 h2 h3 h4 h
    go_wp2_with (go_at_call 12; refine (KM.out _ m6.out T6.out).mono ?_; rintro ee w7 ⟨rfl, k7⟩; refine Hid.out ?_)
    refine Lib.hid ?_
    go_wp2
    go_ret
    exact ⟨rfl, bw6.trans (k7.mono bw6.size)⟩

theorem want_marked (m : Msg) (j : Nat) (x : UInt8) (y : Int) (hy : y = (x.toNat : Int)) (hj : j < m.rcpts.length) (wy : World) (A10 : Option Addr) (q10 : Nat) (A11 : Option Addr) (q11 : Nat) (w10 : World)
    (ho : ORow w10 wy.heap.size (.slice A10 m.rcpts.length q10) m.rcpts.length (flatR m.rcpts)) (hw : Owns w10 wy.heap.size (.slice A11 m.data.length q11) m.data) (hb : Below wy.heap.size wy w10) :
    ∃ g, A10 = some ⟨g, 0, none⟩ ∧ g < w10.heap.size ∧
      Hid ((w10.alloc (.cells #[.int .i64 m.time, .string m.sender, .slice A10 m.rcpts.length q10, .slice A11 m.data.length q11] 25)).frozen? ⟨g, j * 2 + 1, none⟩ = false) ∧
      Hid (∃ u, (w10.alloc (.cells #[.int .i64 m.time, .string m.sender, .slice A10 m.rcpts.length q10, .slice A11 m.data.length q11] 25)).cell? ⟨g, j * 2 + 1, none⟩ = some u) ∧
      Hid (BoxAt (w10.alloc (.cells #[.int .i64 m.time, .string m.sender, .slice A10 m.rcpts.length q10, .slice A11 m.data.length q11] 25)) w10.heap.size m.time m.sender (.slice A10 m.rcpts.length q10) (.slice A11 m.data.length q11)) ∧
      Hid (BoxAt ((w10.alloc (.cells #[.int .i64 m.time, .string m.sender, .slice A10 m.rcpts.length q10, .slice A11 m.data.length q11] 25)).setCell ⟨g, j * 2 + 1, none⟩ (.int .u8 y)) w10.heap.size m.time m.sender (.slice A10 m.rcpts.length q10) (.slice A11 m.data.length q11)) ∧
      Hid (MR ((w10.alloc (.cells #[.int .i64 m.time, .string m.sender, .slice A10 m.rcpts.length q10, .slice A11 m.data.length q11] 25)).setCell ⟨g, j * 2 + 1, none⟩ (.int .u8 y)) (.agg #[.int .i64 m.time, .string m.sender, .slice A10 m.rcpts.length q10, .slice A11 m.data.length q11]) (turnedM m j x)) ∧
      Hid (Below wy.heap.size wy ((w10.alloc (.cells #[.int .i64 m.time, .string m.sender, .slice A10 m.rcpts.length q10, .slice A11 m.data.length q11] 25)).setCell ⟨g, j * 2 + 1, none⟩ (.int .u8 y))) := by
  have a1 : Below w10.heap.size w10 (w10.alloc (.cells #[.int .i64 m.time, .string m.sender, .slice A10 m.rcpts.length q10, .slice A11 m.data.length q11] 25)) := Below.alloc1 _ _
  have bx : BoxAt (w10.alloc (.cells #[.int .i64 m.time, .string m.sender, .slice A10 m.rcpts.length q10, .slice A11 m.data.length q11] 25)) w10.heap.size m.time m.sender (.slice A10 m.rcpts.length q10) (.slice A11 m.data.length q11) := BoxAt.new ..
  have o1 := ho.on a1
  have d1 := hw.on a1
  have b1 := hb.trans (a1.mono hb.size)
  have hlen : (flatR m.rcpts).length = m.rcpts.length * 2 := flatR_len _
  obtain ⟨g, rfl, hg1, hg2⟩ : ∃ g, A10 = some ⟨g, 0, none⟩ ∧ wy.heap.size ≤ g ∧ g < w10.heap.size := by
    rcases ho.2 with ⟨_, h0⟩ | ⟨g, cap, cur, he, h1, h2, _⟩
    · omega
    · simp only [Value.slice.injEq, true_and] at he
      exact ⟨g, he.1, h1, heap_lt h2⟩
  obtain ⟨cur, hcur⟩ : ∃ cur fz, (w10.alloc (.cells #[.int .i64 m.time, .string m.sender, .slice (some ⟨g, 0, none⟩) m.rcpts.length q10, .slice A11 m.data.length q11] 25)).heap[g]? = some (.cells cur 41 fz) := by
    rcases o1.2 with ⟨_, h0⟩ | ⟨g', cap, cur, he, h1, h2, _⟩
    · omega
    · simp only [Value.slice.injEq, Option.some.injEq, Addr.mk.injEq, and_true, true_and] at he
      have e1 := he.1
      rw [← e1] at h2; exact ⟨cur, _, h2⟩
  obtain ⟨fz, hcur⟩ := hcur
  have o2 := (World.ownsRow.stored o1 (j * 2 + 1) (.int .u8 y)).1
  have d2 : Owns ((w10.alloc (.cells #[.int .i64 m.time, .string m.sender, .slice (some ⟨g, 0, none⟩) m.rcpts.length q10, .slice A11 m.data.length q11] 25)).setCell ⟨g, j * 2 + 1, none⟩ (.int .u8 y)) wy.heap.size (.slice A11 m.data.length q11) m.data := ownsRow_setCell_other d1 (d1.apart hcur (by decide)) _
  refine ⟨g, rfl, hg2, World.ownsRow.frozenAt o1 _, ?_, bx, bx.set (by omega) _ _, ?_, b1.setCell hg1 _⟩
  · refine ⟨(flatR m.rcpts)[j * 2 + 1]'(by omega), ?_⟩
    rw [World.ownsRow.cellAt o1 (j * 2 + 1) (by omega)]; exact List.getElem?_eq_getElem (by omega)
  · rw [hy, ← flatR_set x hj] at o2
    have hl : (turnedM m j x).rcpts.length = m.rcpts.length := by simp [turnedM]
    refine ⟨some ⟨g, 0, none⟩, q10, A11, q11, ?_, ?_, ?_⟩
    · unfold msgV; rw [hl]; rfl
    · rw [← hy] at o2; exact ORow.rr' o2 hl
    · exact d2.reads

set_option maxHeartbeats 2000000 in
set_option maxRecDepth 100000 in
theorem back_main (v : Value) (m : Msg) (j : Nat) (x : UInt8) (w : World) (hf : Fits m) (h24 : m.rcpts.length * 24 ≤ 140737488351232) (hm : MR w v m) (htab : Tab w.heap.size w) (hr : rightOf m = 0) (hj : j < m.rcpts.length) (hx : markB x = true) :
    Calls Tryd.prog 5 #[v, .int .i64 j, .int .u8 (x.toNat : Int)] w fun e w' => e = .returned (.bool true) ∧ Below w.heap.size w w' := by
  obtain ⟨i, hi⟩ : ∃ i : Int, i = (j : Int) := ⟨_, rfl⟩
  obtain ⟨y, hy⟩ : ∃ y : Int, y = (x.toNat : Int) := ⟨_, rfl⟩
  rw [← hi, ← hy]
  have S0 := Lib.hid (fun w h => shown_any w h)
  obtain ⟨hv, _, hfm⟩ := valid_of hr
  obtain ⟨X, hX⟩ : ∃ X, X = bytesOf m := ⟨_, rfl⟩
  have KX : Hid (∀ w, MR w v m → Tab w.heap.size w → Calls Tryd.prog 10 #[v] w (OwnEnd X 0 w)) := fun w h ht => by rw [hX]; exact cEncode_yes v m w hf h hr ht
  have hX1 : X.length ≤ 1300000 := by
    have := bodyOf_len hv false
    have hx : ∀ n, (hexOf n).length = 8 := fun _ => rfl
    rw [hX]; unfold bytesOf; simp only [List.length_append, List.length_cons, List.length_nil, hx]; omega
  have hX0 : 0 < X.length := by rw [hX]; unfold bytesOf; simp only [List.length_append, List.length_cons, List.length_nil]; omega
  have K1 : Hid (∀ v w, Reads w v X → Old w.heap.size v → Calls Tryd.prog 17 #[v] w fun e w' => ∃ A3 q3 b3 d3 c3, e = .returned (.tuple #[.agg #[.int .i64 m.time, .string m.sender, .slice A3 m.rcpts.length q3, .slice (some ⟨b3, 0, none⟩) d3 c3], .int .i64 0]) ∧ Got w' w.heap.size (.agg #[.int .i64 m.time, .string m.sender, .slice A3 m.rcpts.length q3, .slice (some ⟨b3, 0, none⟩) d3 c3]) m ∧ Below w.heap.size w w') := fun v w h ho => by
    refine (cDecode v _ w h ho (by omega)).mono fun e w' ⟨⟨V, h1, h2, _⟩, h4⟩ => ?_
    have hd : decodeF X = (m, 0) := by rw [hX]; exact decode_back hv hfm
    rw [hd] at h1 h2
    have h2 := h2 rfl
    obtain ⟨RV, b, cap, S, rfl, hr, hd, hc, hb, hB⟩ := h2
    obtain ⟨A, q, rfl⟩ := hr.form'
    exact ⟨A, q, b, S.size, cap, h1, ⟨_, b, cap, S, rfl, hr, hd, hc, hb, hB⟩, h4⟩
  have KS := Lib.hid (fun va vb w h1 h2 => rSame va vb m w hf h1 h2)
  have KP := Lib.hid (fun V B w hB h => cSpoil V m B w hB hf h)
  have KM := Lib.hid (fun w h ht => cMarkAt_yes v m i w hf h hr ht)
  obtain ⟨k, hk⟩ : ∃ k, k = markAt m j := ⟨_, rfl⟩
  have hkl : k < X.length := by
    rw [hk, hX, bytesOf_split]
    have e1 := congrArg (rcsBytes true) (split_rcs hj)
    have e2 : (rcsBytes true m.rcpts).length = (rcsBytes true (m.rcpts.take j)).length + (2 + (textBytes (m.rcpts.getD j rc0).1.data.toList).length) + (rcsBytes true (m.rcpts.drop (j + 1))).length := by
      rw [e1]; simp only [rcsBytes, List.flatMap_append, List.flatMap_cons, List.length_append, rcBytes, List.length_cons]; omega
    simp only [List.length_append, rcsBytes_len false true]
    unfold markAt
    omega
  rw [if_pos (by omega), show i.toNat = j by omega, ← hk] at KM
  have K3 : Hid (∀ v w, Reads w v (X.set k x) → Old w.heap.size v → Calls Tryd.prog 17 #[v] w fun e w' => ∃ A3 q3 b3 d3 c3, e = .returned (.tuple #[.agg #[.int .i64 m.time, .string m.sender, .slice A3 m.rcpts.length q3, .slice (some ⟨b3, 0, none⟩) d3 c3], .int .i64 0]) ∧ Got w' w.heap.size (.agg #[.int .i64 m.time, .string m.sender, .slice A3 m.rcpts.length q3, .slice (some ⟨b3, 0, none⟩) d3 c3]) (turnedM m j x) ∧ Below w.heap.size w w') := fun v w h ho => by
    refine (cDecode v _ w h ho (by rw [List.length_set]; omega)).mono fun e w' ⟨⟨V, h1, h2, _⟩, h4⟩ => ?_
    have hd : decodeF (X.set k x) = (turnedM m j x, 0) := by rw [hX, hk]; exact decode_marked hj hx hv hfm
    rw [hd] at h1 h2
    have h2 := h2 rfl
    obtain ⟨RV, b, cap, S, rfl, hr, hd, hc, hb, hB⟩ := h2
    have hl : (turnedM m j x).rcpts.length = m.rcpts.length := by simp [turnedM]
    obtain ⟨A, q, rfl⟩ := hr.form'
    rw [hl] at h1 hr
    exact ⟨A, q, b, S.size, cap, h1, ⟨_, b, cap, S, rfl, by rw [hl]; exact hr, hd, hc, hb, hB⟩, h4⟩
  have KC := Lib.hid (fun w h => rCopyOwn v m w hf h24 h)
  have KT := Lib.hid (fun va vb w h1 h2 => rSame va vb (turnedM m j x) w (turned_fits hj hf) h1 h2)
  have HFL := Lib.hid (flatR_set x hj)
  have HY := Lib.hid hy
  have HI := Lib.hid hi
  have yy : y = 80 ∨ y = 68 ∨ y = 66 ∨ y = 88 := by
    rwa [mark_vals x y hy, decide_eq_true_eq] at hx
  have KW := Lib.hid (fun wy A10 q10 A11 q11 w10 ho hw hb => want_marked m j x y hy hj wy A10 q10 A11 q11 w10 ho hw hb)
  clear hk hy hx h24
  have HT := Lib.hid htab
  clear hf htab hr hv hfm hX
  obtain ⟨A, c, D, e, rfl, hrr, hd⟩ := hm
  have hm0 : MR w (msgV m A c D e) m := ⟨A, c, D, e, rfl, hrr, hd⟩
  unfold msgV at *
  clear hrr hd
  obtain ⟨w0, hw0⟩ : ∃ w0, w0 = w.alloc (.cells #[.int .i64 m.time, .string m.sender, .slice A m.rcpts.length c, .slice D m.data.length e] 25) := ⟨_, rfl⟩
  have hb0 : Below w.heap.size w w0 := by rw [hw0]; exact Below.alloc1 _ _
  have bm0 : BoxAt w0 w.heap.size m.time m.sender (.slice A m.rcpts.length c) (.slice D m.data.length e) := by rw [hw0]; exact BoxAt.new ..
  have HW := Lib.hid hw0
  clear hw0
  go_enter Tryd.func5, Tryd.ntmps5
  go_wp2_with (go_at_call 7; refine (S0.out _ (HT.out.on (Below.alloc1 _ _) |>.up (by simp))).mono ?_; rintro ee w1 ⟨rfl, b1⟩; refine Hid.out ?_)
  refine Lib.hid ?_
  rw [← HW.out] at b1
  have bm1 := bm0.on b1 bm0.msg
  have bw1 := hb0.trans (b1.mono hb0.size)
  have hm1 := hm0.on bw1
  have BM1 := Lib.hid bm1
  obtain ⟨p0, p1, p2, p3⟩ := bm1
  clear bm0
  go_wp2_with (go_at_call 10; refine (KX.out _ hm1 (HT.out.on bw1 |>.up bw1.size)).mono ?_; rintro ee w2 ⟨v2, rfl, o2, b2⟩; refine Hid.out ?_)
  refine Lib.hid ?_
  have bm2 := BM1.out.on b2 BM1.out.msg
  have bw2 := bw1.trans (b2.mono bw1.size)
  clear p0 p1 p2 p3 hm1
  obtain ⟨g2, c2, rfl, hc2, hd2⟩ := o2.form2 (by omega)
  obtain ⟨_, _, he, hg1, hg2⟩ := o2.form (by omega)
  obtain ⟨rfl, rfl⟩ : g2 = _ ∧ c2 = _ := by injection he with h1 _ h3; injection h1 with h1; injection h1 with h1; exact ⟨h1, h3⟩
  have R2 := Lib.hid o2.reads
  go_wp2_with (go_at_call 17; refine (K1.out _ _ R2.out (o2.old _ _)).mono ?_; rintro ee w3 ⟨A3, q3, b3, d3, c3, rfl, got3, k3⟩; refine Hid.out ?_)
  refine Lib.hid ?_
  have bm3 := bm2.on k3 bm2.msg
  have BM3 := Lib.hid bm3
  have G3 := Lib.hid got3
  have s3 := k3.size
  have bw3 := bw2.trans (k3.mono bw2.size)
  clear bm3 got3
  obtain ⟨V3, hV3⟩ : ∃ V3, V3 = Value.agg #[.int .i64 m.time, .string m.sender, .slice A3 m.rcpts.length q3, .slice (some ⟨b3, 0, none⟩) d3 c3] := ⟨_, rfl⟩
  have q4 : Below w3.heap.size w3 (w3.alloc (.cells #[.int .i64 m.time, .string m.sender, .slice A3 m.rcpts.length q3, .slice (some ⟨b3, 0, none⟩) d3 c3] 25)) := Below.alloc1 _ _
  have bm4 := BM3.out.on q4 (Nat.lt_of_lt_of_le BM1.out.msg (Nat.le_trans b2.size s3))
  have bx4 : BoxAt (w3.alloc (.cells #[.int .i64 m.time, .string m.sender, .slice A3 m.rcpts.length q3, .slice (some ⟨b3, 0, none⟩) d3 c3] 25)) w3.heap.size m.time m.sender (.slice A3 m.rcpts.length q3) (.slice (some ⟨b3, 0, none⟩) d3 c3) := BoxAt.new ..
  have MX := Lib.hid (G3.out.on q4).mr
  have MM := Lib.hid (hm0.on (bw3.trans (q4.mono bw3.size)))
  have Q4 := Lib.hid q4
  have BM4 := Lib.hid bm4
  have BX4 := Lib.hid bx4
  obtain ⟨p0, p1, p2, p3⟩ := bm4
  clear q4 bx4 hV3
  go_wp2_with (go_at_call 14; refine (KS.out _ _ _ MX.out MM.out).mono ?_; rintro ee w5 ⟨rfl, k5⟩; refine Hid.out ?_)
  refine Lib.hid ?_
  have s5 := k5.size
  have q5 : Below w3.heap.size w3 w5 := Q4.out.trans (k5.mono Q4.out.size)
  have g5 := G3.out.on q5
  have G5 := Lib.hid g5
  have BM5 := Lib.hid (BM4.out.on k5 (Nat.lt_of_lt_of_le BM1.out.msg (Nat.le_trans b2.size (Nat.le_trans s3 Q4.out.size))))
  have BX5 := Lib.hid (BX4.out.on k5 (by simp))
  clear p0 p1 p2 p3 g5
  obtain ⟨p0, p1, p2, p3⟩ := BX5.out
  go_wp2_with (go_at_call 18; refine (KP.out _ w2.heap.size _ (Nat.le_trans s3 q5.size) G5.out).mono ?_; rintro ee w6 ⟨⟨r6, rfl⟩, k6⟩; refine Hid.out ?_)
  refine Lib.hid ?_
  have q6 : Below w2.heap.size w2 w6 := (k3.trans (q5.mono s3)).trans k6
  have s6 := q6.size
  have bm6 := bm2.on q6 (Nat.lt_of_lt_of_le BM1.out.msg b2.size)
  have BM6 := Lib.hid bm6
  have bw6 := bw2.trans (q6.mono bw2.size)
  have m6 := Lib.hid (hm0.on bw6)
  have T6 := Lib.hid ((HT.out.on bw6).up bw6.size)
  clear p0 p1 p2 p3 BX5 BM5
  obtain ⟨p0, p1, p2, p3⟩ := bm6
  subst hi
  have YY := Lib.hid yy
  clear yy
  go_wp2_with (go_at_call 12; refine (KM.out _ m6.out T6.out).mono ?_; rintro ee w7 ⟨rfl, k7⟩; refine Hid.out ?_)
  refine Lib.hid ?_
  have q7 : Below w2.heap.size w2 w7 := q6.trans (k7.mono s6)
  have s7 := q7.size
  have o7 := o2.on q7
  have hfree := o7.free k
  have hcell := o7.cell k hkl
  have o8 := o7.stored k x hkl
  rw [← HY.out] at o8
  have R8 := Lib.hid o8.reads
  have N8 : Hid (Old (w7.setCell ⟨g2, k, none⟩ (.int .u8 y)).heap.size (.slice (some ⟨g2, 0, none⟩) X.length c2)) := by have := o7.old X.length c2; unfold Hid; simpa using this
  have bm7 := bm2.on q7 (Nat.lt_of_lt_of_le BM1.out.msg b2.size)
  have z2 : Below w.heap.size w w7 := bw2.trans (q7.mono bw2.size)
  have z3 : Below w.heap.size w (w7.setCell ⟨g2, k, none⟩ (.int .u8 y)) := z2.setCell (Nat.le_trans bw1.size hg1) _
  have BM8 := Lib.hid (bm7.set (g := g2) (by have := BM1.out.msg; omega) k (.int .u8 y))
  have Z3 := Lib.hid z3
  have i0 : (0 : Int) ≤ (k : Int) := by omega
  have i1 : (k : Int) < (X.length : Int) := by omega
  have i2 : decide ((k : Int) < 0) = false := by simp
  have i3 : decide ((X.length : Int) ≤ (k : Int)) = false := by simp; omega
  clear p0 p1 p2 p3 o7 o8 bm7 z2 z3 BM6
  have u8 : w.heap.size < (w7.setCell ⟨g2, k, none⟩ (.int .u8 y)).heap.size := Nat.lt_of_lt_of_le BM1.out.msg (Nat.le_trans b2.size (by simpa using s7))
  obtain ⟨w8, hw8⟩ : ∃ w8, w8 = w7.setCell ⟨g2, k, none⟩ (.int .u8 y) := ⟨_, rfl⟩
  have H8 := Lib.hid hw8
  rw [← hw8] at R8 N8 BM8 Z3 u8
  clear hw8
  have KK : ∀ w9 A9 q9 b9 d9 c9, Got w9 w8.heap.size (.agg #[.int .i64 m.time, .string m.sender, .slice A9 m.rcpts.length q9, .slice (some ⟨b9, 0, none⟩) d9 c9]) (turnedM m j x) → Below w8.heap.size w8 w9 → 
      Hid (BoxAt (w9.alloc (.cells #[.int .i64 m.time, .string m.sender, .slice A9 m.rcpts.length q9, .slice (some ⟨b9, 0, none⟩) d9 c9] 25)) w.heap.size m.time m.sender (.slice A m.rcpts.length c) (.slice D m.data.length e)) ∧
      Hid (BoxAt (w9.alloc (.cells #[.int .i64 m.time, .string m.sender, .slice A9 m.rcpts.length q9, .slice (some ⟨b9, 0, none⟩) d9 c9] 25)) w9.heap.size m.time m.sender (.slice A9 m.rcpts.length q9) (.slice (some ⟨b9, 0, none⟩) d9 c9)) ∧
      Hid (Below w.heap.size w (w9.alloc (.cells #[.int .i64 m.time, .string m.sender, .slice A9 m.rcpts.length q9, .slice (some ⟨b9, 0, none⟩) d9 c9] 25))) ∧
      Hid (Got (w9.alloc (.cells #[.int .i64 m.time, .string m.sender, .slice A9 m.rcpts.length q9, .slice (some ⟨b9, 0, none⟩) d9 c9] 25)) w8.heap.size (.agg #[.int .i64 m.time, .string m.sender, .slice A9 m.rcpts.length q9, .slice (some ⟨b9, 0, none⟩) d9 c9]) (turnedM m j x)) := fun w9 A9 q9 b9 d9 c9 hg hb => by
    have a1 : Below w9.heap.size w9 (w9.alloc (.cells #[.int .i64 m.time, .string m.sender, .slice A9 m.rcpts.length q9, .slice (some ⟨b9, 0, none⟩) d9 c9] 25)) := Below.alloc1 _ _
    have a2 : Below w8.heap.size w8 (w9.alloc (.cells #[.int .i64 m.time, .string m.sender, .slice A9 m.rcpts.length q9, .slice (some ⟨b9, 0, none⟩) d9 c9] 25)) := hb.trans (a1.mono hb.size)
    exact ⟨BM8.out.on a2 u8, BoxAt.new .., Z3.out.trans (a2.mono Z3.out.size), hg.on a1⟩
  rcases YY.out with rfl | rfl | rfl | rfl <;>
  · clear YY
    go_wp2_with (go_at_call 17; rw [← H8.out]; refine (K3.out _ _ R8.out N8.out).mono ?_; rintro ee w9 ⟨A9, q9, b9, d9, c9, rfl, got9, k9⟩; refine Hid.out ?_)
    refine Lib.hid ?_
    obtain ⟨BM9, BX9, Z9, G9⟩ := KK _ _ _ _ _ _ got9 k9
    have s9 := k9.size
    obtain ⟨p0, p1, p2, p3⟩ := BM9.out
    clear got9 k9
    go_wp2_with (go_at_call 8; refine (KC.out _ (hm0.on Z9.out)).mono ?_; rintro ee w10 ⟨A10, q10, A11, q11, rfl, or10, ow10, k10⟩; refine Hid.out ?_)
    refine Lib.hid ?_
    obtain ⟨g, rfl, hgl, fr11, ⟨uu, cc11⟩, bw11, bw12, mr12, be12⟩ := KW.out _ _ _ _ _ _ or10 ow10 k10
    have BX11 := Lib.hid ((BX9.out.on k10 (by simp)).on (Below.alloc1 _ (.cells #[.int .i64 m.time, .string m.sender, .slice (some ⟨g, 0, none⟩) m.rcpts.length q10, .slice A11 m.data.length q11] 25)) (by have := k10.size; simp at this; omega))
    have BX12 := Lib.hid (BX9.out.on be12.out (by simp))
    have MY := Lib.hid (G9.out.on be12.out).mr
    have Z12 := Lib.hid (Z9.out.trans (be12.out.mono Z9.out.size))
    have j0 : (0 : Int) ≤ (j : Int) := by omega
    have j1 : (j : Int) < (m.rcpts.length : Int) := by omega
    have fr := fr11.out
    clear p0 p1 p2 p3 or10 ow10 k10 hgl
    obtain ⟨p0, p1, p2, p3⟩ := bw11.out
    obtain ⟨t0, t1, t2, t3⟩ := bw12.out
    obtain ⟨v0, v1, v2, v3⟩ := BX12.out
    go_wp2_with (go_at_call 14; refine (KT.out _ _ _ MY.out mr12.out).mono ?_; rintro ee w13 ⟨rfl, k13⟩; refine Hid.out ?_)
    refine Lib.hid ?_
    go_wp2
    go_ret
    exact ⟨rfl, Z12.out.trans (k13.mono Z12.out.size)⟩

/-- THE LAW, at every argument. -/
theorem back_law (v : Value) (m : Msg) (i y : Int) (W : World) (hf : Fits m) (h24 : m.rcpts.length * 24 ≤ 140737488351232) (hm : MR W v m) (_wc : (Lit.int .i64 i).wf = true) (wy : (Lit.int .u8 y).wf = true) (htab : Tab W.heap.size W) :
    Calls Tryd.prog 5 #[v, .int .i64 i, .int .u8 y] W fun e w' => e = .returned (.bool true) ∧ Below W.heap.size W w' := by
  have by_ := bounds_u8 wy
  by_cases hr : rightOf m = 0
  · by_cases hi : 0 ≤ i ∧ i < m.rcpts.length
    · by_cases hy : y ≠ 80 ∧ y ≠ 68 ∧ y ≠ 66 ∧ y ≠ 88
      · exact back_idle v m i y W hf hm htab hr (Or.inr ⟨hi, hy⟩)
      · obtain ⟨i, rfl⟩ := Int.eq_ofNat_of_zero_le hi.1
        obtain ⟨y, rfl⟩ := Int.eq_ofNat_of_zero_le (show 0 ≤ y by omega)
        have hx : (y : Int) = (((UInt8.ofNat y).toNat : Nat) : Int) := by simp; omega
        have := back_main v m i (UInt8.ofNat y) W hf h24 hm htab hr (by omega) (by rw [mark_vals _ _ hx, decide_eq_true_eq]; omega)
        rwa [← hx] at this
    · exact back_idle v m i y W hf hm htab hr (Or.inl hi)
  · exact back_no v m i y W hf hm htab hr
end Go.Proofs.YthoeicidilnleaaDoor.Codec
