/-
  RECORD: RecordEncodes returns true at every argument and leaves what was there.
-/
import Derived.Test.YthoeicidilnleaaDoorRecordSame
import Derived.Test.YthoeicidilnleaaDoorRecordShown
namespace Go.Proofs.YthoeicidilnleaaDoor.Codec
open Go.RowKit

theorem BoxAt.msg {w : World} {g : Nat} {t : Int} {s : ByteArray} {V D : Value} (h : BoxAt w g t s V D) : g < w.heap.size := cell_lt h.1

set_option maxHeartbeats 2000000 in
set_option maxRecDepth 100000 in
theorem encodes_law (v : Value) (m : Msg) (i : Int) (w : World) (hf : Fits m) (h24 : m.rcpts.length * 24 ≤ 140737488351232) (hm : MR w v m) (wi : (Lit.int .i64 i).wf = true) (htab : Tab w.heap.size w) :
    Calls Tryd.prog 3 #[v, .int .i64 i] w fun e w' => e = .returned (.bool true) ∧ Below w.heap.size w w' := by
  have bi : i ≤ 9223372036854775807 := by
    have := bounds_i64 wi; omega
  have S0 := Lib.hid (fun w h => shown_any w h)
  have KC := Lib.hid (fun v w (h : MR w v m) => rCopy v m w hf h24 h)
  have KS := Lib.hid (fun a b w (h : MR w a m) (h' : MR w b m) => rSame a b m w hf h h')
  have KR := Lib.hid (fun v w (h : MR w v m) => cRight v m w hf h)
  have KQ := Lib.hid (fun v w (h : MR w v m) => rRight v m w hf h)
  obtain ⟨X, hX⟩ : ∃ X : List UInt8, (∀ v w, MR w v m → Calls Tryd.prog 9 #[v] w (OwnEnd X (rightOf m) w)) ∧ (∀ v w, MR w v m → Tab w.heap.size w → Calls Tryd.prog 10 #[v] w (OwnEnd X (rightOf m) w)) := by
    by_cases hr : rightOf m = 0
    · rw [hr]; exact ⟨bytesOf m, fun v w h => rEncode_yes v m w hf h hr, fun v w h ht => cEncode_yes v m w hf h hr ht⟩
    · exact ⟨[], fun v w h => rEncode_no v m w hf h hr, fun v w h _ => cEncode_no v m w hf h hr⟩
  obtain ⟨a, b, hab⟩ : ∃ a b : Int, (∀ v w, MR w v m → Tab w.heap.size w → Calls Tryd.prog 12 #[v, .int .i64 i] w fun e w' => e = .returned (.tuple #[.int .i64 a, .int .i64 b]) ∧ Below w.heap.size w w') ∧ (∀ v w, MR w v m → Calls Tryd.prog 13 #[v, .int .i64 i] w fun e w' => e = .returned (.tuple #[.int .i64 a, .int .i64 b]) ∧ Below w.heap.size w w') := by
    by_cases hr : rightOf m = 0
    · by_cases hin : 0 ≤ i ∧ i < m.rcpts.length
      · refine ⟨(markAt m i.toNat : Nat), 0, fun v w h ht => ?_, fun v w h => ?_⟩
        · have := cMarkAt_yes v m i w hf h hr ht; rwa [if_pos hin] at this
        · have := rMarkAt_yes v m i w hf h hr bi; rwa [if_pos hin] at this
      · refine ⟨0, 1, fun v w h ht => ?_, fun v w h => ?_⟩
        · have := cMarkAt_yes v m i w hf h hr ht; rwa [if_neg hin] at this
        · have := rMarkAt_yes v m i w hf h hr bi; rwa [if_neg hin] at this
    · exact ⟨0, rightOf m, fun v w h _ => cMarkAt_no v m i w hf h hr, fun v w h => rMarkAt_no v m i w hf h hr⟩
  have KX := Lib.hid hX
  have KM := Lib.hid hab
  have HT := Lib.hid htab
  generalize rightOf m = z at *
  clear hX hab hf h24 htab wi
  obtain ⟨A, c, D, e, rfl, hrr, hd⟩ := hm
  have hm0 : MR w (msgV m A c D e) m := ⟨A, c, D, e, rfl, hrr, hd⟩
  unfold msgV at *
  clear hrr hd
  obtain ⟨w0, hw0⟩ : ∃ w0, w0 = w.alloc (.cells #[.int .i64 m.time, .string m.sender, .slice A m.rcpts.length c, .slice D m.data.length e] 25) := ⟨_, rfl⟩
  have hb0 : Below w.heap.size w w0 := by rw [hw0]; exact Below.alloc1 _ _
  have bm0 : BoxAt w0 w.heap.size m.time m.sender (.slice A m.rcpts.length c) (.slice D m.data.length e) := by rw [hw0]; exact BoxAt.new ..
  have HW := Lib.hid hw0
  clear hw0
  go_enter Tryd.func3, Tryd.ntmps3
  go_wp2_with (go_at_call 7; refine (S0.out _ (HT.out.on (Below.alloc1 _ _) |>.up (by simp))).mono ?_; rintro ee w1 ⟨rfl, b1⟩; refine Hid.out ?_)
  refine Lib.hid ?_
  rw [← HW.out] at b1
  have bm1 := bm0.on b1 bm0.msg
  have bw1 := hb0.trans (b1.mono hb0.size)
  have hm1 := hm0.on bw1
  obtain ⟨p0, p1, p2, p3⟩ := bm1
  clear bm0
  go_wp2_with (go_at_call 8; refine (KC.out _ _ hm1).mono ?_; rintro ee w2 ⟨V2, rfl, mo2, b2⟩; refine Hid.out ?_)
  refine Lib.hid ?_
  obtain ⟨A2, c2, D2, e2, rfl, hr2, hd2⟩ := mo2
  have mo2 : MR w2 (msgV m A2 c2 D2 e2) m := ⟨A2, c2, D2, e2, rfl, hr2, hd2⟩
  unfold msgV at *
  obtain ⟨w3, hw3⟩ : ∃ w3, w3 = w2.alloc (.cells #[.int .i64 m.time, .string m.sender, .slice A2 m.rcpts.length c2, .slice D2 m.data.length e2] 25) := ⟨_, rfl⟩
  have b3 : Below w2.heap.size w2 w3 := by rw [hw3]; exact Below.alloc1 _ _
  have bo3 : BoxAt w3 w2.heap.size m.time m.sender (.slice A2 m.rcpts.length c2) (.slice D2 m.data.length e2) := by rw [hw3]; exact BoxAt.new ..
  have bm2 : BoxAt w2 w.heap.size m.time m.sender (.slice A m.rcpts.length c) (.slice D m.data.length e) := BoxAt.on (w := w1) ⟨p0, p1, p2, p3⟩ b2 (cell_lt p0)
  have bm3 := bm2.on b3 bm2.msg
  have bw2 := bw1.trans (b2.mono bw1.size)
  have bw3 := bw2.trans (b3.mono bw2.size)
  have hm3 := hm0.on bw3
  have mo3 := mo2.on b3
  have HW3 := Lib.hid hw3
  clear hw3 hr2 hd2 p0 p1 p2 p3 mo2 hm1
  have BX := Lib.hid bo3
  have BY := Lib.hid bm3
  rw [HW3.out] at bo3 bm3
  obtain ⟨x0, x1, x2, x3⟩ := bo3
  obtain ⟨y0, y1, y2, y3⟩ := bm3
  clear bm2
  go_wp2_with (go_at_call 9; refine (KX.out.1 _ _ (HW3.out ▸ hm3)).mono ?_; rintro ee w4 ⟨v4, rfl, o4, b4⟩; refine Hid.out ?_)
  refine Lib.hid ?_
  rw [← HW3.out] at b4
  clear x0 x1 x2 x3 y0 y1 y2 y3
  obtain ⟨x0, x1, x2, x3⟩ := BX.out
  obtain ⟨y0, y1, y2, y3⟩ := BY.out
  have bo4 : BoxAt w4 w2.heap.size m.time m.sender (.slice A2 m.rcpts.length c2) (.slice D2 m.data.length e2) := BoxAt.on (w := w3) ⟨x0, x1, x2, x3⟩ b4 (cell_lt x0)
  have bm4 : BoxAt w4 w.heap.size m.time m.sender (.slice A m.rcpts.length c) (.slice D m.data.length e) := BoxAt.on (w := w3) ⟨y0, y1, y2, y3⟩ b4 (cell_lt y0)
  have bw4 := bw3.trans (b4.mono bw3.size)
  have mo4 := mo3.on b4
  have hm4 := hm3.on b4
  clear x0 x1 x2 x3 y0 y1 y2 y3 hm3 mo3
  obtain ⟨x0, x1, x2, x3⟩ := bo4
  obtain ⟨y0, y1, y2, y3⟩ := bm4
  go_wp2_with (go_at_call 10; refine (KX.out.2 _ _ mo4 (HT.out.on bw4 |>.up bw4.size)).mono ?_; rintro ee w5 ⟨v5, rfl, o5, b5⟩; refine Hid.out ?_)
  refine Lib.hid ?_
  replace o4 := o4.on b5
  have bo5 : BoxAt w5 w2.heap.size m.time m.sender (.slice A2 m.rcpts.length c2) (.slice D2 m.data.length e2) := BoxAt.on (w := w4) ⟨x0, x1, x2, x3⟩ b5 (cell_lt x0)
  have bm5 : BoxAt w5 w.heap.size m.time m.sender (.slice A m.rcpts.length c) (.slice D m.data.length e) := BoxAt.on (w := w4) ⟨y0, y1, y2, y3⟩ b5 (cell_lt y0)
  have bw5 := bw4.trans (b5.mono bw4.size)
  have mo5 := mo4.on b5
  have hm5 := hm4.on b5
  clear x0 x1 x2 x3 y0 y1 y2 y3 hm4 mo4
  obtain ⟨x0, x1, x2, x3⟩ := bo5
  obtain ⟨y0, y1, y2, y3⟩ := bm5
  go_wp2_with (go_at_call 11; refine (KR.out _ _ mo5).mono ?_; rintro ee w6 ⟨rfl, b6⟩; refine Hid.out ?_)
  refine Lib.hid ?_
  replace o4 := o4.on b6
  replace o5 := o5.on b6
  have bo6 : BoxAt w6 w2.heap.size m.time m.sender (.slice A2 m.rcpts.length c2) (.slice D2 m.data.length e2) := BoxAt.on (w := w5) ⟨x0, x1, x2, x3⟩ b6 (cell_lt x0)
  have bm6 : BoxAt w6 w.heap.size m.time m.sender (.slice A m.rcpts.length c) (.slice D m.data.length e) := BoxAt.on (w := w5) ⟨y0, y1, y2, y3⟩ b6 (cell_lt y0)
  have bw6 := bw5.trans (b6.mono bw5.size)
  have mo6 := mo5.on b6
  have hm6 := hm5.on b6
  clear x0 x1 x2 x3 y0 y1 y2 y3 hm5 mo5
  obtain ⟨x0, x1, x2, x3⟩ := bo6
  obtain ⟨y0, y1, y2, y3⟩ := bm6
  go_wp2_with (go_at_call 12; refine (KM.out.1 _ _ mo6 (HT.out.on bw6 |>.up bw6.size)).mono ?_; rintro ee w7 ⟨rfl, b7⟩; refine Hid.out ?_)
  refine Lib.hid ?_
  replace o4 := o4.on b7
  replace o5 := o5.on b7
  have bo7 : BoxAt w7 w2.heap.size m.time m.sender (.slice A2 m.rcpts.length c2) (.slice D2 m.data.length e2) := BoxAt.on (w := w6) ⟨x0, x1, x2, x3⟩ b7 (cell_lt x0)
  have bm7 : BoxAt w7 w.heap.size m.time m.sender (.slice A m.rcpts.length c) (.slice D m.data.length e) := BoxAt.on (w := w6) ⟨y0, y1, y2, y3⟩ b7 (cell_lt y0)
  have bw7 := bw6.trans (b7.mono bw6.size)
  have mo7 := mo6.on b7
  have hm7 := hm6.on b7
  clear x0 x1 x2 x3 y0 y1 y2 y3 hm6 mo6
  obtain ⟨x0, x1, x2, x3⟩ := bo7
  obtain ⟨y0, y1, y2, y3⟩ := bm7
  go_wp2_with (go_at_call 13; refine (KM.out.2 _ _ hm7).mono ?_; rintro ee w8 ⟨rfl, b8⟩; refine Hid.out ?_)
  refine Lib.hid ?_
  replace o4 := o4.on b8
  replace o5 := o5.on b8
  have bo8 : BoxAt w8 w2.heap.size m.time m.sender (.slice A2 m.rcpts.length c2) (.slice D2 m.data.length e2) := BoxAt.on (w := w7) ⟨x0, x1, x2, x3⟩ b8 (cell_lt x0)
  have bm8 : BoxAt w8 w.heap.size m.time m.sender (.slice A m.rcpts.length c) (.slice D m.data.length e) := BoxAt.on (w := w7) ⟨y0, y1, y2, y3⟩ b8 (cell_lt y0)
  have bw8 := bw7.trans (b8.mono bw7.size)
  have mo8 := mo7.on b8
  have hm8 := hm7.on b8
  clear x0 x1 x2 x3 y0 y1 y2 y3 hm7 mo7
  obtain ⟨x0, x1, x2, x3⟩ := bo8
  obtain ⟨y0, y1, y2, y3⟩ := bm8
  go_wp2_with (go_at_call 14; refine (KS.out _ _ _ mo8 hm8).mono ?_; rintro ee w9 ⟨rfl, b9⟩; refine Hid.out ?_)
  refine Lib.hid ?_
  replace o4 := o4.on b9
  replace o5 := o5.on b9
  have bo9 : BoxAt w9 w2.heap.size m.time m.sender (.slice A2 m.rcpts.length c2) (.slice D2 m.data.length e2) := BoxAt.on (w := w8) ⟨x0, x1, x2, x3⟩ b9 (cell_lt x0)
  have bm9 : BoxAt w9 w.heap.size m.time m.sender (.slice A m.rcpts.length c) (.slice D m.data.length e) := BoxAt.on (w := w8) ⟨y0, y1, y2, y3⟩ b9 (cell_lt y0)
  have bw9 := bw8.trans (b9.mono bw8.size)
  have mo9 := mo8.on b9
  have hm9 := hm8.on b9
  clear x0 x1 x2 x3 y0 y1 y2 y3 hm8 mo8
  obtain ⟨x0, x1, x2, x3⟩ := bo9
  obtain ⟨y0, y1, y2, y3⟩ := bm9
  go_wp2_with (go_at_call 15; refine (KQ.out _ _ hm9).mono ?_; rintro ee wa ⟨rfl, ba⟩; refine Hid.out ?_)
  refine Lib.hid ?_
  have g1 := conv_reads (o4.on ba).reads
  have g2 := conv_reads (o5.on ba).reads
  clear x0 x1 x2 x3 y0 y1 y2 y3
  go_wp2
  go_ret
  exact ⟨rfl, bw9.trans (ba.mono bw9.size)⟩
end Go.Proofs.YthoeicidilnleaaDoor.Codec
