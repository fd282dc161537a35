/-
  RECORD: RecordTorn returns true at every argument and leaves what was there.
-/
import Derived.Test.YthoeicidilnleaaDoorRecordEncWalk
import Derived.Test.YthoeicidilnleaaDoorRecordTornF
namespace Go.Proofs.YthoeicidilnleaaDoor.Codec
open Go.ChangeShapes
open Go.RowKit

theorem data_at (m : Msg) {j : Nat} (hj : j < m.data.length) : (bytesOf m).getD (dataAt m + j) 0 = m.data.getD j 0 := by
  have eb : bytesOf m = (headOf m ++ rcsBytes false m.rcpts) ++ 100 :: (textBytes m.data ++ (101 :: hexOf (crc (bodyOf true m)) ++ [10])) := by simp [bytesOf, bodyOf]
  rw [eb]
  unfold dataAt
  rw [List.getD_eq_getElem?_getD, List.getElem?_append_right (by omega), show (headOf m ++ rcsBytes false m.rcpts).length + 1 + (Lib.decDigits m.data.length).length + 1 + j - (headOf m ++ rcsBytes false m.rcpts).length = ((Lib.decDigits m.data.length).length + 1 + j) + 1 by omega, List.getElem?_cons_succ, List.getElem?_append_left (by rw [text_len]; omega)]
  unfold textBytes
  rw [List.getElem?_append_right (by omega), show (Lib.decDigits m.data.length).length + 1 + j - (Lib.decDigits m.data.length).length = j + 1 by omega, List.getElem?_cons_succ, List.getElem?_append_left hj, List.getD_eq_getElem?_getD]

set_option maxHeartbeats 2000000 in
set_option maxRecDepth 100000 in
theorem torn_idle (v : Value) (m : Msg) (cut y : Int) (w : World) (hf : Fits m) (hm : MR w v m) (htab : Tab w.heap.size w) (h : rightOf m ≠ 0 ∨ rightOf m = 0 ∧ cut < 0 ∨ rightOf m = 0 ∧ 0 ≤ cut ∧ y = 0) :
    Calls Tryd.prog 6 #[v, .int .i64 cut, .int .u8 y] w fun e w' => e = .returned (.bool true) ∧ Below w.heap.size w w' := by
  have S0 := Lib.hid (fun w h => shown_any w h)
  obtain ⟨X, hX⟩ : ∃ X : List UInt8, (∀ w, MR w v m → Tab w.heap.size w → Calls Tryd.prog 10 #[v] w (OwnEnd X (rightOf m) w)) := by
    by_cases hr : rightOf m = 0
    · rw [hr]; exact ⟨bytesOf m, fun w h ht => cEncode_yes v m w hf h hr ht⟩
    · exact ⟨[], fun w h _ => cEncode_no v m w hf h hr⟩
  have KX := Lib.hid hX
  have HT := Lib.hid htab
  generalize rightOf m = z at *
  clear hX hf htab
  obtain ⟨A, c, D, e, rfl, hrr, hd⟩ := hm
  have hm0 : MR w (msgV m A c D e) m := ⟨A, c, D, e, rfl, hrr, hd⟩
  unfold msgV at *
  clear hrr hd
  obtain ⟨w0, hw0⟩ : ∃ w0, w0 = w.alloc (.cells #[.int .i64 m.time, .string m.sender, .slice A m.rcpts.length c, .slice D m.data.length e] 25) := ⟨_, rfl⟩
  have hb0 : Below w.heap.size w w0 := by rw [hw0]; exact Below.alloc1 _ _
  have bm0 : BoxAt w0 w.heap.size m.time m.sender (.slice A m.rcpts.length c) (.slice D m.data.length e) := by rw [hw0]; exact BoxAt.new ..
  have HW := Lib.hid hw0
  clear hw0
  rcases h with h | ⟨rfl, h⟩ | ⟨rfl, h, rfl⟩ <;>
  · go_enter Tryd.func6, Tryd.ntmps6
    go_wp2_with (go_at_call 7; refine (S0.out _ (HT.out.on (Below.alloc1 _ _) |>.up (by simp))).mono ?_; rintro ee w1 ⟨rfl, b1⟩; refine Hid.out ?_)
    refine Lib.hid ?_
    rw [← HW.out] at b1
    have bm1 := bm0.on b1 bm0.msg
    have bw1 := hb0.trans (b1.mono hb0.size)
    have hm1 := hm0.on bw1
    obtain ⟨p0, p1, p2, p3⟩ := bm1
    go_wp2_with (go_at_call 10; refine (KX.out _ hm1 (HT.out.on bw1 |>.up bw1.size)).mono ?_; rintro ee w5 ⟨v5, rfl, o5, b5⟩; refine Hid.out ?_)
    refine Lib.hid ?_
    go_wp2
    go_ret
    exact ⟨rfl, bw1.trans (b5.mono bw1.size)⟩

set_option maxHeartbeats 2000000 in
set_option maxRecDepth 100000 in
theorem torn_empty (v : Value) (m : Msg) (cut y : Nat) (w : World) (hf : Fits m) (hm : MR w v m) (htab : Tab w.heap.size w) (hr : rightOf m = 0) (hcut : cut ≤ 9223372036854775807) (hy0 : 0 < y) (hy : y ≤ 255) (hdl : m.data.length = 0) :
    Calls Tryd.prog 6 #[v, .int .i64 cut, .int .u8 y] w fun e w' => e = .returned (.bool true) ∧ Below w.heap.size w w' := by
  have S0 := Lib.hid (fun w h => shown_any w h)
  obtain ⟨hv, _, hfm⟩ := valid_of hr
  obtain ⟨X, hX⟩ : ∃ X, X = bytesOf m := ⟨_, rfl⟩
  have KX : Hid (∀ w, MR w v m → Tab w.heap.size w → Calls Tryd.prog 10 #[v] w (OwnEnd X 0 w)) := fun w h ht => by rw [hX]; exact cEncode_yes v m w hf h hr ht
  have hXl : X.length = dataAt m + m.data.length + 11 := by rw [hX, dataAt_len]
  have hX1 : X.length ≤ 1300000 := by
    have := bodyOf_len hv false
    have hx : ∀ n, (hexOf n).length = 8 := fun _ => rfl
    rw [hX]; unfold bytesOf; simp only [List.length_append, List.length_cons, List.length_nil, hx]; omega
  obtain ⟨j, hj⟩ : ∃ j, j = cut % X.length := ⟨_, rfl⟩
  have hj1 : j < X.length := by rw [hj]; exact Nat.mod_lt _ (by omega)
  have hmj : (cut : Int) % (X.length : Int) = (j : Int) := by rw [hj]; exact (Int.natCast_emod cut X.length).symm
  have K1 : Hid (∀ v w, Reads w v (X.take j) → Old w.heap.size v → Calls Tryd.prog 17 #[v] w fun e w' => e = .returned (.tuple #[Z4, .int .i64 32]) ∧ Below w.heap.size w w') := fun v w h ho => by
    refine (cDecode v _ w h ho (by rw [List.length_take]; omega)).mono fun e w' ⟨⟨V, h1, _, h3⟩, h4⟩ => ?_
    have : (decodeF (X.take j)).2 = 32 := by rw [hX]; exact decode_cut hv hfm (by rw [← hX]; exact hj1)
    rw [this] at h1 h3
    rw [h3 (by decide)] at h1
    exact ⟨h1, h4⟩
  have K2 : Hid (∀ v w, Reads w v (X ++ [UInt8.ofNat y]) → Old w.heap.size v → Calls Tryd.prog 17 #[v] w fun e w' => e = .returned (.tuple #[Z4, .int .i64 30]) ∧ Below w.heap.size w w') := fun v w h ho => by
    refine (cDecode v _ w h ho (by simp; omega)).mono fun e w' ⟨⟨V, h1, _, h3⟩, h4⟩ => ?_
    have : (decodeF (X ++ [UInt8.ofNat y])).2 = 30 := by rw [hX]; exact decode_more hv hfm _
    rw [this] at h1 h3
    rw [h3 (by decide)] at h1
    exact ⟨h1, h4⟩
  have huy : (UInt8.ofNat y).toNat = y := by simp; omega
  have HUY : Hid ((y : Int) = (((UInt8.ofNat y).toNat : Nat) : Int)) := by unfold Hid; rw [huy]
  have HT := Lib.hid htab
  have e0 : ((X.length : Int) == 0) = false := by rw [beq_eq_false_iff_ne]; omega
  have e1 : ((y : Int) == 0) = false := by rw [beq_eq_false_iff_ne]; omega
  have e2 : ((m.data.length : Int) == 0) = true := by simp; exact List.eq_nil_of_length_eq_zero hdl
  have hX3 : m.data.length + 11 ≤ X.length := by omega
  clear hXl hdl
  clear hf htab hr hv hfm hX hj huy
  obtain ⟨A, c, D, e, rfl, hrr, hd⟩ := hm
  have hm0 : MR w (msgV m A c D e) m := ⟨A, c, D, e, rfl, hrr, hd⟩
  unfold msgV at *
  unfold Z4 at *
  clear hrr hd
  obtain ⟨w0, hw0⟩ : ∃ w0, w0 = w.alloc (.cells #[.int .i64 m.time, .string m.sender, .slice A m.rcpts.length c, .slice D m.data.length e] 25) := ⟨_, rfl⟩
  have hb0 : Below w.heap.size w w0 := by rw [hw0]; exact Below.alloc1 _ _
  have bm0 : BoxAt w0 w.heap.size m.time m.sender (.slice A m.rcpts.length c) (.slice D m.data.length e) := by rw [hw0]; exact BoxAt.new ..
  have HW := Lib.hid hw0
  clear hw0
  go_enter Tryd.func6, Tryd.ntmps6
  go_wp2_with (go_at_call 7; refine (S0.out _ (HT.out.on (Below.alloc1 _ _) |>.up (by simp))).mono ?_; rintro ee w1 ⟨rfl, b1⟩; refine Hid.out ?_)
  refine Lib.hid ?_
  rw [← HW.out] at b1
  have bm1 := bm0.on b1 bm0.msg
  have bw1 := hb0.trans (b1.mono hb0.size)
  have hm1 := hm0.on bw1
  have BM1 := Lib.hid bm1
  obtain ⟨p0, p1, p2, p3⟩ := bm1
  clear bm0
  go_wp2_with (go_at_call 10; refine (KX.out _ hm1 (HT.out.on bw1 |>.up bw1.size)).mono ?_; rintro ee w2 ⟨v2, rfl, o2, b2⟩; refine Hid.out ?_)
  refine Lib.hid ?_
  have bm2 := BM1.out.on b2 BM1.out.msg
  have bw2 := bw1.trans (b2.mono bw1.size)
  clear p0 p1 p2 p3 hm1
  obtain ⟨g2, c2, rfl, hc2, hd2⟩ := o2.form2 (by omega)
  obtain ⟨_, _, he, hg1, hg2⟩ := o2.form (by omega)
  obtain ⟨rfl, rfl⟩ : g2 = _ ∧ c2 = _ := by injection he with h1 _ h3; injection h1 with h1; injection h1 with h1; exact ⟨h1, h3⟩
  have R2 := Lib.hid (o2.cut j (by omega))
  go_wp2_with (go_at_call 17; refine (K1.out _ _ R2.out (o2.old _ _)).mono ?_; rintro ee w3 ⟨rfl, b3⟩; refine Hid.out ?_)
  refine Lib.hid ?_
  have s3 := b3.size
  have OW : Hid (Owns ((w3.alloc (.cells #[.int .i64 0, .string ⟨#[]⟩, .slice none 0 0, .slice none 0 0] 25)).alloc (.cells #[] 5)) (w3.heap.size + 1) (.slice (some ⟨w3.heap.size + 1, 0, none⟩) 0 0) []) := by
    have := owns_new (w3.alloc (.cells #[.int .i64 0, .string ⟨#[]⟩, .slice none 0 0, .slice none 0 0] 25))
    unfold Hid; simpa using this
  have q3 : Below w2.heap.size w2 ((w3.alloc (.cells #[.int .i64 0, .string ⟨#[]⟩, .slice none 0 0, .slice none 0 0] 25)).alloc (.cells #[] 5)) := (b3.alloc s3 _).alloc (by simp; omega) _
  have RX := Lib.hid (o2.on q3).reads
  go_wp2_with (at_builtin; refine wp_append_reads _ rfl _ _ rfl (w3.heap.size + 1) _ _ [] X rfl rfl OW.out RX.out (by simp; omega) (by simp) ?_; intro v4 w4 own4 b4; refine Hid.out ?_)
  refine Lib.hid ?_
  rw [List.nil_append] at own4
  have s4 := b4.size
  have s4 : w3.heap.size + 2 ≤ w4.heap.size := by simpa using s4
  have q4 := q3.trans (b4.mono (by omega))
  go_wp2_with (at_builtin; refine wp_append_reads _ rfl _ _ rfl (w3.heap.size + 1) v4 _ X [UInt8.ofNat y] rfl rfl (own4.on ((Below.refl _ _).alloc (Nat.le_refl _) _)) (reads_one _ _ _ _ HUY.out) (by simp; omega) (by simp; omega) ?_; intro v5 w5 own5 b5; refine Hid.out ?_)
  refine Lib.hid ?_
  have q5 := (q4.alloc q4.size _).trans (b5.mono (by omega))
  obtain ⟨g5, c5, he5, hg5, hg6⟩ := own5.form (by simp)
  obtain rfl : v5 = .slice (some ⟨g5, 0, none⟩) (X.length + 1) c5 := by simpa using he5
  have R5 := Lib.hid own5.reads
  have O5 := Lib.hid (own5.old (X.length + 1) c5)
  clear own5 own4 he5
  go_wp2_with (go_at_call 17; refine (K2.out _ _ R5.out O5.out).mono ?_; rintro ee w6 ⟨rfl, b6⟩; refine Hid.out ?_)
  refine Lib.hid ?_
  have q6 := q5.trans (b6.mono q5.size)
  have s6 := q6.size
  have q7 : Below w2.heap.size w2 (w6.alloc (.cells #[.int .i64 0, .string ⟨#[]⟩, .slice none 0 0, .slice none 0 0] 25)) := q6.alloc s6 _
  have bm7 := bm2.on q7 bm2.msg
  have o7 := o2.on q7
  have s2 := BM1.out.msg
  have Q7 := Lib.hid (bw2.trans (q7.mono bw2.size))
  clear o7
  obtain ⟨p0, p1, p2, p3⟩ := bm7
  go_wp2
  go_ret
  exact ⟨rfl, Q7.out⟩

set_option maxHeartbeats 2000000 in
set_option maxRecDepth 100000 in
theorem torn_main (v : Value) (m : Msg) (cut y : Nat) (w : World) (hf : Fits m) (hm : MR w v m) (htab : Tab w.heap.size w) (hr : rightOf m = 0) (hcut : cut ≤ 9223372036854775807) (hy0 : 0 < y) (hy : y ≤ 255) (hdl : ¬ m.data.length = 0) :
    Calls Tryd.prog 6 #[v, .int .i64 cut, .int .u8 y] w fun e w' => e = .returned (.bool true) ∧ Below w.heap.size w w' := by
  have S0 := Lib.hid (fun w h => shown_any w h)
  obtain ⟨hv, _, hfm⟩ := valid_of hr
  obtain ⟨X, hX⟩ : ∃ X, X = bytesOf m := ⟨_, rfl⟩
  have KX : Hid (∀ w, MR w v m → Tab w.heap.size w → Calls Tryd.prog 10 #[v] w (OwnEnd X 0 w)) := fun w h ht => by rw [hX]; exact cEncode_yes v m w hf h hr ht
  have hXl : X.length = dataAt m + m.data.length + 11 := by rw [hX, dataAt_len]
  have hX1 : X.length ≤ 1300000 := by
    have := bodyOf_len hv false
    have hx : ∀ n, (hexOf n).length = 8 := fun _ => rfl
    rw [hX]; unfold bytesOf; simp only [List.length_append, List.length_cons, List.length_nil, hx]; omega
  obtain ⟨j, hj⟩ : ∃ j, j = cut % X.length := ⟨_, rfl⟩
  have hj1 : j < X.length := by rw [hj]; exact Nat.mod_lt _ (by omega)
  have hmj : (cut : Int) % (X.length : Int) = (j : Int) := by rw [hj]; exact (Int.natCast_emod cut X.length).symm
  have K1 : Hid (∀ v w, Reads w v (X.take j) → Old w.heap.size v → Calls Tryd.prog 17 #[v] w fun e w' => e = .returned (.tuple #[Z4, .int .i64 32]) ∧ Below w.heap.size w w') := fun v w h ho => by
    refine (cDecode v _ w h ho (by rw [List.length_take]; omega)).mono fun e w' ⟨⟨V, h1, _, h3⟩, h4⟩ => ?_
    have : (decodeF (X.take j)).2 = 32 := by rw [hX]; exact decode_cut hv hfm (by rw [← hX]; exact hj1)
    rw [this] at h1 h3
    rw [h3 (by decide)] at h1
    exact ⟨h1, h4⟩
  have K2 : Hid (∀ v w, Reads w v (X ++ [UInt8.ofNat y]) → Old w.heap.size v → Calls Tryd.prog 17 #[v] w fun e w' => e = .returned (.tuple #[Z4, .int .i64 30]) ∧ Below w.heap.size w w') := fun v w h ho => by
    refine (cDecode v _ w h ho (by simp; omega)).mono fun e w' ⟨⟨V, h1, _, h3⟩, h4⟩ => ?_
    have : (decodeF (X ++ [UInt8.ofNat y])).2 = 30 := by rw [hX]; exact decode_more hv hfm _
    rw [this] at h1 h3
    rw [h3 (by decide)] at h1
    exact ⟨h1, h4⟩
  have huy : (UInt8.ofNat y).toNat = y := by simp; omega
  have HUY : Hid ((y : Int) = (((UInt8.ofNat y).toNat : Nat) : Int)) := by unfold Hid; rw [huy]
  have HT := Lib.hid htab
  have e0 : ((X.length : Int) == 0) = false := by rw [beq_eq_false_iff_ne]; omega
  have e1 : ((y : Int) == 0) = false := by rw [beq_eq_false_iff_ne]; omega
  have e2 : ((m.data.length : Int) == 0) = false := by rw [beq_eq_false_iff_ne]; omega
  obtain ⟨i, hi⟩ : ∃ i, i = cut % m.data.length := ⟨_, rfl⟩
  have hi1 : i < m.data.length := by rw [hi]; exact Nat.mod_lt _ (by omega)
  have hmi : (cut : Int) % (m.data.length : Int) = (i : Int) := by rw [hi]; exact (Int.natCast_emod cut _).symm
  obtain ⟨k, hk⟩ : ∃ k, k = dataAt m + i := ⟨_, rfl⟩
  have hkl : k < X.length := by omega
  have hke : (X.length : Int) - 11 - (m.data.length : Int) + (i : Int) = (k : Int) := by omega
  obtain ⟨a, ha⟩ : ∃ a : Nat, a = (X.getD k 0).toNat := ⟨_, rfl⟩
  have hab : a < 256 := by rw [ha]; exact (X.getD k 0).toNat_lt
  obtain ⟨x, hx⟩ : ∃ x : Nat, x = a ^^^ y := ⟨_, rfl⟩
  have hxb : x < 256 := by rw [hx]; exact Nat.xor_lt_two_pow (n := 8) (by omega) (by omega)
  have hxx : bits .xor .u8 (a : Int) (y : Int) = (x : Int) := by rw [u8_xor_nat a y (by omega) (by omega), hx]
  have hux : (UInt8.ofNat x).toNat = x := by simp; omega
  have K3 : Hid (∀ v w, Reads w v (X.set k (UInt8.ofNat x)) → Old w.heap.size v → Calls Tryd.prog 17 #[v] w fun e w' => e = .returned (.tuple #[Z4, .int .i64 33]) ∧ Below w.heap.size w w') := fun v w h ho => by
    refine (cDecode v _ w h ho (by simp; omega)).mono fun e w' ⟨⟨V, h1, _, h3⟩, h4⟩ => ?_
    have : (decodeF (X.set k (UInt8.ofNat x))).2 = 33 := by
      rw [hX, hk]
      refine decode_turned hv hfm hi1 _ (fun e => ?_)
      have e2 := congrArg UInt8.toNat e
      rw [hux, ← data_at m hi1, ← hX, ← hk, ← ha, hx] at e2
      have : a ^^^ y = a ^^^ 0 := by rw [e2]; simp
      have := xorL this
      omega
    rw [this] at h1 h3
    rw [h3 (by decide)] at h1
    exact ⟨h1, h4⟩
  have HY := Lib.hid ha
  have HX : Hid (((UInt8.ofNat x).toNat : Int) = (x : Int)) := by unfold Hid; rw [hux]
  have hX3 : m.data.length + 11 ≤ X.length := by omega
  clear hXl hk
  clear hf htab hr hv hfm hX hj hi huy hx hux ha
  obtain ⟨A, c, D, e, rfl, hrr, hd⟩ := hm
  have hm0 : MR w (msgV m A c D e) m := ⟨A, c, D, e, rfl, hrr, hd⟩
  unfold msgV at *
  unfold Z4 at *
  clear hrr hd
  obtain ⟨w0, hw0⟩ : ∃ w0, w0 = w.alloc (.cells #[.int .i64 m.time, .string m.sender, .slice A m.rcpts.length c, .slice D m.data.length e] 25) := ⟨_, rfl⟩
  have hb0 : Below w.heap.size w w0 := by rw [hw0]; exact Below.alloc1 _ _
  have bm0 : BoxAt w0 w.heap.size m.time m.sender (.slice A m.rcpts.length c) (.slice D m.data.length e) := by rw [hw0]; exact BoxAt.new ..
  have HW := Lib.hid hw0
  clear hw0
  go_enter Tryd.func6, Tryd.ntmps6
  go_wp2_with (go_at_call 7; refine (S0.out _ (HT.out.on (Below.alloc1 _ _) |>.up (by simp))).mono ?_; rintro ee w1 ⟨rfl, b1⟩; refine Hid.out ?_)
  refine Lib.hid ?_
  rw [← HW.out] at b1
  have bm1 := bm0.on b1 bm0.msg
  have bw1 := hb0.trans (b1.mono hb0.size)
  have hm1 := hm0.on bw1
  have BM1 := Lib.hid bm1
  obtain ⟨p0, p1, p2, p3⟩ := bm1
  clear bm0
  go_wp2_with (go_at_call 10; refine (KX.out _ hm1 (HT.out.on bw1 |>.up bw1.size)).mono ?_; rintro ee w2 ⟨v2, rfl, o2, b2⟩; refine Hid.out ?_)
  refine Lib.hid ?_
  have bm2 := BM1.out.on b2 BM1.out.msg
  have bw2 := bw1.trans (b2.mono bw1.size)
  clear p0 p1 p2 p3 hm1
  obtain ⟨g2, c2, rfl, hc2, hd2⟩ := o2.form2 (by omega)
  obtain ⟨_, _, he, hg1, hg2⟩ := o2.form (by omega)
  obtain ⟨rfl, rfl⟩ : g2 = _ ∧ c2 = _ := by injection he with h1 _ h3; injection h1 with h1; injection h1 with h1; exact ⟨h1, h3⟩
  have R2 := Lib.hid (o2.cut j (by omega))
  go_wp2_with (go_at_call 17; refine (K1.out _ _ R2.out (o2.old _ _)).mono ?_; rintro ee w3 ⟨rfl, b3⟩; refine Hid.out ?_)
  refine Lib.hid ?_
  have s3 := b3.size
  have OW : Hid (Owns ((w3.alloc (.cells #[.int .i64 0, .string ⟨#[]⟩, .slice none 0 0, .slice none 0 0] 25)).alloc (.cells #[] 5)) (w3.heap.size + 1) (.slice (some ⟨w3.heap.size + 1, 0, none⟩) 0 0) []) := by
    have := owns_new (w3.alloc (.cells #[.int .i64 0, .string ⟨#[]⟩, .slice none 0 0, .slice none 0 0] 25))
    unfold Hid; simpa using this
  have q3 : Below w2.heap.size w2 ((w3.alloc (.cells #[.int .i64 0, .string ⟨#[]⟩, .slice none 0 0, .slice none 0 0] 25)).alloc (.cells #[] 5)) := (b3.alloc s3 _).alloc (by simp; omega) _
  have RX := Lib.hid (o2.on q3).reads
  go_wp2_with (at_builtin; refine wp_append_reads _ rfl _ _ rfl (w3.heap.size + 1) _ _ [] X rfl rfl OW.out RX.out (by simp; omega) (by simp) ?_; intro v4 w4 own4 b4; refine Hid.out ?_)
  refine Lib.hid ?_
  rw [List.nil_append] at own4
  have s4 := b4.size
  have s4 : w3.heap.size + 2 ≤ w4.heap.size := by simpa using s4
  have q4 := q3.trans (b4.mono (by omega))
  go_wp2_with (at_builtin; refine wp_append_reads _ rfl _ _ rfl (w3.heap.size + 1) v4 _ X [UInt8.ofNat y] rfl rfl (own4.on ((Below.refl _ _).alloc (Nat.le_refl _) _)) (reads_one _ _ _ _ HUY.out) (by simp; omega) (by simp; omega) ?_; intro v5 w5 own5 b5; refine Hid.out ?_)
  refine Lib.hid ?_
  have q5 := (q4.alloc q4.size _).trans (b5.mono (by omega))
  obtain ⟨g5, c5, he5, hg5, hg6⟩ := own5.form (by simp)
  obtain rfl : v5 = .slice (some ⟨g5, 0, none⟩) (X.length + 1) c5 := by simpa using he5
  have R5 := Lib.hid own5.reads
  have O5 := Lib.hid (own5.old (X.length + 1) c5)
  clear own5 own4 he5
  go_wp2_with (go_at_call 17; refine (K2.out _ _ R5.out O5.out).mono ?_; rintro ee w6 ⟨rfl, b6⟩; refine Hid.out ?_)
  refine Lib.hid ?_
  have q6 := q5.trans (b6.mono q5.size)
  have s6 := q6.size
  have q7 : Below w2.heap.size w2 (w6.alloc (.cells #[.int .i64 0, .string ⟨#[]⟩, .slice none 0 0, .slice none 0 0] 25)) := q6.alloc s6 _
  have bm7 := bm2.on q7 bm2.msg
  have o7 := o2.on q7
  have hcell := o7.cell k hkl
  rw [← HY.out] at hcell
  have hfree := o7.free k
  have s2 := BM1.out.msg
  have O7 : Hid (∀ n, Owns ((w6.alloc (.cells #[.int .i64 0, .string ⟨#[]⟩, .slice none 0 0, .slice none 0 0] 25)).drewN n) w1.heap.size (.slice (some ⟨g2, 0, none⟩) X.length c2) X) := fun n => o7.on ⟨rfl, rfl, rfl, Nat.le_refl _, fun _ _ => rfl⟩
  have R7 : Hid (∀ n, Reads (((w6.alloc (.cells #[.int .i64 0, .string ⟨#[]⟩, .slice none 0 0, .slice none 0 0] 25)).drewN n).setCell ⟨g2, k, none⟩ (.int .u8 x)) (.slice (some ⟨g2, 0, none⟩) X.length c2) (X.set k (UInt8.ofNat x))) := fun n => by
    have := ((O7.out n).stored k (UInt8.ofNat x) hkl).reads
    rw [HX.out] at this
    exact this
  have N7 : Hid (∀ n, Old (((w6.alloc (.cells #[.int .i64 0, .string ⟨#[]⟩, .slice none 0 0, .slice none 0 0] 25)).drewN n).setCell ⟨g2, k, none⟩ (.int .u8 x)).heap.size (.slice (some ⟨g2, 0, none⟩) X.length c2)) := fun n => by
    have := (O7.out n).old X.length c2
    simpa using this
  have Q7 : Hid (∀ n w', Below (((w6.alloc (.cells #[.int .i64 0, .string ⟨#[]⟩, .slice none 0 0, .slice none 0 0] 25)).drewN n).setCell ⟨g2, k, none⟩ (.int .u8 x)).heap.size (((w6.alloc (.cells #[.int .i64 0, .string ⟨#[]⟩, .slice none 0 0, .slice none 0 0] 25)).drewN n).setCell ⟨g2, k, none⟩ (.int .u8 x)) w' → Below w.heap.size w w') := fun n w' h => by
    have z1 : Below w.heap.size w (w6.alloc (.cells #[.int .i64 0, .string ⟨#[]⟩, .slice none 0 0, .slice none 0 0] 25)) := bw2.trans (q7.mono bw2.size)
    have z2 : Below w.heap.size w ((w6.alloc (.cells #[.int .i64 0, .string ⟨#[]⟩, .slice none 0 0, .slice none 0 0] 25)).drewN n) := z1.trans ⟨rfl, rfl, rfl, Nat.le_refl _, fun _ _ => rfl⟩
    have z3 : Below w.heap.size w (((w6.alloc (.cells #[.int .i64 0, .string ⟨#[]⟩, .slice none 0 0, .slice none 0 0] 25)).drewN n).setCell ⟨g2, k, none⟩ (.int .u8 x)) := z2.setCell (Nat.le_trans bw1.size hg1) _
    exact z3.trans (h.mono z3.size)
  clear o7 O7
  obtain ⟨p0, p1, p2, p3⟩ := bm7
  go_wp2
  go_quiet (fail)
  go_wp2_with (go_at_call 17; refine (K3.out _ _ (R7.out _) (N7.out _)).mono ?_; rintro ee w8 ⟨rfl, b8⟩; refine Hid.out ?_)
  refine Lib.hid ?_
  go_wp2
  go_ret
  exact ⟨rfl, (Q7.out _ _ b8).alloc (Q7.out _ _ b8).size _⟩

/-- THE LAW, at every argument. -/
theorem torn_law (v : Value) (m : Msg) (cut y : Int) (W : World) (hf : Fits m) (_h24 : m.rcpts.length * 24 ≤ 140737488351232) (hm : MR W v m) (wc : (Lit.int .i64 cut).wf = true) (wy : (Lit.int .u8 y).wf = true) (htab : Tab W.heap.size W) :
    Calls Tryd.prog 6 #[v, .int .i64 cut, .int .u8 y] W fun e w' => e = .returned (.bool true) ∧ Below W.heap.size W w' := by
  have bc := bounds_i64 wc
  have by_ := bounds_u8 wy
  by_cases hr : rightOf m = 0
  · by_cases hc : cut < 0
    · exact torn_idle v m cut y W hf hm htab (Or.inr (Or.inl ⟨hr, hc⟩))
    · by_cases hy : y = 0
      · exact torn_idle v m cut y W hf hm htab (Or.inr (Or.inr ⟨hr, by omega, hy⟩))
      · obtain ⟨cut, rfl⟩ := Int.eq_ofNat_of_zero_le (show 0 ≤ cut by omega)
        obtain ⟨y, rfl⟩ := Int.eq_ofNat_of_zero_le (show 0 ≤ y by omega)
        by_cases hd : m.data.length = 0
        · exact torn_empty v m cut y W hf hm htab hr (by omega) (by omega) (by omega) hd
        · exact torn_main v m cut y W hf hm htab hr (by omega) (by omega) (by omega) hd
  · exact torn_idle v m cut y W hf hm htab (Or.inl hr)
end Go.Proofs.YthoeicidilnleaaDoor.Codec
