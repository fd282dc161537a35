/-
  CODEC: CodecTorn returns true at every argument and leaves what was there.
-/
import Derived.Test.YthmacfeahnbgbaaDoorCodecTurnedWalk
import Derived.Test.YthmacfeahnbgbaaDoorCodecBack
namespace Go.Proofs.YthmacfeahnbgbaaDoor.Codec
open Go.ChangeShapes
open Go.RowKit

theorem Owns.form2 {w : World} {B : Nat} {v : Value} {l : List UInt8} (h : Owns w B v l) (h0 : 0 < l.length) : ∃ g c, v = .slice (some ⟨g, 0, none⟩) l.length c ∧ l.length ≤ c ∧ c ≤ 9223372036854775807 := by
  rcases h.2 with ⟨_, hn⟩ | ⟨g, cap, cur, rfl, h1, h2, h3, h4, _⟩
  · omega
  · exact ⟨g, cap, rfl, h3, h4⟩
theorem cNumber_end (n : Int) (w : World) (htab : Tab w.heap.size w) : ∃ l z, Calls Tryd.prog 11 #[.int .i64 n] w (OwnEnd l z w) := by
  by_cases h : n < 0 ∨ 9007199254740992 < n
  · exact ⟨_, _, cNumber_no n w h⟩
  · obtain ⟨n, rfl⟩ := Int.eq_ofNat_of_zero_le (show 0 ≤ n by omega)
    exact ⟨_, _, cNumber_yes n w (by omega) htab⟩
theorem cText_end (s : ByteArray) (w : World) (htab : Tab w.heap.size w) : ∃ l z, Calls Tryd.prog 19 #[.string s] w (OwnEnd l z w) := by
  by_cases h : 1048576 < s.size
  · exact ⟨_, _, cText_no s w h⟩
  · exact ⟨_, _, cText_yes s w (by omega) htab⟩

theorem torn_no1 (n : Int) (s : ByteArray) (cut : Int) (w : World) (h : n < 0 ∨ 9007199254740992 < n) (htab : Tab w.heap.size w) :
    Calls Tryd.prog 7 #[.int .i64 n, .string s, .int .i64 cut] w fun e w' => e = .returned (.bool true) ∧ Below w.heap.size w w' := by
  have hs := Lib.hid (shown_any w htab)
  have S1 := Lib.hid (fun w => cNumber_no n w h)
  have HT := Lib.hid htab
  clear htab h
  go_enter Tryd.func7, Tryd.ntmps7
  go_wp2_with (go_at_call 9; refine hs.out.mono ?_; rintro e w1 ⟨rfl, b1⟩; refine Hid.out ?_)
  refine Lib.hid ?_
  go_wp2_with (go_at_call 11; refine (S1.out _).mono ?_; rintro e w2 ⟨v2, rfl, o2, b2⟩; refine Hid.out ?_)
  refine Lib.hid ?_
  have s1 := b1.size
  have s2 := b2.size
  obtain ⟨lt, zt, ht⟩ := cText_end s w2 (HT.out.on (b1.trans (b2.mono s1)) |>.up (Nat.le_trans s1 s2))
  have S2 := Lib.hid ht
  clear ht
  go_wp2_with (go_at_call 19; refine S2.out.mono ?_; rintro e w3 ⟨v3, rfl, o3, b3⟩; refine Hid.out ?_)
  refine Lib.hid ?_
  go_wp2
  go_ret
  exact ⟨rfl, (b1.trans (b2.mono s1)).trans (b3.mono (Nat.le_trans s1 s2))⟩
theorem torn_no2 (n : Nat) (s : ByteArray) (cut : Int) (w : World) (hn : n ≤ 9007199254740992) (h : 1048576 < s.size) (htab : Tab w.heap.size w) :
    Calls Tryd.prog 7 #[.int .i64 n, .string s, .int .i64 cut] w fun e w' => e = .returned (.bool true) ∧ Below w.heap.size w w' := by
  have hs := Lib.hid (shown_any w htab)
  have S1 := Lib.hid (fun w => cNumber_yes n w hn)
  have S2 := Lib.hid (fun w => cText_no s w h)
  have HT := Lib.hid htab
  clear htab h hn
  go_enter Tryd.func7, Tryd.ntmps7
  go_wp2_with (go_at_call 9; refine hs.out.mono ?_; rintro e w1 ⟨rfl, b1⟩; refine Hid.out ?_)
  refine Lib.hid ?_
  go_wp2_with (go_at_call 11; refine (S1.out _ (HT.out.on b1 |>.up b1.size)).mono ?_; rintro e w2 ⟨v2, rfl, o2, b2⟩; refine Hid.out ?_)
  refine Lib.hid ?_
  have s1 := b1.size
  have s2 := b2.size
  go_wp2_with (go_at_call 19; refine (S2.out _).mono ?_; rintro e w3 ⟨v3, rfl, o3, b3⟩; refine Hid.out ?_)
  refine Lib.hid ?_
  go_wp2
  go_ret
  exact ⟨rfl, (b1.trans (b2.mono s1)).trans (b3.mono (Nat.le_trans s1 s2))⟩
theorem torn_no3 (n : Nat) (s : ByteArray) (cut : Int) (w : World) (hn : n ≤ 9007199254740992) (h : s.size ≤ 1048576) (hcut : cut < 0) (htab : Tab w.heap.size w) :
    Calls Tryd.prog 7 #[.int .i64 n, .string s, .int .i64 cut] w fun e w' => e = .returned (.bool true) ∧ Below w.heap.size w w' := by
  have hs := Lib.hid (shown_any w htab)
  have S1 := Lib.hid (fun w => cNumber_yes n w hn)
  have S2 := Lib.hid (fun w => cText_yes s w h)
  have HT := Lib.hid htab
  clear htab h hn
  go_enter Tryd.func7, Tryd.ntmps7
  go_wp2_with (go_at_call 9; refine hs.out.mono ?_; rintro e w1 ⟨rfl, b1⟩; refine Hid.out ?_)
  refine Lib.hid ?_
  go_wp2_with (go_at_call 11; refine (S1.out _ (HT.out.on b1 |>.up b1.size)).mono ?_; rintro e w2 ⟨v2, rfl, o2, b2⟩; refine Hid.out ?_)
  refine Lib.hid ?_
  have s1 := b1.size
  have s2 := b2.size
  go_wp2_with (go_at_call 19; refine (S2.out _ (HT.out.on (b1.trans (b2.mono s1)) |>.up (Nat.le_trans s1 s2))).mono ?_; rintro e w3 ⟨v3, rfl, o3, b3⟩; refine Hid.out ?_)
  refine Lib.hid ?_
  go_wp2
  go_ret
  exact ⟨rfl, (b1.trans (b2.mono s1)).trans (b3.mono (Nat.le_trans s1 s2))⟩

set_option maxHeartbeats 400000 in
theorem torn_main (n : Nat) (s : ByteArray) (cut : Nat) (w : World) (hn : n ≤ 9007199254740992) (h : s.size ≤ 1048576) (hcut : cut ≤ 9223372036854775807) (htab : Tab w.heap.size w) :
    Calls Tryd.prog 7 #[.int .i64 n, .string s, .int .i64 cut] w fun e w' => e = .returned (.bool true) ∧ Below w.heap.size w w' := by
  have hs := Lib.hid (shown_any w htab)
  have hsl : s.data.toList.length = s.size := Array.length_toList
  obtain ⟨X, hX⟩ : ∃ X, X = numBytes n := ⟨_, rfl⟩
  obtain ⟨Y, hY⟩ : ∃ Y, Y = textBytes s.data.toList := ⟨_, rfl⟩
  have hX0 : 0 < X.length := by rw [hX]; unfold numBytes; simp
  have hX1 : X.length ≤ 18 := by rw [hX]; unfold numBytes; have := dec_16 hn; simp; omega
  have hY0 : 0 < Y.length := by rw [hY, text_len]; omega
  have hY1 : Y.length ≤ 1048600 := by rw [hY, text_len, hsl]; have := dec_7 h; omega
  have S1 : Hid (∀ w, Tab w.heap.size w → Calls Tryd.prog 11 #[.int .i64 n] w (OwnEnd X 0 w)) := fun w ht => by rw [hX]; exact cNumber_yes n w hn ht
  have S2 : Hid (∀ w, Tab w.heap.size w → Calls Tryd.prog 19 #[.string s] w (OwnEnd Y 0 w)) := fun w ht => by rw [hY]; exact cText_yes s w h ht
  obtain ⟨j, hj⟩ : ∃ j, j = cut % X.length := ⟨_, rfl⟩
  obtain ⟨k, hk⟩ : ∃ k, k = cut % Y.length := ⟨_, rfl⟩
  have hj1 : j < X.length := by rw [hj]; exact Nat.mod_lt _ hX0
  have hk1 : k < Y.length := by rw [hk]; exact Nat.mod_lt _ hY0
  have hmj : (cut : Int) % (X.length : Int) = (j : Int) := by rw [hj]; exact (Int.natCast_emod cut X.length).symm
  have hmk : (cut : Int) % (Y.length : Int) = (k : Int) := by rw [hk]; exact (Int.natCast_emod cut Y.length).symm
  have S3 : Hid (∀ v w, Reads w v (X.take j) → Calls Tryd.prog 12 #[v] w fun e w' => e = .returned (.tuple #[.int .i64 0, .int .i64 0, .int .i64 20]) ∧ w = w') := fun v w hr => by
    refine (cTakeNumber v _ w hr (by have := List.length_take_le' j X; omega)).mono fun e w' he => ?_
    rw [hX, number_torn hn (by rw [← hX]; exact hj1)] at he
    exact he
  have S4 : Hid (∀ v w, Reads w v (Y.take k) → Calls Tryd.prog 14 #[v] w fun e w' => ∃ S : ByteArray, ∃ m : Int, e = .returned (.tuple #[.string S, .int .i64 m, .int .i64 20]) ∧ w = w') := fun v w hr => by
    refine (cTakeText v _ w hr (by have := List.length_take_le' k Y; omega)).mono fun e w' he => ?_
    have ht := text_torn (s := s.data.toList) (by omega) (k := k) (by rw [← hY]; exact hk1)
    rw [← hY] at ht
    obtain ⟨h1, h2⟩ := he
    rw [ht] at h1
    exact ⟨_, _, h1, h2⟩
  have HT := Lib.hid htab
  have e0 : ((X.length : Int) == 0) = false := by rw [beq_eq_false_iff_ne]; omega
  have e1 : ((Y.length : Int) == 0) = false := by rw [beq_eq_false_iff_ne]; omega
  clear htab h hn hX hY hj hk hsl
  go_enter Tryd.func7, Tryd.ntmps7
  go_wp2_with (go_at_call 9; refine hs.out.mono ?_; rintro e w1 ⟨rfl, b1⟩; refine Hid.out ?_)
  refine Lib.hid ?_
  go_wp2_with (go_at_call 11; refine (S1.out _ (HT.out.on b1 |>.up b1.size)).mono ?_; rintro e w2 ⟨v2, rfl, o2, b2⟩; refine Hid.out ?_)
  refine Lib.hid ?_
  have s1 := b1.size
  have s2 := b2.size
  go_wp2_with (go_at_call 19; refine (S2.out _ (HT.out.on (b1.trans (b2.mono s1)) |>.up (Nat.le_trans s1 s2))).mono ?_; rintro e w3 ⟨v3, rfl, o3, b3⟩; refine Hid.out ?_)
  refine Lib.hid ?_
  have o2 := o2.on b3
  obtain ⟨g2, c2, rfl, hc2, hd2⟩ := o2.form2 hX0
  obtain ⟨g3, c3, rfl, hc3, hd3⟩ := o3.form2 hY0
  have R2 := Lib.hid (o2.cut j (by omega))
  have R3 := Lib.hid (o3.cut k (by omega))
  go_wp2_with (go_at_call 12; refine (S3.out _ _ R2.out).mono ?_; rintro e w ⟨rfl, rfl⟩; refine Hid.out ?_)
  refine Lib.hid ?_
  go_wp2_with (go_at_call 14; refine (S4.out _ _ R3.out).mono ?_; rintro e w ⟨S, m, rfl, rfl⟩; refine Hid.out ?_)
  refine Lib.hid ?_
  go_wp2
  go_ret
  exact ⟨rfl, (b1.trans (b2.mono s1)).trans (b3.mono (Nat.le_trans s1 s2))⟩

theorem torn_law (n : Int) (s : ByteArray) (cut : Int) (W : World) (wn : (Lit.int .i64 n).wf = true) (_ws : s.size ≤ 140737488351232) (wc : (Lit.int .i64 cut).wf = true) (htab : Tab W.heap.size W) :
    Calls Tryd.prog 7 #[.int .i64 n, .string s, .int .i64 cut] W fun e w' => e = .returned (.bool true) ∧ Below W.heap.size W w' := by
  have bc := bounds_i64 wc
  by_cases h : n < 0 ∨ 9007199254740992 < n
  · exact torn_no1 n s cut W h htab
  · obtain ⟨n, rfl⟩ := Int.eq_ofNat_of_zero_le (show 0 ≤ n by omega)
    by_cases h2 : 1048576 < s.size
    · exact torn_no2 n s cut W (by omega) h2 htab
    · by_cases h3 : cut < 0
      · exact torn_no3 n s cut W (by omega) (by omega) h3 htab
      · obtain ⟨cut, rfl⟩ := Int.eq_ofNat_of_zero_le (show 0 ≤ cut by omega)
        exact torn_main n s cut W (by omega) (by omega) (by omega) htab
end Go.Proofs.YthmacfeahnbgbaaDoor.Codec
