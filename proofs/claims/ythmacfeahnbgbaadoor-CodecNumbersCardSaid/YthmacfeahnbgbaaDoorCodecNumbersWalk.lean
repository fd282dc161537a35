/-
  CODEC: CodecNumbers returns true at every argument and leaves what was there.
-/
import Derived.Test.YthmacfeahnbgbaaDoorCodecTurnedWalk
import Derived.Test.YthmacfeahnbgbaaDoorCodecBack
namespace Go.Proofs.YthmacfeahnbgbaaDoor.Codec
open Go.ChangeShapes
open Go.RowKit

theorem numbers_no (n : Int) (v : Value) (w : World) (h : n < 0 ∨ 9007199254740992 < n) (htab : Tab w.heap.size w) :
    Calls Tryd.prog 3 #[.int .i64 n, v] w fun e w' => e = .returned (.bool true) ∧ Below w.heap.size w w' := by
  have hs := Lib.hid (shown_any w htab)
  have S1 := Lib.hid (fun w => rNumber_no n w h)
  have S2 := Lib.hid (fun w => cNumber_no n w h)
  clear htab h
  go_enter Tryd.func3, Tryd.ntmps3
  go_wp2_with (go_at_call 9; refine hs.out.mono ?_; rintro e w1 ⟨rfl, b1⟩; refine Hid.out ?_)
  refine Lib.hid ?_
  go_wp2_with (go_at_call 10; refine (S1.out _).mono ?_; rintro e w2 ⟨v2, rfl, r2, b2⟩; refine Hid.out ?_)
  refine Lib.hid ?_
  go_wp2_with (go_at_call 11; refine (S2.out _).mono ?_; rintro e w3 ⟨v3, rfl, o3, b3⟩; refine Hid.out ?_)
  refine Lib.hid ?_
  have g2 := conv_reads (r2.on b3)
  have g3 := conv_reads o3.reads
  have s1 := b1.size
  have s2 := b2.size
  go_wp2
  go_ret
  exact ⟨rfl, (b1.trans (b2.mono s1)).trans (b3.mono (Nat.le_trans s1 s2))⟩

set_option maxHeartbeats 400000 in
theorem numbers_yes (n : Nat) (v : Value) (l : List UInt8) (w : World) (h : n ≤ 9007199254740992) (hr : Reads w v l) (hl : l.length ≤ 140737488351232) (htab : Tab w.heap.size w) :
    Calls Tryd.prog 3 #[.int .i64 n, v] w fun e w' => e = .returned (.bool true) ∧ Below w.heap.size w w' := by
  have hs := Lib.hid (shown_any w htab)
  have S1 := Lib.hid (fun w => rNumber_yes n w h)
  obtain ⟨X, hX⟩ : ∃ X, X = numBytes n := ⟨_, rfl⟩
  have hXl : X.length ≤ 18 := by rw [hX]; unfold numBytes; have := dec_16 h; simp; omega
  have S1 : Hid (∀ w, Calls Tryd.prog 10 #[.int .i64 n] w (BytesEnd X 0 w)) := fun w => by rw [hX]; exact rNumber_yes n w h
  have S2 : Hid (∀ w, Tab w.heap.size w → Calls Tryd.prog 11 #[.int .i64 n] w (OwnEnd X 0 w)) := fun w ht => by rw [hX]; exact cNumber_yes n w h ht
  have S3 : Hid (∀ v w, Reads w v (X ++ l) → Calls Tryd.prog 12 #[v] w fun e w' => e = .returned (.tuple #[.int .i64 n, .int .i64 X.length, .int .i64 0]) ∧ w = w') := fun v w hr => by
    refine (cTakeNumber v _ w hr (by simp; omega)).mono fun e w' he => ?_
    rw [hX, number_back h] at he
    rw [hX]; exact he
  have HR := Lib.hid hr
  have HT := Lib.hid htab
  have HX : Hid (X ≠ []) := by rw [hX]; unfold numBytes; unfold Hid; simp
  clear htab h hr hX
  go_enter Tryd.func3, Tryd.ntmps3
  go_wp2_with (go_at_call 9; refine hs.out.mono ?_; rintro e w1 ⟨rfl, b1⟩; refine Hid.out ?_)
  refine Lib.hid ?_
  go_wp2_with (go_at_call 10; refine (S1.out _).mono ?_; rintro e w2 ⟨v2, rfl, r2, b2⟩; refine Hid.out ?_)
  refine Lib.hid ?_
  have s1 := b1.size
  have s2 := b2.size
  go_wp2_with (go_at_call 11; refine (S2.out _ (HT.out.on (b1.trans (b2.mono s1)) |>.up (Nat.le_trans s1 s2))).mono ?_; rintro e w3 ⟨v3, rfl, o3, b3⟩; refine Hid.out ?_)
  refine Lib.hid ?_
  have s3 := b3.size
  have g2 := conv_reads (r2.on b3)
  have g3 := conv_reads o3.reads
  have f2 : ∃ b o c, v2 = .slice (some ⟨b, o, none⟩) X.length c := by
    rcases r2 with ⟨h, _⟩ | ⟨b, o, c, rfl, _⟩
    · exact absurd h HX.out
    · exact ⟨b, o, c, rfl⟩
  obtain ⟨gb, go, gc, rfl⟩ := f2
  have b13 := (b1.trans (b2.mono s1)).trans (b3.mono (Nat.le_trans s1 s2))
  go_wp2_with (at_builtin; refine wp_append_reads _ rfl _ _ rfl w3.heap.size _ _ [] X rfl rfl (owns_new w3) (o3.reads.on (Below.alloc1 w3 _)) (by simp; omega) (by simp) ?_; intro v4 w4 own4 b4; refine Hid.out ?_)
  refine Lib.hid ?_
  rw [List.nil_append] at own4
  have s4 := b4.size
  have b14 := (b13.alloc (by omega) (.cells #[] 5)).trans (b4.mono (by omega))
  go_wp2_with (at_builtin; refine wp_append_reads _ rfl _ _ rfl w3.heap.size v4 _ X l rfl rfl own4 (HR.out.on b14) (by omega) (by simp at s4; omega) ?_; intro v5 w5 own5 b5; refine Hid.out ?_)
  refine Lib.hid ?_
  go_wp2_with (go_at_call 12; refine (S3.out _ _ own5.reads).mono ?_; rintro e w ⟨rfl, rfl⟩; refine Hid.out ?_)
  refine Lib.hid ?_
  go_wp2
  go_ret
  exact ⟨rfl, b14.trans (b5.mono (by omega))⟩

theorem numbers_law (n : Int) (v : Value) (l : List UInt8) (W : World) (wn : (Lit.int .i64 n).wf = true) (hr : Reads W v l) (hl : l.length ≤ 140737488351232) (htab : Tab W.heap.size W) :
    Calls Tryd.prog 3 #[.int .i64 n, v] W fun e w' => e = .returned (.bool true) ∧ Below W.heap.size W w' := by
  by_cases h : n < 0 ∨ 9007199254740992 < n
  · exact numbers_no n v W h htab
  · obtain ⟨n, rfl⟩ := Int.eq_ofNat_of_zero_le (show 0 ≤ n by omega)
    exact numbers_yes n v l W (by omega) hr hl htab
end Go.Proofs.YthmacfeahnbgbaaDoor.Codec
