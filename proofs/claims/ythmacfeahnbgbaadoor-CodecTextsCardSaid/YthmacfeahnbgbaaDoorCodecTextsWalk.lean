/-
  CODEC: CodecTexts returns true at every argument and leaves what was there.
-/
import Derived.Test.YthmacfeahnbgbaaDoorCodecTurnedWalk
import Derived.Test.YthmacfeahnbgbaaDoorCodecBack
namespace Go.Proofs.YthmacfeahnbgbaaDoor.Codec
open Go.ChangeShapes
open Go.RowKit

theorem texts_no (s : ByteArray) (v : Value) (w : World) (h : 1048576 < s.size) (htab : Tab w.heap.size w) :
    Calls Tryd.prog 5 #[.string s, v] w fun e w' => e = .returned (.bool true) ∧ Below w.heap.size w w' := by
  have hs := Lib.hid (shown_any w htab)
  have S1 := Lib.hid (fun w => rText_no s w h)
  have S2 := Lib.hid (fun w => cText_no s w h)
  clear htab h
  go_enter Tryd.func5, Tryd.ntmps5
  go_wp2_with (go_at_call 9; refine hs.out.mono ?_; rintro e w1 ⟨rfl, b1⟩; refine Hid.out ?_)
  refine Lib.hid ?_
  go_wp2_with (go_at_call 18; refine (S1.out _).mono ?_; rintro e w2 ⟨v2, rfl, r2, b2⟩; refine Hid.out ?_)
  refine Lib.hid ?_
  go_wp2_with (go_at_call 19; refine (S2.out _).mono ?_; rintro e w3 ⟨v3, rfl, o3, b3⟩; refine Hid.out ?_)
  refine Lib.hid ?_
  have g2 := conv_reads (r2.on b3)
  have g3 := conv_reads o3.reads
  have s1 := b1.size
  have s2 := b2.size
  go_wp2
  go_ret
  exact ⟨rfl, (b1.trans (b2.mono s1)).trans (b3.mono (Nat.le_trans s1 s2))⟩

set_option maxHeartbeats 400000 in
theorem texts_yes (s : ByteArray) (v : Value) (l : List UInt8) (w : World) (h : s.size ≤ 1048576) (hr : Reads w v l) (hl : l.length ≤ 140737488351232) (htab : Tab w.heap.size w) :
    Calls Tryd.prog 5 #[.string s, v] w fun e w' => e = .returned (.bool true) ∧ Below w.heap.size w w' := by
  have hs := Lib.hid (shown_any w htab)
  have hsl : s.data.toList.length = s.size := Array.length_toList
  obtain ⟨X, hX⟩ : ∃ X, X = textBytes s.data.toList := ⟨_, rfl⟩
  have hXl : X.length ≤ 1048600 := by rw [hX, text_len, hsl]; have := dec_7 h; omega
  have S1 : Hid (∀ w, Calls Tryd.prog 18 #[.string s] w (BytesEnd X 0 w)) := fun w => by rw [hX]; exact rText_yes s w h
  have S2 : Hid (∀ w, Tab w.heap.size w → Calls Tryd.prog 19 #[.string s] w (OwnEnd X 0 w)) := fun w ht => by rw [hX]; exact cText_yes s w h ht
  have S3 : Hid (∀ v w, Reads w v (X ++ l) → Calls Tryd.prog 14 #[v] w fun e w' => e = .returned (.tuple #[.string s, .int .i64 X.length, .int .i64 0]) ∧ w = w') := fun v w hr => by
    refine (cTakeText v _ w hr (by simp; omega)).mono fun e w' he => ?_
    rw [hX, text_back (by omega)] at he
    rw [hX]; exact he
  have HR := Lib.hid hr
  have HT := Lib.hid htab
  have HX : Hid (X ≠ []) := by
    unfold Hid; intro e; have := text_len s.data.toList; rw [← hX, e] at this; simp at this
  clear htab h hr hX hsl
  go_enter Tryd.func5, Tryd.ntmps5
  go_wp2_with (go_at_call 9; refine hs.out.mono ?_; rintro e w1 ⟨rfl, b1⟩; refine Hid.out ?_)
  refine Lib.hid ?_
  go_wp2_with (go_at_call 18; refine (S1.out _).mono ?_; rintro e w2 ⟨v2, rfl, r2, b2⟩; refine Hid.out ?_)
  refine Lib.hid ?_
  have s1 := b1.size
  have s2 := b2.size
  go_wp2_with (go_at_call 19; refine (S2.out _ (HT.out.on (b1.trans (b2.mono s1)) |>.up (Nat.le_trans s1 s2))).mono ?_; rintro e w3 ⟨v3, rfl, o3, b3⟩; refine Hid.out ?_)
  refine Lib.hid ?_
  have s3 := b3.size
  have g2 := conv_reads (r2.on b3)
  have g3 := conv_reads o3.reads
  have f2 : ∃ b o c, v2 = .slice (some ⟨b, o, none⟩) X.length c := by
    rcases r2 with ⟨h, _⟩ | ⟨b, o, c, rfl, _⟩
    · exact absurd h HX.out
    · exact ⟨b, o, c, rfl⟩
  obtain ⟨gb, go, gc, rfl⟩ := f2
  have b13 := (b1.trans (b2.mono s1)).trans (b3.mono (Nat.le_trans s1 s2))
  go_wp2_with (at_builtin; refine wp_append_reads _ rfl _ _ rfl w3.heap.size _ _ [] X rfl rfl (owns_new w3) (o3.reads.on (Below.alloc1 w3 _)) (by simp; omega) (by simp) ?_; intro v4 w4 own4 b4; refine Hid.out ?_)
  refine Lib.hid ?_
  rw [List.nil_append] at own4
  have s4 := b4.size
  have b14 := (b13.alloc (by omega) (.cells #[] 5)).trans (b4.mono (by omega))
  go_wp2_with (at_builtin; refine wp_append_reads _ rfl _ _ rfl w3.heap.size v4 _ X l rfl rfl own4 (HR.out.on b14) (by omega) (by simp at s4; omega) ?_; intro v5 w5 own5 b5; refine Hid.out ?_)
  refine Lib.hid ?_
  go_wp2_with (go_at_call 14; refine (S3.out _ _ own5.reads).mono ?_; rintro e w ⟨rfl, rfl⟩; refine Hid.out ?_)
  refine Lib.hid ?_
  go_wp2
  go_ret
  exact ⟨rfl, b14.trans (b5.mono (by omega))⟩

theorem texts_law (s : ByteArray) (v : Value) (l : List UInt8) (W : World) (_ws : s.size ≤ 140737488351232) (hr : Reads W v l) (hl : l.length ≤ 140737488351232) (htab : Tab W.heap.size W) :
    Calls Tryd.prog 5 #[.string s, v] W fun e w' => e = .returned (.bool true) ∧ Below W.heap.size W w' := by
  by_cases h : 1048576 < s.size
  · exact texts_no s v W h htab
  · exact texts_yes s v l W (by omega) hr hl htab
end Go.Proofs.YthmacfeahnbgbaaDoor.Codec
