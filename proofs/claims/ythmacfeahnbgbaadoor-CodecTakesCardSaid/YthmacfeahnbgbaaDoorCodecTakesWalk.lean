/-
  CODEC: CodecTakes returns true at every argument and leaves what was there.
-/
import Derived.Test.YthmacfeahnbgbaaDoorCodecTurnedWalk
import Derived.Deep.QuietTactic
import Derived.BigQuiet
namespace Go.Proofs.YthmacfeahnbgbaaDoor.Codec
open Go.ChangeShapes
open Go.RowKit

theorem Reads.form {w : World} {v : Value} {l : List UInt8} (h : Reads w v l) : ∃ a c, v = .slice a l.length c := by
  rcases h with ⟨rfl, a, c, rfl, _⟩ | ⟨b, o, c, rfl, _⟩
  · exact ⟨a, c, rfl⟩
  · exact ⟨_, c, rfl⟩
theorem Owns.form1 {w : World} {B : Nat} {v : Value} {l : List UInt8} {x : UInt8} (h : Owns w B v (l ++ [x])) : ∃ g c, v = .slice (some ⟨g, 0, none⟩) (l.length + 1) c ∧ l.length + 1 ≤ c ∧ c ≤ 9223372036854775807 ∧
    Reads w (.slice (some ⟨g, 0, none⟩) l.length c) l ∧ w.cell? ⟨g, l.length, none⟩ = some (.int .u8 (x.toNat : Int)) := by
  have e : (l ++ [x]).length = l.length + 1 := by simp
  have h' := h
  rcases h.2 with ⟨_, hn⟩ | ⟨g, cap, cur, rfl, h1, h2, h3, h4, _⟩
  · rw [e] at hn; omega
  · refine ⟨g, cap, by rw [e], by omega, h4, ?_, ?_⟩
    · have := h'.cut l.length (by omega)
      rw [List.take_left' rfl] at this
      exact this
    · rw [h'.cell l.length (by omega)]
      simp [List.getD]

set_option maxHeartbeats 400000 in
set_option maxRecDepth 100000 in
theorem takes_law (v : Value) (l : List UInt8) (W : World) (hr : Reads W v l) (hl : l.length ≤ 140737488351232) (htab : Tab W.heap.size W) :
    Calls Tryd.prog 4 #[v] W fun e w' => e = .returned (.bool true) ∧ Below W.heap.size W w' := by
  have hs := Lib.hid (shown_any W htab)
  obtain ⟨a, c, rfl⟩ := hr.form
  obtain ⟨r1, r2, r3, hn⟩ : ∃ r1 r2 r3, takeNumber l = (r1, r2, r3) := ⟨_, _, _, rfl⟩
  obtain ⟨t0, t2, t3, ht⟩ : ∃ t0 t2 t3, takeText l = (t0, t2, t3) := ⟨_, _, _, rfl⟩
  obtain ⟨x1, x2, hx⟩ : ∃ x1 x2, takeHex l = (x1, x2) := ⟨_, _, rfl⟩
  obtain ⟨T, hT⟩ : ∃ T : ByteArray, T = ⟨t0.toArray⟩ := ⟨_, rfl⟩
  obtain ⟨L, hL⟩ : ∃ L : ByteArray, L = ⟨l.toArray⟩ := ⟨_, rfl⟩
  have S1 : Hid (∀ v w, Reads w v l → Calls Tryd.prog 12 #[v] w fun e w' => e = .returned (.tuple #[.int .i64 r1, .int .i64 r2, .int .i64 r3]) ∧ w = w') := fun v w h => by
    have := cTakeNumber v l w h (by omega); rw [hn] at this; exact this
  have S2 : Hid (∀ v w, Reads w v l → Calls Tryd.prog 13 #[v] w fun e w' => e = .returned (.tuple #[.int .i64 r1, .int .i64 r2, .int .i64 r3]) ∧ w = w') := fun v w h => by
    have := rTakeNumber v l w h (by omega); rw [hn] at this; exact this
  have S3 : Hid (∀ v w, Reads w v l → Calls Tryd.prog 14 #[v] w fun e w' => e = .returned (.tuple #[.string T, .int .i64 t2, .int .i64 t3]) ∧ w = w') := fun v w h => by
    have := cTakeText v l w h (by omega); rw [ht] at this; rw [hT]; exact this
  have S4 : Hid (∀ v w, Reads w v l → Calls Tryd.prog 15 #[v] w fun e w' => e = .returned (.tuple #[.string T, .int .i64 t2, .int .i64 t3]) ∧ w = w') := fun v w h => by
    have := rTakeText v l w h (by omega); rw [ht] at this; rw [hT]; exact this
  have S5 : Hid (∀ v w, Reads w v l → Calls Tryd.prog 16 #[v] w fun e w' => e = .returned (.tuple #[.int .u32 x1, .int .i64 x2]) ∧ w = w') := fun v w h => by
    have := cTakeHex v l w h (by omega); rw [hx] at this; exact this
  have S6 : Hid (∀ v w, Reads w v l → Calls Tryd.prog 17 #[v] w fun e w' => e = .returned (.tuple #[.int .u32 x1, .int .i64 x2]) ∧ w = w') := fun v w h => by
    have := rTakeHex v l w h (by omega); rw [hx] at this; exact this
  have HL := Lib.hid hL
  have HR := Lib.hid hr
  clear hr hn ht hx hT hL htab
  go_enter Tryd.func4, Tryd.ntmps4
  go_wp2_with (go_at_call 9; refine hs.out.mono ?_; rintro e w1 ⟨rfl, b1⟩; refine Hid.out ?_)
  refine Lib.hid ?_
  go_wp2_with (at_builtin; refine wp_append_reads _ rfl _ _ rfl w1.heap.size _ _ [] l rfl rfl (owns_new w1) ((HR.out.on b1).on (Below.alloc1 w1 _)) (by simp; omega) (by simp) ?_; intro v2 w2 own2 b2; refine Hid.out ?_)
  refine Lib.hid ?_
  rw [List.nil_append] at own2
  have s1 := b1.size
  have s2 := b2.size
  have b12 := (b1.alloc s1 (.cells #[] 5)).trans (b2.mono s1)
  go_wp2_with (at_builtin; refine wp_append_reads _ rfl _ _ rfl w1.heap.size v2 _ l [177] rfl rfl (own2.on (Below.alloc1 w2 _)) (reads_one _ _ _ 177 (by decide)) (by simp; omega) (by simp at s2 ⊢; omega) ?_; intro v3 w3 own3 b3; refine Hid.out ?_)
  refine Lib.hid ?_
  have b13 := (b12.alloc (by simp at s2 ⊢; omega) (.cells #[.int .u8 177] 5)).trans (b3.mono s1)
  obtain ⟨g, c5, rfl, hc1, hc2, R3, cell3⟩ := own3.form1
  have R0 := HR.out.on b13
  have g1 : ∀ k, (convert 22 9 (.slice (some ⟨g, 0, none⟩) l.length c5)).run Tryd.prog (w3.drewN k) = .ok (.string L) (w3.drewN k) := fun k => by
    rw [HL.out]; exact conv_reads (R3.on ⟨rfl, rfl, rfl, Nat.le_refl _, fun _ _ => rfl⟩)
  have g2 : ∀ k, (convert 22 9 (.slice a l.length c)).run Tryd.prog (w3.drewN k) = .ok (.string L) (w3.drewN k) := fun k => by
    rw [HL.out]; exact conv_reads (R0.on ⟨rfl, rfl, rfl, Nat.le_refl _, fun _ _ => rfl⟩)
  have R3 := Lib.hid R3
  have R0 := Lib.hid R0
  have cell4 : w3.cell? ⟨g, l.length, none⟩ = some (.int .u8 177) := cell3
  clear cell3 own3 own2 b2 b3 b12 s2 HR
  go_wp2_with (go_at_call 12; refine (S1.out _ _ R3.out).mono ?_; rintro e w ⟨rfl, rfl⟩; refine Hid.out ?_)
  refine Lib.hid ?_
  go_wp2_with (go_at_call 13; refine (S2.out _ _ R0.out).mono ?_; rintro e w ⟨rfl, rfl⟩; refine Hid.out ?_)
  refine Lib.hid ?_
  go_wp2_with (go_at_call 14; refine (S3.out _ _ R3.out).mono ?_; rintro e w ⟨rfl, rfl⟩; refine Hid.out ?_)
  refine Lib.hid ?_
  go_wp2_with (go_at_call 15; refine (S4.out _ _ R0.out).mono ?_; rintro e w ⟨rfl, rfl⟩; refine Hid.out ?_)
  refine Lib.hid ?_
  go_wp2_with (go_at_call 16; refine (S5.out _ _ R3.out).mono ?_; rintro e w ⟨rfl, rfl⟩; refine Hid.out ?_)
  refine Lib.hid ?_
  go_wp2_with (go_at_call 17; refine (S6.out _ _ R0.out).mono ?_; rintro e w ⟨rfl, rfl⟩; refine Hid.out ?_)
  refine Lib.hid ?_
  have hi1 : (l.length : Int) < (l.length : Int) + 1 := by omega
  have hi0 : (0 : Int) ≤ (l.length : Int) := by omega
  go_wp2_with fail
  go_quiet (fail)
  go_wp2
  go_ret
  exact ⟨rfl, b13.trans ⟨rfl, rfl, rfl, Nat.le_refl _, fun _ _ => rfl⟩⟩
end Go.Proofs.YthmacfeahnbgbaaDoor.Codec
