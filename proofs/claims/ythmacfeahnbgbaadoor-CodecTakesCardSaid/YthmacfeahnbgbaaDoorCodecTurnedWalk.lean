/-
  CODEC: CodecTurned returns true at every argument and leaves what was there.
-/
import Derived.Test.YthmacfeahnbgbaaDoorCodecFrame
namespace Go.Proofs.YthmacfeahnbgbaaDoor.Codec
open Go.ChangeShapes
open Go.RowKit

theorem owns_new (w : World) : Owns (w.alloc (.cells #[] 5)) w.heap.size (.slice (some ⟨w.heap.size, 0, none⟩) 0 0) [] :=
  World.ownsRow_lit w #[] 0 (Nat.le_refl _) (by decide) rfl
theorem Owns.form {w : World} {B : Nat} {v : Value} {l : List UInt8} (h : Owns w B v l) (h0 : 0 < l.length) : ∃ g c, v = .slice (some ⟨g, 0, none⟩) l.length c ∧ B ≤ g ∧ g < w.heap.size := by
  rcases h.2 with ⟨_, hn⟩ | ⟨g, cap, cur, rfl, h1, h2, _⟩
  · omega
  · refine ⟨g, cap, rfl, h1, ?_⟩
    rcases Nat.lt_or_ge g w.heap.size with h | h
    · exact h
    · rw [Array.getElem?_eq_none h] at h2; simp at h2
/-- One byte stored. -/
theorem Owns.stored {w : World} {B g c : Nat} {l : List UInt8} (h : Owns w B (.slice (some ⟨g, 0, none⟩) l.length c) l) (k : Nat) (x : UInt8) (_hk : k < l.length) :
    Owns (w.setCell ⟨g, k, none⟩ (.int .u8 (x.toNat : Int))) B (.slice (some ⟨g, 0, none⟩) l.length c) (l.set k x) := by
  have := World.ownsRow.stored h k (.int .u8 (x.toNat : Int))
  unfold Owns
  rw [List.length_set]
  have e : Lib.byteCells (l.set k x) = (Lib.byteCells l).set k (.int .u8 (x.toNat : Int)) := by simp [Lib.byteCells]
  rw [e]
  exact this.1
theorem Owns.cell {w : World} {B g c : Nat} {l : List UInt8} (h : Owns w B (.slice (some ⟨g, 0, none⟩) l.length c) l) (k : Nat) (hk : k < l.length) : w.cell? ⟨g, k, none⟩ = some (.int .u8 ((l.getD k 0).toNat : Int)) := by
  have := World.ownsRow.cellAt h k (by omega)
  rw [this]
  simp [Lib.byteCells, List.getD, List.getElem?_eq_getElem hk]
theorem Owns.free {w : World} {B g c : Nat} {l : List UInt8} (h : Owns w B (.slice (some ⟨g, 0, none⟩) l.length c) l) (k : Nat) : w.frozen? ⟨g, k, none⟩ = false := World.ownsRow.frozenAt h k

theorem turned_none (a : Option Addr) (c : Nat) (p q : Int) (w : World) (htab : Tab w.heap.size w) :
    Calls Tryd.prog 8 #[.slice a 0 c, .int .i64 p, .int .u8 q] w fun e w' => e = .returned (.bool true) ∧ Below w.heap.size w w' := by
  have hs := Lib.hid (shown_any w htab)
  clear htab
  go_enter Tryd.func8, Tryd.ntmps8
  go_wp2_with (go_at_call 9; refine hs.out.mono ?_; rintro e w1 ⟨rfl, b1⟩)
  go_ret
  exact ⟨rfl, b1⟩
theorem turned_idle (b o c : Nat) (l : List UInt8) (p q : Int) (w : World) (hl0 : 0 < l.length) (h : p < 0 ∨ 0 ≤ p ∧ q = 0) (htab : Tab w.heap.size w) :
    Calls Tryd.prog 8 #[.slice (some ⟨b, o, none⟩) l.length c, .int .i64 p, .int .u8 q] w fun e w' => e = .returned (.bool true) ∧ Below w.heap.size w w' := by
  have hs := Lib.hid (shown_any w htab)
  have h0 : ((l.length : Int) == 0) = false := by rw [beq_eq_false_iff_ne]; omega
  clear htab
  rcases h with h | ⟨h, rfl⟩
  · go_enter Tryd.func8, Tryd.ntmps8
    go_wp2_with (go_at_call 9; refine hs.out.mono ?_; rintro e w1 ⟨rfl, b1⟩)
    go_ret
    exact ⟨rfl, b1⟩
  · go_enter Tryd.func8, Tryd.ntmps8
    go_wp2_with (go_at_call 9; refine hs.out.mono ?_; rintro e w1 ⟨rfl, b1⟩)
    go_ret
    exact ⟨rfl, b1⟩

set_option maxHeartbeats 400000 in
theorem turned_main (b o c : Nat) (l : List UInt8) (p q : Nat) (w : World) (hr : Reads w (.slice (some ⟨b, o, none⟩) l.length c) l) (hl0 : 0 < l.length) (hl : l.length ≤ 140737488351232) (hq : 0 < q) (hq2 : q ≤ 255) (hp : p ≤ 9223372036854775807) (htab : Tab w.heap.size w) :
    Calls Tryd.prog 8 #[.slice (some ⟨b, o, none⟩) l.length c, .int .i64 p, .int .u8 q] w fun e w' => e = .returned (.bool true) ∧ Below w.heap.size w w' := by
  have hs := Lib.hid (shown_any w htab)
  have h0 : ((l.length : Int) == 0) = false := by rw [beq_eq_false_iff_ne]; omega
  have h1 : ((q : Int) == 0) = false := by simp; omega
  obtain ⟨k, hk⟩ : ∃ k, k = p % l.length := ⟨_, rfl⟩
  have hkl : k < l.length := by rw [hk]; exact Nat.mod_lt _ hl0
  have hmod : (p : Int) % (l.length : Int) = (k : Int) := by rw [hk]; exact (Int.natCast_emod p l.length).symm
  obtain ⟨y, hy⟩ : ∃ y : Nat, y = (l.getD k 0).toNat := ⟨_, rfl⟩
  have hyb : y < 256 := by rw [hy]; exact (l.getD k 0).toNat_lt
  obtain ⟨x, hx⟩ : ∃ x : Nat, x = y ^^^ q := ⟨_, rfl⟩
  have hxb : x < 256 := by rw [hx]; exact Nat.xor_lt_two_pow (n := 8) (by omega) (by omega)
  have hxx : bits .xor .u8 (y : Int) (q : Int) = (x : Int) := by rw [u8_xor_nat y q (by omega) (by omega), hx]
  have hux : (UInt8.ofNat x).toNat = x := by simp; omega
  have hne : crc (l.set k (UInt8.ofNat x)) ≠ crc l := by
    refine crc_turned l k hkl _ (fun e => ?_)
    have e2 := congrArg UInt8.toNat e
    rw [hux, ← hy, hx] at e2
    have : y ^^^ q = y ^^^ 0 := by rw [e2]; simp
    have := xorL this
    omega
  obtain ⟨c1, hc1⟩ : ∃ c1, c1 = crc l := ⟨_, rfl⟩
  obtain ⟨c2, hc2⟩ : ∃ c2, c2 = crc (l.set k (UInt8.ofNat x)) := ⟨_, rfl⟩
  rw [← hc1, ← hc2] at hne
  have hcmp : (((c1 : Nat) : Int) != ((c2 : Nat) : Int)) = true := by simp; omega
  have S1 : Hid (∀ v w, Reads w v l → Calls Tryd.prog 21 #[v] w fun e w' => e = .returned (.int .u32 c1) ∧ w = w') := fun v w h => by rw [hc1]; exact cSum v l w h (by omega)
  have S2 : Hid (∀ v w, Reads w v (l.set k (UInt8.ofNat x)) → Calls Tryd.prog 21 #[v] w fun e w' => e = .returned (.int .u32 c2) ∧ w = w') := fun v w h => by rw [hc2]; exact cSum v _ w h (by simp; omega)
  have HY := Lib.hid hy
  have HX : Hid (((UInt8.ofNat x).toNat : Int) = (x : Int)) := by unfold Hid; rw [hux]
  have HR := Lib.hid hr
  clear htab hk hy hx hux hne hc1 hc2 hr
  go_enter Tryd.func8, Tryd.ntmps8
  go_wp2_with (go_at_call 9; refine hs.out.mono ?_; rintro e w1 ⟨rfl, b1⟩; refine Hid.out ?_)
  refine Lib.hid ?_
  go_wp2_with (at_builtin; refine wp_append_reads _ rfl _ _ rfl w1.heap.size _ _ [] l rfl rfl (owns_new w1) ((HR.out.on b1).on (Below.alloc1 w1 _)) (by simp; omega) (by simp) ?_; intro v2 w2 own2 b2; refine Hid.out ?_)
  refine Lib.hid ?_
  rw [List.nil_append] at own2
  obtain ⟨g, c', rfl, hg1, hg2⟩ := own2.form hl0
  have hcell := own2.cell k hkl
  rw [← HY.out] at hcell
  have hfree := own2.free k
  have own3 := own2.stored k (UInt8.ofNat x) hkl
  rw [HX.out] at own3
  have s1 := b1.size
  have s2 := b2.size
  go_wp2_with (go_at_call 21; refine (S1.out _ _ own2.reads).mono ?_; rintro e w3 ⟨rfl, rfl⟩; refine Hid.out ?_)
  refine Lib.hid ?_
  have R3 := Lib.hid own3.reads
  clear own3
  go_wp2_with (go_at_call 21; refine (S2.out _ _ R3.out).mono ?_; rintro e w3 ⟨rfl, rfl⟩; refine Hid.out ?_)
  refine Lib.hid ?_
  go_wp2
  go_ret
  exact ⟨rfl, (((b1.alloc s1 _).trans (b2.mono s1)).setCell (Nat.le_trans s1 hg1) _)⟩

/-- THE LAW, at every argument. -/
theorem turned_law (v : Value) (l : List UInt8) (p q : Int) (W : World) (hr : Reads W v l) (hl : l.length ≤ 140737488351232) (wp : (Lit.int .i64 p).wf = true) (wq : (Lit.int .u8 q).wf = true) (htab : Tab W.heap.size W) :
    Calls Tryd.prog 8 #[v, .int .i64 p, .int .u8 q] W fun e w' => e = .returned (.bool true) ∧ Below W.heap.size W w' := by
  have bp := bounds_i64 wp
  have bq := bounds_u8 wq
  rcases hr with ⟨rfl, a, c, rfl, _⟩ | ⟨b, o, c, rfl, h1, h2⟩
  · exact turned_none a c p q W htab
  · by_cases h0 : l.length = 0
    · rw [h0]; exact turned_none _ c p q W htab
    · by_cases hp : p < 0
      · exact turned_idle b o c l p q W (by omega) (Or.inl hp) htab
      · by_cases hq : q = 0
        · exact turned_idle b o c l p q W (by omega) (Or.inr ⟨by omega, hq⟩) htab
        · obtain ⟨p, rfl⟩ := Int.eq_ofNat_of_zero_le (show 0 ≤ p by omega)
          obtain ⟨q, rfl⟩ := Int.eq_ofNat_of_zero_le (show 0 ≤ q by omega)
          exact turned_main b o c l p q W (Or.inr ⟨b, o, c, rfl, h1, h2⟩) (by omega) hl (by omega) (by omega) (by omega) htab
end Go.Proofs.YthmacfeahnbgbaaDoor.Codec
