/-
  All deeds, one behind the other: the walk.
-/
import Derived.Test.YtfmphhcdbocgnaaPipeDeeds
namespace Go.Proofs.Ytfmphhcdbocgnaa.Pipe
open Go.RowKit Base
attribute [local go_sem ↓] Go.wp_at_zero Go.wp_at_succ
theorem DM.At.on {W w' : World} {b o : Nat} {d : DM} (h : d.At W b o) (hb : Below W.heap.size W w') : d.At w' b o := by
  obtain ⟨h0, h1, h2, h3, h4, h5, h6, h7, h8⟩ := h
  exact ⟨(hb.cell (p := ⟨b, o, none⟩) (cell_lt h0)).trans h0, (hb.cell (p := ⟨b, o + 1, none⟩) (cell_lt h1)).trans h1, (hb.cell (p := ⟨b, o + 2, none⟩) (cell_lt h2)).trans h2, (hb.cell (p := ⟨b, o + 3, none⟩) (cell_lt h3)).trans h3, (hb.cell (p := ⟨b, o + 4, none⟩) (cell_lt h4)).trans h4, h5, h6, h7.on hb, h8⟩
theorem upd_len (L : List PA) (f t : ByteArray) (F : PA → PA) : (upd L f t F).length = L.length := by unfold upd; simp
theorem stepL_len (L : List PA) (k : Int) (f t : ByteArray) (most : Int) (l : List UInt8) : (stepL L k f t most l).length ≤ L.length + 1 := by
  unfold stepL
  split
  · unfold openL; split
    · omega
    · split
      · omega
      · simp
  split
  · unfold sendL; split
    · rw [upd_len]; omega
    · omega
  split
  · unfold takeL; rw [upd_len]; omega
  split <;> simp
/-- What the loop keeps. -/
def PlayR (W : World) (g mb gr : Nat) (k : Nat) (wr : World) : Prop :=
  ∃ L own Ps rv Rs, Duo W wr own g mb gr L L Ps rv Rs ∧ L.length ≤ k
set_option maxHeartbeats 8000000 in
set_option maxRecDepth 100000 in
theorem plays_walk (A : Option Addr) (c : Nat) (ds : List DM) (W : World) (hd : Deeds W A ds) (hl : ds.length ≤ 9223372036854775807) :
    Calls Try.prog 3 #[.slice A ds.length c] W (TrueEnd W) := by
  have HD := Lib.hid hd
  have HLL := Lib.hid hl
  clear hd hl
  go_enter Try.func3, Try.ntmps3
  go_wp2_with fail
  refine (cShown _).mono ?_
  rintro e w1 ⟨rfl, b1⟩
  refine Hid.out ?_
  refine Lib.hid ?_
  go_wp2_with fail
  refine (cNew (fun _ => .no) _).mono ?_
  rintro e w2 ⟨g, mb, own2, rfl, h2, s2⟩
  refine Hid.out ?_
  refine Lib.hid ?_
  go_wp2_with fail
  refine (rNew own2 _ h2.fresh).mono ?_
  rintro e w3 ⟨gr, own3, rfl, h3, s3⟩
  refine Hid.out ?_
  refine Lib.hid ?_
  have HU : Hid (Duo W w3 own3 g mb gr [] [] [] (.slice none 0 0) []) := by
    have t2 : ∀ b, b < W.heap.size → own2 b = .no := fun b hb => by
      rw [s2.tags b (Nat.lt_of_lt_of_le hb b1.size) (fun t e => by cases e)]
    refine ⟨h2.stepR s3 h3.fresh, rfl, h3, rfl, (b1.trans (s2.below.mono b1.size)).trans (s3.belowD t2 (Nat.le_trans b1.size s2.size)), fun b hb => ?_⟩
    rw [s3.tags b (Nat.lt_of_lt_of_le hb (Nat.le_trans b1.size s2.size)) (fun t e => by rw [t2 b hb] at e; cases e)]
    exact t2 b hb
  clear b1 h2 s2 h3 s3
  obtain ⟨R, hR⟩ : ∃ R : Value → World → Prop, R = fun i wr => ∃ k : Nat, k ≤ ds.length ∧ k ≤ 300 ∧ i = .int .i64 k ∧ PlayR W g mb gr k wr := ⟨_, rfl⟩
  have HR := Lib.hid hR
  clear hR
  obtain ⟨n, hn⟩ : ∃ n, n = ds.length := ⟨_, rfl⟩
  rw [← hn] at HLL
  rw [← hn]
  have HN := Lib.hid hn
  clear hn
  go_wp2
  go_loopw [6] (fun i wr => R i wr) (fun i _ => n - (intOf i).toNat)
  case atStart => rw [HR.out]; exact ⟨0, Nat.zero_le _, Nat.zero_le _, rfl, [], own3, [], _, [], HU.out, Nat.le_refl _⟩
  case round =>
    rw [HR.out] at hrel
    obtain ⟨k, hk, hk3, rfl, L, own, Ps, rv, Rs, hu, hL⟩ := hrel
    have hll := HLL.out
    rw [← HN.out] at hk
    by_cases hlt : k < n
    · by_cases h3 : k < 300
      · obtain ⟨b, o, rfl, hat⟩ := HD.out k _ (List.getElem?_eq_getElem (by rw [← HN.out]; exact hlt))
        generalize ds[k]'(by rw [← HN.out]; exact hlt) = d at hat
        obtain ⟨kd, f, t, most, va, vc, l⟩ := d
        have HAT := Lib.hid hat
        have HU2 := Lib.hid hu
        obtain ⟨q0, q1, q2, q3, q4, q5, q6, q7, q8⟩ := hat.on hu.below
        have i1 : (k : Int) < (n : Int) := by omega
        have i3 : (k : Int) < 300 := by omega
        have i0 : (0 : Int) ≤ (k : Int) := by omega
        clear hat hu q5 q6 q7 q8
        go_wp2_with (go_at_call 8; refine (doesAll HU2.out (by omega) HAT.out.2.2.2.2.2.1 HAT.out.2.2.2.2.2.2.1 (by have := HAT.out.2.2.2.2.2.2.2.2; omega) HAT.out.2.2.2.2.2.2.2.1).mono ?_; rintro e wa ⟨owna, Psa, rva, Rsa, rfl, ha⟩; refine Hid.out ?_)
        refine Lib.hid ?_
        have HA := Lib.hid ha
        have hLa : (stepL L kd f t most l).length ≤ 1000000 := by have := stepL_len L kd f t most l; omega
        have HLA := Lib.hid hLa
        obtain ⟨q0, q1, q2, q3, q4, q5, q6, q7, q8⟩ := HAT.out.on ha.below
        clear ha q5 q6 q7 q8 hLa
        go_wp2_with (go_at_call 9; refine (looksAll HA.out HLA.out HAT.out.2.2.2.2.2.1 HAT.out.2.2.2.2.2.2.1).mono ?_; rintro e wb ⟨rfl, hb⟩; refine Hid.out ?_)
        refine Lib.hid ?_
        have HB := Lib.hid hb
        clear hb
        go_wp2
        go_roundw
        case rel => rw [HR.out]; exact ⟨k + 1, by rw [← HN.out]; omega, by omega, by go_num, _, _, _, _, _, HB.out, by have := stepL_len L kd f t most l; omega⟩
        case measure => simp [intOf]; omega
      · have i1 : (k : Int) < (n : Int) := by omega
        have i3 : ¬ (k : Int) < 300 := by omega
        have HB := Lib.hid hu.below
        clear hu
        go_wp2
        go_ret
        exact ⟨rfl, HB.out⟩
    · have i1 : ¬ (k : Int) < (n : Int) := by omega
      have HB := Lib.hid hu.below
      clear hu
      go_wp2
      go_ret
      exact ⟨rfl, HB.out⟩
end Go.Proofs.Ytfmphhcdbocgnaa.Pipe
