/-
  CODEC: the readers of a number and of a text, both of the program and of the document's answer, over any slice that reads as some bytes.
-/
import Derived.Test.YthoeicidilnleaaDoorCodecTake
import Derived.WalkSpells
namespace Go.Proofs.YthoeicidilnleaaDoor.Codec
open Go.RowKit

/-- THE SLICE READS AS THESE BYTES. -/
def Reads (w : World) (v : Value) (l : List UInt8) : Prop :=
  (l = [] ∧ ∃ a c, v = .slice a 0 c ∧ (a = none → c = 0)) ∨ (∃ b o c, v = .slice (some ⟨b, o, none⟩) l.length c ∧ l.length ≤ c ∧ ∀ i, i < l.length → w.cell? ⟨b, o + i, none⟩ = some (.int .u8 ((l.getD i 0).toNat : Int)))

theorem ctake_none (a : Option Addr) (cap : Nat) (e d m : Int) (w : World) :
    Calls Tryd.prog 64 #[.slice a 0 cap, .int .u8 e, .int .i64 d, .int .i64 m] w (TakeEnd (0, 0, 20) w) := by
  go_enter Tryd.func64, Tryd.ntmps64
  go_wp2
  go_loop [11, 16] (fun n i => i = .int .i64 0) (fun _ i => 0)
  case atStart => rfl
  case round =>
    obtain rfl := hrel
    go_wp2
    go_ret3
    exact ⟨rfl, rfl⟩
theorem rtake_none (a : Option Addr) (cap : Nat) (e d m : Int) (w : World) :
    Calls Tryd.prog 63 #[.slice a 0 cap, .int .u8 e, .int .i64 d, .int .i64 m] w (TakeEnd (0, 0, 20) w) := by
  go_enter Tryd.func63, Tryd.ntmps63
  go_wp2
  go_loop [11, 12] (fun n i => i = .int .i64 0) (fun _ i => 0)
  case atStart => rfl
  case round =>
    obtain rfl := hrel
    go_wp2
    go_ret3
    exact ⟨rfl, rfl⟩
theorem ctake_reads (v : Value) (l : List UInt8) (e d m : Int) (w : World) (h : Reads w v l) (hl : l.length ≤ 200000000000000) (he : 58 ≤ e ∧ e ≤ 255) (hd : 2 ≤ d ∧ d ≤ 16) :
    Calls Tryd.prog 64 #[v, .int .u8 e, .int .i64 d, .int .i64 m] w (TakeEnd (takeFrom e d m l 0 0) w) := by
  rcases h with ⟨rfl, a, c, rfl, _⟩ | ⟨b, o, c, rfl, _, hc⟩
  · exact ctake_none a c e d m w
  · exact ctake_any b o c l e d m w hl he ⟨by omega, hd.2⟩ hc
theorem rtake_reads (v : Value) (l : List UInt8) (e d m : Int) (w : World) (h : Reads w v l) (hl : l.length ≤ 200000000000000) (he : 58 ≤ e ∧ e ≤ 255) (hd : 2 ≤ d ∧ d ≤ 16) :
    Calls Tryd.prog 63 #[v, .int .u8 e, .int .i64 d, .int .i64 m] w (TakeEnd (takeFrom e d m l 0 0) w) := by
  rcases h with ⟨rfl, a, c, rfl, _⟩ | ⟨b, o, c, rfl, _, hc⟩
  · exact rtake_none a c e d m w
  · exact rtake_any b o c l e d m w hl he hd hc

/-- What a number's reader answers. -/
def takeNumber (l : List UInt8) : Int × Int × Int := takeFrom 59 16 9007199254740992 l 0 0
theorem cTakeNumber (v : Value) (l : List UInt8) (w : World) (h : Reads w v l) (hl : l.length ≤ 200000000000000) :
    Calls Tryd.prog 53 #[v] w (TakeEnd (takeNumber l) w) := by
  have hct := ctake_reads v l 59 16 9007199254740992 w h hl (by omega) (by omega)
  obtain ⟨r, hr⟩ : ∃ r, takeFrom 59 16 9007199254740992 l 0 0 = r := ⟨_, rfl⟩
  unfold takeNumber
  rw [hr] at hct ⊢
  have HC := Lib.hid hct
  clear hct hr h
  go_enter Tryd.func53, Tryd.ntmps53
  go_wp2_with (go_at_call 64; refine HC.out.mono ?_; rintro e w' ⟨rfl, rfl⟩)

  go_ret3
  exact ⟨rfl, rfl⟩
theorem rTakeNumber (v : Value) (l : List UInt8) (w : World) (h : Reads w v l) (hl : l.length ≤ 200000000000000) :
    Calls Tryd.prog 51 #[v] w (TakeEnd (takeNumber l) w) := by
  have hct := rtake_reads v l 59 16 9007199254740992 w h hl (by omega) (by omega)
  obtain ⟨r, hr⟩ : ∃ r, takeFrom 59 16 9007199254740992 l 0 0 = r := ⟨_, rfl⟩
  unfold takeNumber
  rw [hr] at hct ⊢
  have HC := Lib.hid hct
  clear hct hr h
  go_enter Tryd.func51, Tryd.ntmps51
  go_wp2_with (go_at_call 63; refine HC.out.mono ?_; rintro e w' ⟨rfl, rfl⟩)
  go_ret3
  exact ⟨rfl, rfl⟩

/-- What the reader's three answers can be: a fault with nothing beside it, or a number and how many bytes it has. -/
theorem take_bounds (e d m : Int) : ∀ (l : List UInt8) (i : Nat) (n : Int), 0 ≤ n →
    (takeFrom e d m l i n).1 = 0 ∧ (takeFrom e d m l i n).2.1 = 0 ∧ 0 < (takeFrom e d m l i n).2.2 ∧ (takeFrom e d m l i n).2.2 < 30 ∨
    0 ≤ (takeFrom e d m l i n).1 ∧ (takeFrom e d m l i n).1 ≤ m ∧ (i : Int) + 1 ≤ (takeFrom e d m l i n).2.1 ∧ 0 < (takeFrom e d m l i n).2.1 ∧ (takeFrom e d m l i n).2.1 ≤ i + l.length ∧ (takeFrom e d m l i n).2.2 = 0 := by
  intro l
  induction l with
  | nil => intro i n _; left; simp [takeFrom]
  | cons c r ih =>
    intro i n hn
    rw [takeFrom]
    by_cases h1 : (c.toNat : Int) = e ∧ 0 < i
    · rw [if_pos h1]
      by_cases h2 : m < n
      · rw [if_pos h2]; left; simp
      · rw [if_neg h2]; right; simp only [List.length_cons]; refine ⟨hn, by omega, by omega, by omega, by omega, trivial⟩
    · rw [if_neg h1]
      by_cases h2 : (c.toNat : Int) < 48 ∨ 57 < (c.toNat : Int) ∨ (i : Int) = d ∨ (i = 1 ∧ n = 0)
      · rw [if_pos h2]; left; simp
      · rw [if_neg h2]
        rcases ih (i + 1) (10 * n + ((c.toNat : Int) - 48)) (by omega) with h | h
        · exact Or.inl h
        · right; simp only [List.length_cons]; obtain ⟨a1, a2, a3, a4, a5, a6⟩ := h; exact ⟨a1, a2, by omega, a4, by omega, a6⟩

/-- A text that is read: its bytes, how many bytes it has all together, or the fault. -/
def takeText (l : List UInt8) : List UInt8 × Int × Int :=
  if (takeFrom 58 7 1048576 l 0 0).2.2 ≠ 0 then ([], 0, (takeFrom 58 7 1048576 l 0 0).2.2)
  else if (l.length : Int) ≤ (takeFrom 58 7 1048576 l 0 0).2.1 + (takeFrom 58 7 1048576 l 0 0).1 then ([], 0, 20)
  else if l.getD ((takeFrom 58 7 1048576 l 0 0).2.1 + (takeFrom 58 7 1048576 l 0 0).1).toNat 0 ≠ 44 then ([], 0, 21)
  else ((l.drop (takeFrom 58 7 1048576 l 0 0).2.1.toNat).take (takeFrom 58 7 1048576 l 0 0).1.toNat, (takeFrom 58 7 1048576 l 0 0).2.1 + (takeFrom 58 7 1048576 l 0 0).1 + 1, 0)
def TextEnd (r : List UInt8 × Int × Int) (w : World) (e : Ending) (w' : World) : Prop := e = .returned (.tuple #[.string ⟨r.1.toArray⟩, .int .i64 r.2.1, .int .i64 r.2.2]) ∧ w = w'

/-- The four ways of it. -/
theorem text_ways (l : List UInt8) :
    (∃ z : Int, 0 < z ∧ z < 30 ∧ takeFrom 58 7 1048576 l 0 0 = (0, 0, z) ∧ takeText l = ([], 0, z)) ∨
    (∃ n k : Nat, n ≤ 1048576 ∧ 1 ≤ k ∧ k ≤ l.length ∧ takeFrom 58 7 1048576 l 0 0 = ((n : Int), (k : Int), 0) ∧
      (l.length ≤ k + n ∧ takeText l = ([], 0, 20) ∨
       k + n < l.length ∧ l.getD (k + n) 0 ≠ 44 ∧ takeText l = ([], 0, 21) ∨
       k + n < l.length ∧ l.getD (k + n) 0 = 44 ∧ takeText l = ((l.drop k).take n, (k : Int) + n + 1, 0))) := by
  have hb := take_bounds 58 7 1048576 l 0 0 (by omega)
  have hu : takeText l = takeText l := rfl
  conv at hu => rhs; unfold takeText
  generalize takeFrom 58 7 1048576 l 0 0 = r at hb hu ⊢
  obtain ⟨r1, r2, r3⟩ := r
  dsimp only at hb hu
  rcases hb with ⟨rfl, rfl, h1, h2⟩ | ⟨h1, h2, _, h3, h4, rfl⟩
  · left
    exact ⟨r3, h1, h2, rfl, by rw [hu, if_pos (by omega)]⟩
  · right
    obtain ⟨n, rfl⟩ := Int.eq_ofNat_of_zero_le h1
    obtain ⟨k, rfl⟩ := Int.eq_ofNat_of_zero_le (show 0 ≤ r2 by omega)
    refine ⟨n, k, by omega, by omega, by omega, rfl, ?_⟩
    rw [if_neg (by simp)] at hu
    by_cases h5 : (l.length : Int) ≤ (k : Int) + n
    · left; rw [if_pos h5] at hu; exact ⟨by omega, hu⟩
    · rw [if_neg h5] at hu
      have e1 : ((k : Int) + (n : Int)).toNat = k + n := by omega
      rw [e1] at hu
      by_cases h6 : l.getD (k + n) 0 = 44
      · right; right; rw [if_neg (by simpa using h6)] at hu; exact ⟨by omega, h6, by simpa using hu⟩
      · right; left; rw [if_pos h6] at hu; exact ⟨by omega, h6, hu⟩

/-- The bytes of a part of a slice, as a string. -/
theorem conv_part (b o c : Nat) (l : List UInt8) (k n : Nat) (w : World) (h : k + n ≤ l.length) (hc : ∀ i, i < l.length → w.cell? ⟨b, o + i, none⟩ = some (.int .u8 ((l.getD i 0).toNat : Int))) :
    (convert 23 9 (.slice (some ⟨b, o + k, none⟩) n c)).run Tryd.prog w = .ok (.string ⟨((l.drop k).take n).toArray⟩) w := by
  have hlen : ((l.drop k).take n).length = n := by simp; omega
  have := run_convert_bytes_back (P := Tryd.prog) w 23 9 5 ⟨b, o + k, none⟩ c ((l.drop k).take n) Tryd.underlying23 Tryd.underlying5 Tryd.underlying9 (fun j hj => by
    rw [hlen] at hj
    have := hc (k + j) (by omega)
    rw [Addr.add_lit, Nat.add_assoc, this]
    congr 2
    simp [List.getD, List.getElem?_eq_getElem (show k + j < l.length by omega)])
  rw [hlen] at this
  exact this

set_option maxHeartbeats 400000 in
set_option maxRecDepth 100000 in
theorem cTakeText (v : Value) (l : List UInt8) (w : World) (h : Reads w v l) (hl : l.length ≤ 200000000000000) :
    Calls Tryd.prog 56 #[v] w (TextEnd (takeText l) w) := by
  have hct := ctake_reads v l 58 7 1048576 w h hl (by omega) (by omega)
  rcases text_ways l with ⟨z, hz0, hz1, e1, e2⟩ | ⟨n, k, hn, hk, hkl, e1, hways⟩
  · rw [e1] at hct
    rw [e2]
    have HC := Lib.hid hct
    clear hct h e1 e2
    go_enter Tryd.func56, Tryd.ntmps56
    go_wp2_with (go_at_call 64; refine HC.out.mono ?_; rintro e w' ⟨rfl, rfl⟩)
    go_ret3
    exact ⟨rfl, rfl⟩
  · rw [e1] at hct
    have HC := Lib.hid hct
    clear hct e1
    rcases h with ⟨rfl, _⟩ | ⟨b, o, c, rfl, hcap, hc⟩
    · simp at hkl; omega
    rcases hways with ⟨hs, e2⟩ | ⟨hs, hb, e2⟩ | ⟨hs, hb, e2⟩
    · rw [e2]
      clear e2 hc
      go_enter Tryd.func56, Tryd.ntmps56
      go_wp2_with (go_at_call 64; refine HC.out.mono ?_; rintro e w' ⟨rfl, rfl⟩)
      go_ret3
      exact ⟨rfl, rfl⟩
    · rw [e2]
      have hcell := hc (k + n) hs
      obtain ⟨x, hx⟩ : ∃ x : Int, x = ((l.getD (k + n) 0).toNat : Int) := ⟨_, rfl⟩
      have hne : (x == 44) = false := by
        rw [hx]; simp only [beq_eq_false_iff_ne, ne_eq]; intro h; exact hb (UInt8.toNat_inj.1 (by have e : (44 : UInt8).toNat = 44 := rfl; omega))
      have hne2 : (x != 44) = true := by simpa using hne
      rw [← hx] at hcell
      clear e2 hc hb hx
      go_enter Tryd.func56, Tryd.ntmps56
      go_wp2_with (go_at_call 64; refine HC.out.mono ?_; rintro e w' ⟨rfl, rfl⟩)
      go_ret3
      exact ⟨rfl, rfl⟩
    · rw [e2]
      have hcell := hc (k + n) hs
      rw [hb] at hcell
      have hconv := fun c => conv_part b o c l k n w (by omega) hc
      obtain ⟨t, ht⟩ : ∃ t, (l.drop k).take n = t := ⟨_, rfl⟩
      rw [ht] at hconv ⊢
      clear e2 hc hb ht
      go_enter Tryd.func56, Tryd.ntmps56
      go_wp2_with (go_at_call 64; refine HC.out.mono ?_; rintro e w' ⟨rfl, rfl⟩)
      go_ret3
      exact ⟨rfl, rfl⟩

set_option maxHeartbeats 400000 in
set_option maxRecDepth 100000 in
theorem rTakeText (v : Value) (l : List UInt8) (w : World) (h : Reads w v l) (hl : l.length ≤ 200000000000000) :
    Calls Tryd.prog 52 #[v] w (TextEnd (takeText l) w) := by
  have hct := rtake_reads v l 58 7 1048576 w h hl (by omega) (by omega)
  rcases text_ways l with ⟨z, hz0, hz1, e1, e2⟩ | ⟨n, k, hn, hk, hkl, e1, hways⟩
  · rw [e1] at hct
    rw [e2]
    have HC := Lib.hid hct
    clear hct h e1 e2
    go_enter Tryd.func52, Tryd.ntmps52
    go_wp2_with (go_at_call 63; refine HC.out.mono ?_; rintro e w' ⟨rfl, rfl⟩)
    go_ret3
    exact ⟨rfl, rfl⟩
  · rw [e1] at hct
    have HC := Lib.hid hct
    clear hct e1
    rcases h with ⟨rfl, _⟩ | ⟨b, o, c, rfl, hcap, hc⟩
    · simp at hkl; omega
    rcases hways with ⟨hs, e2⟩ | ⟨hs, hb, e2⟩ | ⟨hs, hb, e2⟩
    · rw [e2]
      clear e2 hc
      go_enter Tryd.func52, Tryd.ntmps52
      go_wp2_with (go_at_call 63; refine HC.out.mono ?_; rintro e w' ⟨rfl, rfl⟩)
      go_ret3
      exact ⟨rfl, rfl⟩
    · rw [e2]
      have hcell := hc (k + n) hs
      obtain ⟨x, hx⟩ : ∃ x : Int, x = ((l.getD (k + n) 0).toNat : Int) := ⟨_, rfl⟩
      have hne : (x == 44) = false := by
        rw [hx]; simp only [beq_eq_false_iff_ne, ne_eq]; intro h; exact hb (UInt8.toNat_inj.1 (by have e : (44 : UInt8).toNat = 44 := rfl; omega))
      have hne2 : (x != 44) = true := by simpa using hne
      rw [← hx] at hcell
      clear e2 hc hb hx
      go_enter Tryd.func52, Tryd.ntmps52
      go_wp2_with (go_at_call 63; refine HC.out.mono ?_; rintro e w' ⟨rfl, rfl⟩)
      go_ret3
      exact ⟨rfl, rfl⟩
    · rw [e2]
      have hcell := hc (k + n) hs
      rw [hb] at hcell
      have hconv := fun c => conv_part b o c l k n w (by omega) hc
      obtain ⟨t, ht⟩ : ∃ t, (l.drop k).take n = t := ⟨_, rfl⟩
      rw [ht] at hconv ⊢
      clear e2 hc hb ht
      go_enter Tryd.func52, Tryd.ntmps52
      go_wp2_with (go_at_call 63; refine HC.out.mono ?_; rintro e w' ⟨rfl, rfl⟩)
      go_ret3
      exact ⟨rfl, rfl⟩
end Go.Proofs.YthoeicidilnleaaDoor.Codec
