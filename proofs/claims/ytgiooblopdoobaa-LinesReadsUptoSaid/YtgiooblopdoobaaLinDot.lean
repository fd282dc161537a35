/-
  LINES, the given answers: a line that was sent, as content.
-/
import Derived.Test.YtgiooblopdoobaaLinHas
namespace Go.Proofs.Ytgiooblopdoobaa.Lines
open Go.RowKit Base
/-- What a line that was sent is as content: the line, and whether it is the end. -/
def dotOf : List UInt8 → List UInt8 × Bool
  | [] => ([], false)
  | c :: r => if c.toNat = 46 then (if r = [] then ([], true) else (r, false)) else (c :: r, false)
def DotEnd (r : List UInt8 × Bool) (w : World) (e : Ending) (w' : World) : Prop := ∃ v, e = .returned (.tuple #[v, .bool r.2]) ∧ Owns w' w.heap.size v r.1 ∧ Below w.heap.size w w'
set_option maxHeartbeats 1600000 in
set_option maxRecDepth 100000 in
theorem rDotted {v : Value} {l : List UInt8} {w : World} (hr : Reads w v l) (hl : l.length ≤ 200000000000000) : Calls Try.prog 20 #[v] w (DotEnd (dotOf l) w) := by
  have HR := Lib.hid hr
  rcases hr with ⟨rfl, a, c, rfl, _⟩ | ⟨b, o, c, rfl, hlc, hcell⟩
  · go_enter Try.func20, Try.ntmps20
    go_wp2_with (at_builtin; go_must (refine wp_append_reads _ rfl _ _ rfl w.heap.size (.slice none 0 0) (.slice a 0 c) [] [] rfl rfl (owns_nil _ _) HR.out (by simp) (Nat.le_refl _) ?_); intro v9 w9 own9 b9; refine Hid.out ?_)
    refine Lib.hid ?_
    have HO := Lib.hid own9
    have HB := Lib.hid b9
    clear own9 b9
    go_wp2
    go_ret2
    exact ⟨v9, rfl, HO.out, HB.out⟩
  · cases l with
    | nil =>
      go_enter Try.func20, Try.ntmps20
      go_wp2_with (at_builtin; go_must (refine wp_append_reads _ rfl _ _ rfl w.heap.size (.slice none 0 0) _ [] [] rfl rfl (owns_nil _ _) HR.out (by simp) (Nat.le_refl _) ?_); intro v9 w9 own9 b9; refine Hid.out ?_)
      refine Lib.hid ?_
      have HO := Lib.hid own9
      have HB := Lib.hid b9
      clear own9 b9
      go_wp2
      go_ret2
      exact ⟨v9, rfl, HO.out, HB.out⟩
    | cons x r =>
      have hx := hcell 0 (by simp)
      rw [Nat.add_zero] at hx
      obtain ⟨xn, hxn⟩ : ∃ xn : Nat, xn = x.toNat := ⟨_, rfl⟩
      have hx2 : w.cell? ⟨b, o, none⟩ = some (.int .u8 (xn : Int)) := by rw [hx, hxn]; rfl
      have hxb : xn ≤ 255 := by rw [hxn]; have := x.toNat_lt; omega
      obtain ⟨n, hn⟩ : ∃ n, n = (x :: r).length := ⟨_, rfl⟩
      have HT0 := (Reads.tail (at_ := 1) HR.out (by simp))
      have hr1 : r.length + 1 = n := by rw [hn]; rfl
      rw [← hn] at hlc hl HR HT0
      have HT : Hid (n ≠ 1 → Reads w (.slice (some ⟨b, o + 1, none⟩) (n - 1) (c - 1)) r) := fun h1 => by
        rw [if_neg (by omega)] at HT0
        exact HT0
      clear HT0
      rw [← hn]
      by_cases h46 : xn = 46
      · by_cases h1 : n = 1
        · have HD : Hid (dotOf (x :: r) = ([], true)) := by
            show _ = _
            have : r = [] := List.eq_nil_of_length_eq_zero (by omega)
            rw [dotOf, if_pos (by omega), if_pos this]
          clear hcell hx hxn hn HT HR
          subst h46 h1
          go_enter Try.func20, Try.ntmps20
          go_wp2
          go_ret2
          rw [HD.out]
          exact ⟨.slice none 0 0, rfl, owns_nil _ _, Below.refl _ _⟩
        · have HD : Hid (dotOf (x :: r) = (r, false)) := by
            show _ = _
            rw [dotOf, if_pos (by omega), if_neg (by intro h; rw [h] at hr1; simp at hr1; omega)]
          clear hcell hx hxn hn
          subst h46
          have j1 : ¬ (n : Int) = 1 := by omega
          have j2 : (0 : Int) < (n : Int) := by omega
          have j3 : 1 ≤ n := by omega
          go_enter Try.func20, Try.ntmps20
          go_wp2_with (at_builtin; go_must (refine wp_append_reads _ rfl _ _ rfl w.heap.size (.slice none 0 0) _ [] r rfl rfl (owns_nil _ _) (HT.out h1) (by simp; omega) (Nat.le_refl _) ?_); intro v9 w9 own9 b9; refine Hid.out ?_)
          refine Lib.hid ?_
          have HO := Lib.hid own9
          have HB := Lib.hid b9
          clear own9 b9
          go_wp2
          go_ret2
          rw [HD.out]
          exact ⟨v9, rfl, HO.out, HB.out⟩
      · have HD : Hid (dotOf (x :: r) = (x :: r, false)) := by
          show _ = _
          rw [dotOf, if_neg (by omega)]
        clear hcell hx hxn
        have j0 : ¬ (xn : Int) = 46 := by omega
        have j2 : (0 : Int) < (n : Int) := by omega
        have HN := Lib.hid hn
        clear hn
        go_enter Try.func20, Try.ntmps20
        by_cases h1 : n = 1
        case' neg => have j1 : ¬ (n : Int) = 1 := by omega
        case' pos => have j1 : (n : Int) = 1 := by omega
        all_goals
          go_wp2_with (at_builtin; go_must (refine wp_append_reads _ rfl _ _ rfl w.heap.size (.slice none 0 0) _ [] (x :: r) rfl rfl (owns_nil _ _) (by first | exact HR.out | (have h := HR.out; rw [h1] at h; exact h)) (by rw [List.length_nil, ← HN.out]; omega) (Nat.le_refl _) ?_); intro v9 w9 own9 b9; refine Hid.out ?_)
          refine Lib.hid ?_
          have HO := Lib.hid own9
          have HB := Lib.hid b9
          clear own9 b9
          go_wp2
          go_ret2
          rw [HD.out]
          exact ⟨v9, rfl, HO.out, HB.out⟩
end Go.Proofs.Ytgiooblopdoobaa.Lines
