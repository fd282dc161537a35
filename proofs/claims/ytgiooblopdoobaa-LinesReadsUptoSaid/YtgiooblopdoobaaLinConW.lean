/-
  LINES, the given answers: may bytes be a content? The walk.
-/
import Derived.Test.YtgiooblopdoobaaLinCon
namespace Go.Proofs.Ytgiooblopdoobaa.Lines
open Go.RowKit Base
def CodeEnd (n : Nat) (w : World) (e : Ending) (w' : World) : Prop := e = .returned (.int .i64 (n : Int)) ∧ w = w'
theorem ret_code {k : IntKind} {a b : Nat} (h : a = b) : Ending.returned (.int k (a : Int)) = .returned (.int k (b : Int)) := by rw [h]
theorem ne_byte {c : UInt8} {n m : Nat} (hn : n < 256) (hc : m = c.toNat) : decide (some c ≠ some (UInt8.ofNat n)) = decide (m ≠ n) := by
  rw [decide_eq_decide]
  constructor
  · intro h h2; exact h ((byte_eq hn).2 (by omega))
  · intro h h2; exact h (by have := (byte_eq hn).1 h2; omega)
set_option maxHeartbeats 8000000 in
set_option maxRecDepth 100000 in
theorem rContentA (b o cap : Nat) (l : List UInt8) (w : World) (hl : l.length ≤ 200000000000000) (h0 : 0 < l.length)
    (hc : ∀ i, i < l.length → w.cell? ⟨b, o + i, none⟩ = some (.int .u8 ((l.getD i 0).toNat : Int))) :
    Calls Try.prog 21 #[.slice (some ⟨b, o, none⟩) l.length cap] w (CodeEnd (codeOf l) w) := by
  obtain ⟨fin, hfin⟩ : ∃ fin, fin = codeOf l := ⟨_, rfl⟩
  rw [← hfin]
  have hcl := hc (l.length - 1) (by omega)
  obtain ⟨z, hz⟩ : ∃ z : Nat, z = (l.getD (l.length - 1) 0).toNat := ⟨_, rfl⟩
  rw [← hz] at hcl
  have hzb : z ≤ 255 := by rw [hz]; have := (l.getD (l.length - 1) 0).toNat_lt; omega
  have HF0 : Hid (fin = scanG none 0 (decide (z ≠ 10)) false l) := by
    show _ = _
    rw [hfin, codeOf, last_getD h0, decide_eq_true h0, Bool.true_and, ← ne_byte (n := 10) (by omega) hz]
    rfl
  have HC : Hid (∀ i, i < l.length → ∃ c : Nat, c = (l.getD i 0).toNat ∧ c ≤ 255 ∧ w.cell? ⟨b, o + i, none⟩ = some (.int .u8 (c : Int))) := fun i hi => ⟨_, rfl, by have := (l.getD i 0).toNat_lt; omega, hc i hi⟩
  clear hfin hc hz
  go_enter Try.func21, Try.ntmps21
  have k0 : (0 : Int) < (l.length : Int) := by omega
  have k1 : 1 ≤ l.length := h0
  by_cases hz10 : z = 10
  case' pos =>
    subst hz10
  case' neg =>
    have k2 : ¬ (z : Int) = 10 := by omega
  case' pos => have HB0 : Hid (decide (10 ≠ 10) = false) := rfl
  case' neg => have HB0 : Hid (decide (z ≠ 10) = ((z : Int) != 10)) := by show _ = _; simp [hz10, k2]
  all_goals
    go_wp2
    go_loop [3, 4, 5, 6] (fun nv lv bv iv => ∃ (k n : Nat) (bb lb : Bool), k ≤ l.length ∧ n ≤ k ∧ iv = .int .i64 (k : Int) ∧ nv = .int .i64 (n : Int) ∧ bv = .bool bb ∧ lv = .bool lb ∧ Hid (fin = scanG (prevOf l k) n bb lb (l.drop k))) (fun _ _ _ iv => l.length - (intOf iv).toNat)
    case atStart => exact ⟨0, 0, _, false, by omega, by omega, rfl, rfl, rfl, rfl, by show _ = _; rw [HF0.out]; first | rfl | (rw [HB0.out]; rfl)⟩
    case round =>
      clear hcl HF0 HB0
      obtain ⟨k, n, bb, lb, hk, hn, rfl, rfl, rfl, rfl, HF⟩ := hrel
      by_cases hlt : k < l.length
      · obtain ⟨c, hce, hcb, hcell⟩ := HC.out k hlt
        have heq := HF.out
        rw [drop_consB hlt, scanG, ← hce] at heq
        clear HF hce
        by_cases c0 : c = 0
        · subst c0
          have HE : Hid (fin = 122) := heq
          clear heq
          go_wp2
          go_ret
          exact ⟨ret_code HE.out.symm, rfl⟩
        · rw [if_neg c0] at heq
          by_cases c13 : c = 13
          · subst c13
            rw [if_pos rfl] at heq
            rw [← prevOf_succ] at heq
            cases bb
            · rw [Bool.false_or] at heq
              by_cases hk1 : k + 1 = l.length
              · rw [head_end (show l.length ≤ k + 1 by omega)] at heq
                have HE : Hid (fin = scanG (prevOf l (k + 1)) (n + 1) true lb (l.drop (k + 1))) := heq
                have j0 : (k : Int) + 1 = (l.length : Int) := by omega
                clear heq
                go_wp2
                go_round
                case rel => exact ⟨k + 1, n + 1, true, lb, by omega, by omega, by go_num, by go_num, rfl, rfl, HE⟩
                case measure => simp [intOf]; omega
              · obtain ⟨d, hde, hdb, hdc⟩ := HC.out (k + 1) (by omega)
                rw [head_drop (show k + 1 < l.length by omega), show (10 : UInt8) = UInt8.ofNat 10 from rfl, ne_byte (n := 10) (by omega) hde] at heq
                have j0 : ¬ (k : Int) + 1 = (l.length : Int) := by omega
                have j9 : k + 1 < l.length := by omega
                clear hde
                by_cases hd : d = 10
                · subst hd
                  have HE : Hid (fin = scanG (prevOf l (k + 1)) (n + 1) false lb (l.drop (k + 1))) := heq
                  clear heq
                  go_wp2
                  go_round
                  case rel => exact ⟨k + 1, n + 1, false, lb, by omega, by omega, by go_num, by go_num, by simp [j0], rfl, HE⟩
                  case measure => simp [intOf]; omega
                · rw [decide_eq_true hd] at heq
                  have HE : Hid (fin = scanG (prevOf l (k + 1)) (n + 1) true lb (l.drop (k + 1))) := heq
                  have j1 : ¬ (d : Int) = 10 := by omega
                  clear heq
                  go_wp2
                  go_round
                  case rel => exact ⟨k + 1, n + 1, true, lb, by omega, by omega, by go_num, by go_num, by simp [j0, j1], rfl, HE⟩
                  case measure => simp [intOf]; omega
            · rw [Bool.true_or] at heq
              have HE : Hid (fin = scanG (prevOf l (k + 1)) (n + 1) true lb (l.drop (k + 1))) := heq
              clear heq
              go_wp2
              go_round
              case rel => exact ⟨k + 1, n + 1, true, lb, by omega, by omega, by go_num, by go_num, rfl, rfl, HE⟩
              case measure => simp [intOf]; omega
          · rw [if_neg c13] at heq
            by_cases c10 : c = 10
            · rw [if_pos c10, ← prevOf_succ] at heq
              subst c10
              have HL : ∃ lb', (lb || decide (999 < n)) = lb' ∧ ((lb = true ∧ lb' = true) ∨ (lb = false ∧ lb' = true ∧ (998 : Int) < (n : Int) - 1) ∨ (lb = false ∧ lb' = false ∧ ¬ (998 : Int) < (n : Int) - 1)) := by
                cases lb
                · by_cases h : 999 < n
                  · exact ⟨true, by simp [h], Or.inr (Or.inl ⟨rfl, rfl, by omega⟩)⟩
                  · exact ⟨false, by simp [h], Or.inr (Or.inr ⟨rfl, rfl, by omega⟩)⟩
                · exact ⟨true, rfl, Or.inl ⟨rfl, rfl⟩⟩
              obtain ⟨lb', hlb, HL⟩ := HL
              rw [hlb] at heq
              clear hlb
              have HB : ∃ bb', (bb || decide (prevOf l k ≠ some 13)) = bb' ∧ ((bb = true ∧ bb' = true) ∨ (bb = false ∧ bb' = true ∧ k = 0) ∨ (bb = false ∧ ∃ (j d : Nat), k = j + 1 ∧ w.cell? ⟨b, o + j, none⟩ = some (.int .u8 (d : Int)) ∧ d ≤ 255 ∧ ((bb' = true ∧ ¬ (d : Int) = 13) ∨ (bb' = false ∧ d = 13)))) := by
                cases bb
                · rcases Nat.eq_zero_or_pos k with h | h
                  · subst h
                    exact ⟨true, rfl, Or.inr (Or.inl ⟨rfl, rfl, rfl⟩)⟩
                  · obtain ⟨j, rfl⟩ : ∃ j, k = j + 1 := ⟨k - 1, by omega⟩
                    obtain ⟨d, hde, hdb, hdc⟩ := HC.out j (by omega)
                    rw [prevOf_succ, Bool.false_or, show (13 : UInt8) = UInt8.ofNat 13 from rfl, ne_byte (n := 13) (by omega) hde]
                    refine ⟨_, rfl, Or.inr (Or.inr ⟨rfl, j, d, rfl, hdc, hdb, ?_⟩)⟩
                    by_cases hd : d = 13
                    · exact Or.inr ⟨by simp [hd], hd⟩
                    · exact Or.inl ⟨by simp [hd], by omega⟩
                · exact ⟨true, rfl, Or.inl ⟨rfl, rfl⟩⟩
              obtain ⟨bb', hbb, HB⟩ := HB
              rw [hbb] at heq
              clear hbb
              have HE : Hid (fin = scanG (prevOf l (k + 1)) 0 bb' lb' (l.drop (k + 1))) := heq
              clear heq c0 c13
              rcases HB with ⟨rfl, rfl⟩ | ⟨rfl, rfl, rfl⟩ | ⟨rfl, j, d, rfl, hdc, hdb, ⟨rfl, hd⟩ | ⟨rfl, rfl⟩⟩
              case' inr.inl => rw [Nat.add_zero] at hcell
              case' inr.inr.inl => have jz : ¬ (j : Int) + 1 = 0 := by omega
              case' inr.inr.inr => have jz : ¬ (j : Int) + 1 = 0 := by omega
              all_goals
                rcases HL with ⟨rfl, rfl⟩ | ⟨rfl, rfl, hl9⟩ | ⟨rfl, rfl, hl9⟩
                all_goals
                  go_wp2
                  go_round
                  case rel =>
                    refine ⟨_, 0, _, _, ?_, ?_, ?_, rfl, ?_, ?_, HE⟩
                    · omega
                    · omega
                    · go_num
                    · first | rfl | (simp; done) | (simp [hd]; done) | (simp [jz]; done) | (simp [jz, hd]; done)
                    · first | rfl | (simp; done) | (simp [hl9]; done)
                  case measure => simp [intOf]; omega
            · rw [if_neg c10, ← prevOf_succ] at heq
              have HE : Hid (fin = scanG (prevOf l (k + 1)) (n + 1) bb lb (l.drop (k + 1))) := heq
              clear heq
              have j0 : ¬ (c : Int) = 0 := by omega
              have j1 : ¬ (c : Int) = 13 := by omega
              have j2 : ¬ (c : Int) = 10 := by omega
              go_wp2
              go_round
              case rel => exact ⟨k + 1, n + 1, bb, lb, by omega, by omega, by go_num, by go_num, rfl, rfl, HE⟩
              case measure => simp [intOf]; omega
      · have heq := HF.out
        rw [List.drop_eq_nil_of_le (by omega), scanG] at heq
        have HE : Hid (fin = sayOf bb lb) := heq
        clear heq HF
        cases bb <;> cases lb
        all_goals
          go_wp2
          go_ret
          exact ⟨ret_code HE.out.symm, rfl⟩
end Go.Proofs.Ytgiooblopdoobaa.Lines
