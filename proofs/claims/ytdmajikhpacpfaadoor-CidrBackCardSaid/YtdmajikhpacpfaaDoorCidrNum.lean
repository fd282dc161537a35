/-
  CIDR, the given answers: numbers in base ten, groups.
-/
import Derived.Test.YtdmajikhpacpfaaDoorStrBase
import Derived.Deep.CutBlock
import Derived.Deep.DeepCutAuto
namespace Go.Proofs.YtdmajikhpacpfaaDoor.Cidr
open Go.RowKit Base
def isDig (c : UInt8) : Bool := decide (48 ≤ c.toNat ∧ c.toNat ≤ 57)
def decF (l : List UInt8) : Nat := l.foldl (fun n c => 10 * n + (c.toNat - 48)) 0
/-- A number of one to three digits. -/
def decN (l : List UInt8) : Option Nat := if 1 ≤ l.length ∧ l.length ≤ 3 ∧ ¬ (l.getD 0 0 = 48 ∧ 1 < l.length) ∧ l.all isDig = true then some (decF l) else none
theorem decF_snoc (l : List UInt8) (c : UInt8) : decF (l ++ [c]) = 10 * decF l + (c.toNat - 48) := by unfold decF; rw [List.foldl_append]; rfl
theorem fold_lt : ∀ (l : List UInt8) (a : Nat), l.all isDig = true → l.foldl (fun n c => 10 * n + (c.toNat - 48)) a < (a + 1) * 10 ^ l.length
  | [], a, _ => by simp
  | c :: r, a, h => by
    rw [List.all_cons, Bool.and_eq_true] at h
    have h2 := h.1
    unfold isDig at h2
    rw [decide_eq_true_iff] at h2
    rw [List.foldl_cons, List.length_cons, Nat.pow_succ]
    refine Nat.lt_of_lt_of_le (fold_lt r _ h.2) ?_
    rw [show (a + 1) * (10 ^ r.length * 10) = (10 * a + 10) * 10 ^ r.length by rw [Nat.mul_comm (10 ^ r.length) 10, ← Nat.mul_assoc]; congr 1; omega]
    exact Nat.mul_le_mul_right _ (by omega)
theorem decF_lt (l : List UInt8) (h : l.all isDig = true) : decF l < 10 ^ l.length := by
  have := fold_lt l 0 h
  simpa [decF] using this
theorem decF_small (l : List UInt8) (h : l.all isDig = true) (hl : l.length ≤ 3) : decF l ≤ 999 := by
  have h1 := decF_lt l h
  have h2 : 10 ^ l.length ≤ 10 ^ 3 := Nat.pow_le_pow_right (by decide) hl
  omega
theorem dig_iff (c : UInt8) : isDig c = true ↔ 48 ≤ c.toNat ∧ c.toNat ≤ 57 := by unfold isDig; rw [decide_eq_true_iff]
def NumEnd (o : Option Nat) (w : World) (e : Ending) (w' : World) : Prop := e = .returned (.tuple #[.int .i64 (o.getD 0 : Nat), .bool o.isSome]) ∧ w = w'
theorem num_none {o : Option Nat} (h : o = none) (w : World) : NumEnd o w (.returned (.tuple #[.int .i64 0, .bool false])) w := by subst h; exact ⟨rfl, rfl⟩
theorem num_some {o : Option Nat} {n : Nat} (h : o = some n) (w : World) : NumEnd o w (.returned (.tuple #[.int .i64 (n : Int), .bool true])) w := by subst h; exact ⟨rfl, rfl⟩
set_option maxHeartbeats 1000000 in
set_option maxRecDepth 100000 in
theorem rDecimal (s : ByteArray) (w : World) : Calls Tryd.prog 33 #[.string s] w (NumEnd (decN s.data.toList) w) := by
  have HL := Lib.hid (str_len s)
  obtain ⟨o, ho⟩ : ∃ o, o = decN s.data.toList := ⟨_, rfl⟩
  rw [← ho]
  unfold decN at ho
  rw [HL.out] at ho
  by_cases h1 : 1 ≤ s.size
  · by_cases h3 : s.size ≤ 3
    · have hg := str_get s 0 (by omega)
      by_cases h0 : s[0] = 48 ∧ 1 < s.size
      · have ho2 := Lib.hid (show o = none by rw [ho, if_neg (fun h => h.2.2.1 ⟨by rw [hg]; exact h0.1, h0.2⟩)])
        have e1 : ¬ (s.size : Int) < 1 := by omega
        have e2 : ¬ (3 : Int) < (s.size : Int) := by omega
        have e3 : ((s[0].toNat : Int) == 48) = true := by rw [h0.1]; rfl
        have e4 : (1 : Int) < (s.size : Int) := by omega
        clear ho h0 hg
        go_enter Tryd.func33, Tryd.ntmps33
        go_wp2
        go_ret2
        exact num_none ho2.out _
      · have hz : ¬ (s.data.toList.getD 0 0 = 48 ∧ 1 < s.size) := by rw [hg]; exact h0
        have HO : Hid (o = if s.data.toList.all isDig = true then some (decF s.data.toList) else none) := by
          refine ho.trans ?_
          by_cases hd : s.data.toList.all isDig = true
          · rw [if_pos ⟨h1, h3, hz, hd⟩, if_pos hd]
          · rw [if_neg (fun h => hd h.2.2.2), if_neg hd]
        have e1 : ¬ (s.size : Int) < 1 := by omega
        have e2 : ¬ (3 : Int) < (s.size : Int) := by omega
        have e3 : ((s[0].toNat : Int) == 48) = false ∨ (((s[0].toNat : Int) == 48) = true ∧ ¬ (1 : Int) < (s.size : Int)) := by
          by_cases hh : s[0] = 48
          · refine Or.inr ⟨by rw [hh]; rfl, fun h => h0 ⟨hh, by omega⟩⟩
          · left
            rw [beq_eq_false_iff_ne]
            intro h
            exact hh (UInt8.toNat_inj.1 (by show s[0].toNat = 48; omega))
        clear ho hg hz h0
        rcases e3 with e3 | ⟨e3, e4⟩
        all_goals
          go_enter Tryd.func33, Tryd.ntmps33
          go_wp2
          go_loop [4, 5] (fun a i => ∃ k : Nat, k ≤ s.size ∧ i = .int .i64 k ∧ a = .int .i64 (decF (s.data.toList.take k)) ∧ Hid ((s.data.toList.take k).all isDig = true)) (fun _ i => s.size - (intOf i).toNat)
          case atStart => exact ⟨0, Nat.zero_le _, rfl, rfl, rfl⟩
          case round =>
            obtain ⟨k, hk, rfl, rfl, hall⟩ := hrel
            have hsm := decF_small _ hall.out (by rw [List.length_take, HL.out]; omega)
            obtain ⟨n, hn⟩ : ∃ n, n = decF (s.data.toList.take k) := ⟨_, rfl⟩
            have HN := Lib.hid hn
            rw [← hn] at hsm
            rw [← hn]
            clear hn
            by_cases hlt : k < s.size
            · have hl : k < s.data.toList.length := by rw [HL.out]; exact hlt
              have hstep : Hid ((s.data.toList.take (k + 1)).all isDig = ((s.data.toList.take k).all isDig && isDig s[k])) := by
                have := all_take (l := s.data.toList) (k := k) hl isDig
                rw [str_get s k hlt] at this; exact this
              have hu : (s[k].toNat : Int) ≤ 255 := by have := s[k].toNat_lt; omega
              by_cases hok : isDig s[k] = true
              · have hfin : Hid ((s.data.toList.take (k + 1)).all isDig = true) := by rw [hstep.out, hall.out, hok]; rfl
                have hd := (dig_iff _).1 hok
                have HV : Hid (decF (s.data.toList.take (k + 1)) = 10 * n + (s[k].toNat - 48)) := by
                  have hg := str_get s k hlt
                  rw [List.getD_eq_getElem?_getD, List.getElem?_eq_getElem hl] at hg
                  rw [List.take_succ_eq_append_getElem hl, decF_snoc, HN.out, show s.data.toList[k] = s[k] by simpa using hg]; rfl
                have i1 : ¬ (s[k].toNat : Int) < 48 := by omega
                have i2 : ¬ (57 : Int) < (s[k].toNat : Int) := by omega
                clear hok hstep hall
                go_wp2
                go_round
                case rel => exact ⟨k + 1, by omega, by go_num, by rw [HV.out]; go_num, hfin⟩
                case measure => simp [intOf]; omega
              · have hfin : Hid (o = none) := by
                  refine HO.out.trans (if_neg ?_)
                  rw [all_not (k := k) hl isDig (by rw [str_get s k hlt]; simpa using hok)]
                  simp
                have hd : ¬ (48 ≤ s[k].toNat ∧ s[k].toNat ≤ 57) := fun h => hok ((dig_iff _).2 h)
                clear hok hstep hall
                by_cases i1 : (s[k].toNat : Int) < 48
                · go_wp2
                  go_ret2
                  exact num_none hfin.out _
                · have i2 : (57 : Int) < (s[k].toNat : Int) := by omega
                  go_wp2
                  go_ret2
                  exact num_none hfin.out _
            · have hfin : Hid (o = some n) := by
                have h1 := hall.out
                rw [List.take_of_length_le (by rw [HL.out]; omega)] at h1
                refine HO.out.trans ?_
                rw [if_pos h1, HN.out, List.take_of_length_le (by rw [HL.out]; omega)]
              clear hall
              go_wp2
              go_ret2
              exact num_some hfin.out _
    · have ho2 := Lib.hid (show o = none by rw [ho, if_neg (by omega)])
      have e1 : ¬ (s.size : Int) < 1 := by omega
      have e2 : (3 : Int) < (s.size : Int) := by omega
      clear ho
      go_enter Tryd.func33, Tryd.ntmps33
      go_wp2
      go_ret2
      exact num_none ho2.out _
  · have ho2 := Lib.hid (show o = none by rw [ho, if_neg (by omega)])
    have e1 : (s.size : Int) < 1 := by omega
    clear ho
    go_enter Tryd.func33, Tryd.ntmps33
    go_wp2
    go_ret2
    exact num_none ho2.out _
end Go.Proofs.YtdmajikhpacpfaaDoor.Cidr
