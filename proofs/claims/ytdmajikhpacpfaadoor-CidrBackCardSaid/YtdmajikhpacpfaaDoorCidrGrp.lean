/-
  CIDR, the given answers: groups of IPv6.
-/
import Derived.Test.YtdmajikhpacpfaaDoorCidrNum
namespace Go.Proofs.YtdmajikhpacpfaaDoor.Cidr
open Go.RowKit Base
def isHex (c : UInt8) : Bool := decide (48 ≤ c.toNat ∧ c.toNat ≤ 57 ∨ 97 ≤ c.toNat ∧ c.toNat ≤ 102 ∨ 65 ≤ c.toNat ∧ c.toNat ≤ 70)
def hexV (c : UInt8) : Nat := if c.toNat ≤ 57 then c.toNat - 48 else if 97 ≤ c.toNat then c.toNat - 87 else c.toNat - 55
def hexF (l : List UInt8) : Nat := l.foldl (fun n c => 16 * n + hexV c) 0
/-- A group: one to four digits. -/
def grpN (l : List UInt8) : Option Nat := if 1 ≤ l.length ∧ l.length ≤ 4 ∧ l.all isHex = true then some (hexF l) else none
theorem hex_iff (c : UInt8) : isHex c = true ↔ (48 ≤ c.toNat ∧ c.toNat ≤ 57 ∨ 97 ≤ c.toNat ∧ c.toNat ≤ 102 ∨ 65 ≤ c.toNat ∧ c.toNat ≤ 70) := by unfold isHex; rw [decide_eq_true_iff]
theorem hexF_snoc (l : List UInt8) (c : UInt8) : hexF (l ++ [c]) = 16 * hexF l + hexV c := by unfold hexF; rw [List.foldl_append]; rfl
theorem hexV_lt {c : UInt8} (h : isHex c = true) : hexV c < 16 := by
  have := (hex_iff c).1 h
  unfold hexV
  split
  · omega
  · split <;> omega
theorem hfold_lt : ∀ (l : List UInt8) (a : Nat), l.all isHex = true → l.foldl (fun n c => 16 * n + hexV c) a < (a + 1) * 16 ^ l.length
  | [], a, _ => by simp
  | c :: r, a, h => by
    rw [List.all_cons, Bool.and_eq_true] at h
    have h2 := hexV_lt h.1
    rw [List.foldl_cons, List.length_cons, Nat.pow_succ]
    refine Nat.lt_of_lt_of_le (hfold_lt r _ h.2) ?_
    rw [show (a + 1) * (16 ^ r.length * 16) = (16 * a + 16) * 16 ^ r.length by rw [Nat.mul_comm (16 ^ r.length) 16, ← Nat.mul_assoc]; congr 1; omega]
    exact Nat.mul_le_mul_right _ (by omega)
theorem hexF_small (l : List UInt8) (h : l.all isHex = true) (hl : l.length ≤ 4) : hexF l ≤ 65535 := by
  have h1 := hfold_lt l 0 h
  have h2 : 16 ^ l.length ≤ 16 ^ 4 := Nat.pow_le_pow_right (by decide) hl
  unfold hexF
  omega
theorem grpN_small {l : List UInt8} {n : Nat} (h : grpN l = some n) : n ≤ 65535 := by
  unfold grpN at h
  split at h
  · rename_i h1
    cases h
    exact hexF_small l h1.2.2 h1.2.1
  · cases h
set_option maxHeartbeats 1000000 in
set_option maxRecDepth 100000 in
theorem rGroup (s : ByteArray) (w : World) : Calls Tryd.prog 63 #[.string s] w (NumEnd (grpN s.data.toList) w) := by
  have HL := Lib.hid (str_len s)
  obtain ⟨o, ho⟩ : ∃ o, o = grpN s.data.toList := ⟨_, rfl⟩
  rw [← ho]
  unfold grpN at ho
  rw [HL.out] at ho
  by_cases h1 : 1 ≤ s.size
  · by_cases h3 : s.size ≤ 4
    · have HO : Hid (o = if s.data.toList.all isHex = true then some (hexF s.data.toList) else none) := by
        refine ho.trans ?_
        by_cases hd : s.data.toList.all isHex = true
        · rw [if_pos ⟨h1, h3, hd⟩, if_pos hd]
        · rw [if_neg (fun h => hd h.2.2), if_neg hd]
      have e1 : ¬ (s.size : Int) < 1 := by omega
      have e2 : ¬ (4 : Int) < (s.size : Int) := by omega
      clear ho
      go_enter Tryd.func63, Tryd.ntmps63
      go_wp2
      go_loop [4, 5] (fun a i => ∃ k : Nat, k ≤ s.size ∧ i = .int .i64 k ∧ a = .int .i64 (hexF (s.data.toList.take k)) ∧ Hid ((s.data.toList.take k).all isHex = true)) (fun _ i => s.size - (intOf i).toNat)
      case atStart => exact ⟨0, Nat.zero_le _, rfl, rfl, rfl⟩
      case round =>
        obtain ⟨k, hk, rfl, rfl, hall⟩ := hrel
        have hsm := hexF_small _ hall.out (by rw [List.length_take, HL.out]; omega)
        obtain ⟨n, hn⟩ : ∃ n, n = hexF (s.data.toList.take k) := ⟨_, rfl⟩
        have HN := Lib.hid hn
        rw [← hn] at hsm
        rw [← hn]
        clear hn
        by_cases hlt : k < s.size
        · have hl : k < s.data.toList.length := by rw [HL.out]; exact hlt
          have hstep : Hid ((s.data.toList.take (k + 1)).all isHex = ((s.data.toList.take k).all isHex && isHex s[k])) := by
            have := all_take (l := s.data.toList) (k := k) hl isHex
            rw [str_get s k hlt] at this; exact this
          have hu : (s[k].toNat : Int) ≤ 255 := by have := s[k].toNat_lt; omega
          by_cases hok : isHex s[k] = true
          · have hfin : Hid ((s.data.toList.take (k + 1)).all isHex = true) := by rw [hstep.out, hall.out, hok]; rfl
            have hd := (hex_iff _).1 hok
            have HV : Hid (hexF (s.data.toList.take (k + 1)) = 16 * n + hexV s[k]) := by
              have hg := str_get s k hlt
              rw [List.getD_eq_getElem?_getD, List.getElem?_eq_getElem hl] at hg
              rw [List.take_succ_eq_append_getElem hl, hexF_snoc, HN.out, show s.data.toList[k] = s[k] by simpa using hg]; rfl
            clear hok hstep hall
            by_cases c1 : s[k].toNat ≤ 57
            · have i1 : (48 : Int) ≤ (s[k].toNat : Int) := by omega
              have i2 : (s[k].toNat : Int) ≤ 57 := by omega
              have HV2 : Hid (hexF (s.data.toList.take (k + 1)) = 16 * n + (s[k].toNat - 48)) := by
                refine HV.out.trans ?_; unfold hexV; rw [if_pos c1]
              clear HV hd
              go_wp2
              go_round
              case rel => exact ⟨k + 1, by omega, by go_num, by rw [HV2.out]; go_num, hfin⟩
              case measure => simp [intOf]; omega
            · by_cases c2 : 97 ≤ s[k].toNat
              · have i2 : ¬ (s[k].toNat : Int) ≤ 57 := by omega
                have i1 : (48 : Int) ≤ (s[k].toNat : Int) := by omega
                have i3 : (97 : Int) ≤ (s[k].toNat : Int) := by omega
                have i4 : (s[k].toNat : Int) ≤ 102 := by omega
                have HV2 : Hid (hexF (s.data.toList.take (k + 1)) = 16 * n + (s[k].toNat - 87)) := by
                  refine HV.out.trans ?_; unfold hexV; rw [if_neg c1, if_pos c2]
                clear HV hd
                go_wp2
                go_round
                case rel => exact ⟨k + 1, by omega, by go_num, by rw [HV2.out]; go_num, hfin⟩
                case measure => simp [intOf]; omega
              · have i2 : ¬ (s[k].toNat : Int) ≤ 57 := by omega
                have i1 : (48 : Int) ≤ (s[k].toNat : Int) := by omega
                have i3 : ¬ (97 : Int) ≤ (s[k].toNat : Int) := by omega
                have i4 : (65 : Int) ≤ (s[k].toNat : Int) := by omega
                have i5 : (s[k].toNat : Int) ≤ 70 := by omega
                have HV2 : Hid (hexF (s.data.toList.take (k + 1)) = 16 * n + (s[k].toNat - 55)) := by
                  refine HV.out.trans ?_; unfold hexV; rw [if_neg c1, if_neg c2]
                clear HV hd
                go_wp2
                go_round
                case rel => exact ⟨k + 1, by omega, by go_num, by rw [HV2.out]; go_num, hfin⟩
                case measure => simp [intOf]; omega
          · have hfin : Hid (o = none) := by
              refine HO.out.trans (if_neg ?_)
              rw [all_not (k := k) hl isHex (by rw [str_get s k hlt]; simpa using hok)]
              simp
            have hd : ¬ (48 ≤ s[k].toNat ∧ s[k].toNat ≤ 57 ∨ 97 ≤ s[k].toNat ∧ s[k].toNat ≤ 102 ∨ 65 ≤ s[k].toNat ∧ s[k].toNat ≤ 70) := fun h => hok ((hex_iff _).2 h)
            clear hok hstep hall
            go_wp2
            all_goals first
              | (go_ret2; exact num_none hfin.out _)
              | (exfalso; simp at *; omega)
        · have hfin : Hid (o = some n) := by
            have h1 := hall.out
            rw [List.take_of_length_le (by rw [HL.out]; omega)] at h1
            refine HO.out.trans ?_
            rw [if_pos h1, HN.out, List.take_of_length_le (by rw [HL.out]; omega)]
          clear hall
          go_wp2
          go_ret2
          exact num_some hfin.out _
    · have ho2 := Lib.hid (show o = none by rw [ho, if_neg (by omega)])
      have e1 : ¬ (s.size : Int) < 1 := by omega
      have e2 : (4 : Int) < (s.size : Int) := by omega
      clear ho
      go_enter Tryd.func63, Tryd.ntmps63
      go_wp2
      go_ret2
      exact num_none ho2.out _
  · have ho2 := Lib.hid (show o = none by rw [ho, if_neg (by omega)])
    have e1 : (s.size : Int) < 1 := by omega
    clear ho
    go_enter Tryd.func63, Tryd.ntmps63
    go_wp2
    go_ret2
    exact num_none ho2.out _
end Go.Proofs.YtdmajikhpacpfaaDoor.Cidr
