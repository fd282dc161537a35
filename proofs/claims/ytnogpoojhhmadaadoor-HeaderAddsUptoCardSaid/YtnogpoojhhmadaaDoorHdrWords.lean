/-
  HEADER, the given answers: words of bytes: names, small letters, blanks.
-/
import Derived.Test.YtnogpoojhhmadaaDoorStrBase
import Derived.Deep.CutBlock
import Derived.Deep.DeepCutAuto
namespace Go.Proofs.YtnogpoojhhmadaaDoor.Header
open Go.RowKit Base
def isBl (c : UInt8) : Bool := decide (c.toNat = 32 ∨ c.toNat = 9)
def low1 (c : UInt8) : UInt8 := if 65 ≤ c.toNat ∧ c.toNat ≤ 90 then c + 32 else c
/-- In small letters. -/
def lower (l : List UInt8) : List UInt8 := l.map low1
theorem lower_len (l : List UInt8) : (lower l).length = l.length := by simp [lower]
def nameC (c : UInt8) : Bool := decide (33 ≤ c.toNat ∧ c.toNat ≤ 126 ∧ c.toNat ≠ 58)
/-- May it be a field's name? -/
def nameB (l : List UInt8) : Bool := l.all nameC && decide (0 < l.length)
theorem str_getL (t : ByteArray) (k : Nat) (h : k < t.size) (hl : k < t.data.toList.length) : t.data.toList[k] = t[k] := by
  have := str_get t k h
  rw [List.getD_eq_getElem?_getD, List.getElem?_eq_getElem hl] at this
  simpa using this
theorem S_eq {t : ByteArray} {l : List UInt8} (h : t.data.toList = l) : Value.string t = S l := by rw [← h]
theorem S_app (a b : ByteArray) : Value.string (a ++ b) = S (a.data.toList ++ b.data.toList) := by
  congr 1
theorem rBlank (c : UInt8) (w : World) : Calls Tryd.prog 23 #[.int .u8 (c.toNat : Int)] w fun e w' => e = .returned (.bool (isBl c)) ∧ w = w' := by
  by_cases h1 : c.toNat = 32
  · have e1 : ((c.toNat : Int) == 32) = true := by rw [h1]; rfl
    have HE : Hid (isBl c = true) := by show _ = _; simp [isBl, h1]
    clear h1
    go_enter Tryd.func23, Tryd.ntmps23
    go_wp2
    go_ret
    exact ⟨by rw [HE.out]; rfl, rfl⟩
  · have e1 : ((c.toNat : Int) == 32) = false := by rw [beq_eq_false_iff_ne]; omega
    by_cases h2 : c.toNat = 9
    · have e2 : ((c.toNat : Int) == 9) = true := by rw [h2]; rfl
      have HE : Hid (isBl c = true) := by show _ = _; simp [isBl, h2]
      clear h1 h2
      go_enter Tryd.func23, Tryd.ntmps23
      go_wp2
      go_ret
      exact ⟨by rw [HE.out]; rfl, rfl⟩
    · have e2 : ((c.toNat : Int) == 9) = false := by rw [beq_eq_false_iff_ne]; omega
      have HE : Hid (isBl c = false) := by show _ = _; simp [isBl, h1, h2]
      clear h1 h2
      go_enter Tryd.func23, Tryd.ntmps23
      go_wp2
      go_ret
      exact ⟨by rw [HE.out]; rfl, rfl⟩
theorem nameB_no {s : ByteArray} {k : Nat} (hk : k < s.size) (h : nameC s[k] = false) : nameB s.data.toList = false := by
  have hl : k < s.data.toList.length := by rw [str_len]; exact hk
  have : s.data.toList.all nameC = false := by
    rw [List.all_eq_false]
    exact ⟨s.data.toList[k], List.getElem_mem hl, by rw [str_getL s k hk hl, h]; simp⟩
  unfold nameB
  rw [this]; rfl
theorem nameB_yes {s : ByteArray} (h : ∀ c ∈ s.data.toList, nameC c = true) : nameB s.data.toList = decide (0 < s.size) := by
  unfold nameB
  rw [List.all_eq_true.2 h, str_len]; rfl
set_option maxHeartbeats 4000000 in
set_option maxRecDepth 100000 in
theorem rName (s : ByteArray) (w : World) (hs : s.size ≤ 9223372036854775807) : Calls Tryd.prog 31 #[.string s] w fun e w' => e = .returned (.bool (nameB s.data.toList)) ∧ w = w' := by
  go_enter Tryd.func31, Tryd.ntmps31
  go_wp2
  go_loop [3] (fun i => ∃ j : Nat, j ≤ s.size ∧ i = .int .i64 (j : Int) ∧ Hid (∀ c ∈ s.data.toList.take j, nameC c = true)) (fun i => s.size - (intOf i).toNat)
  case atStart => exact ⟨0, by omega, rfl, fun c hc => by simp at hc⟩
  case round =>
    obtain ⟨j, hj, rfl, HC⟩ := hrel
    by_cases hlt : j < s.size
    · have i0 : (0 : Int) ≤ (j : Int) := by omega
      have i1 : (j : Int) < (s.size : Int) := by omega
      have HNO : nameC s[j] = false → Hid (nameB s.data.toList = false) := fun h => nameB_no hlt h
      by_cases h1 : s[j].toNat < 33
      · have e1 : (s[j].toNat : Int) < 33 := by omega
        have HN := HNO (by unfold nameC; rw [decide_eq_false_iff_not]; omega)
        clear h1 HNO HC
        go_wp2
        go_ret
        exact ⟨by rw [HN.out]; rfl, rfl⟩
      · have e1 : ¬ (s[j].toNat : Int) < 33 := by omega
        by_cases h2 : 126 < s[j].toNat
        · have e2 : (126 : Int) < (s[j].toNat : Int) := by omega
          have HN := HNO (by unfold nameC; rw [decide_eq_false_iff_not]; omega)
          clear h1 h2 HNO HC
          go_wp2
          go_ret
          exact ⟨by rw [HN.out]; rfl, rfl⟩
        · have e2 : ¬ (126 : Int) < (s[j].toNat : Int) := by omega
          by_cases h3 : s[j].toNat = 58
          · have e3 : ((s[j].toNat : Int) == 58) = true := by rw [h3]; rfl
            have HN := HNO (by unfold nameC; rw [decide_eq_false_iff_not]; omega)
            clear h1 h2 h3 HNO HC
            go_wp2
            go_ret
            exact ⟨by rw [HN.out]; rfl, rfl⟩
          · have e3 : ((s[j].toNat : Int) == 58) = false := by rw [beq_eq_false_iff_ne]; omega
            have HC2 : Hid (∀ c ∈ s.data.toList.take (j + 1), nameC c = true) := fun c hc => by
              have hjl : j < s.data.toList.length := by rw [str_len]; exact hlt
              rw [List.take_succ_eq_append_getElem hjl] at hc
              rcases List.mem_append.1 hc with hc | hc
              · exact HC.out c hc
              · rw [List.mem_singleton.1 hc, str_getL s j hlt hjl]
                unfold nameC
                rw [decide_eq_true_eq]; omega
            clear h1 h2 h3 HC HNO
            go_wp2
            go_round
            case rel => exact ⟨j + 1, by omega, by go_num, HC2⟩
            case measure => simp [intOf]; omega
    · have i1 : ¬ (j : Int) < (s.size : Int) := by omega
      have HN : Hid (nameB s.data.toList = decide (0 < s.size)) := nameB_yes fun c hc => HC.out c (by rw [List.take_of_length_le (by rw [str_len]; omega)]; exact hc)
      clear HC
      go_wp2
      go_ret
      exact ⟨by rw [HN.out]; rfl, rfl⟩
end Go.Proofs.YtnogpoojhhmadaaDoor.Header
