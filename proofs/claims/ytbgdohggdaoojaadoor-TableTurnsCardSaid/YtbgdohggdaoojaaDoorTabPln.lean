/-
  TABLE, the statement's own: whether an entry may be written as one line.
-/
import Derived.Test.YtbgdohggdaoojaaDoorTabTrnP
namespace Go.Proofs.YtbgdohggdaoojaaDoor.Table
open Go.RowKit Base
set_option maxHeartbeats 4000000 in
set_option maxRecDepth 100000 in
theorem rValue0 (s : ByteArray) (w : World) (hs : s.size ≤ 140737488355328) : Calls Tryd.prog 41 #[.string s, .slice none 0 0] w fun e w' => e = .returned (S (trim s.data.toList)) ∧ w = w' := by
  have HT := Lib.hid (rTrim s w (by omega))
  generalize trim s.data.toList = ts at HT
  go_enter Tryd.func41, Tryd.ntmps41
  go_wp2_with (first | (go_at_call 46; refine HT.out.mono ?_; rintro e w' ⟨rfl, rfl⟩; refine Hid.out ?_) | fail)
  refine Lib.hid ?_
  go_wp2
  refine wp_loop_rounds 1 ?_
  rw [rounds_succ]
  go_wp2
  go_ret
  exact ⟨rfl, rfl⟩
/-- What it answers. -/
def PlainEnd (k v : ByteArray) (w : World) (e : Ending) (w' : World) : Prop := ∃ b, e = .returned (.bool b) ∧ (b = true → PlainE k.data.toList v.data.toList) ∧ Below w.heap.size w w'
theorem plainNo {k v : ByteArray} {w w' : World} (h : Below w.heap.size w w') : PlainEnd k v w (.returned (.bool false)) w' := ⟨false, rfl, fun h => (by cases h), h⟩
theorem plainYes {k v : ByteArray} {w w' : World} (hp : PlainE k.data.toList v.data.toList) (h : Below w.heap.size w w') : PlainEnd k v w (.returned (.bool true)) w' := ⟨true, rfl, fun _ => hp, h⟩
set_option maxHeartbeats 8000000 in
set_option maxRecDepth 100000 in
theorem pPlain (k v : ByteArray) (w : World) (hk : k.size ≤ 140737488355328) (hv : v.size ≤ 140737488355328) :
    Calls Tryd.prog 17 #[.string k, .string v] w (PlainEnd k v w) := by
  have HL : Hid (Calls Tryd.prog 18 #[.string k] w fun e w' => e = .returned (S (lower k.data.toList)) ∧ Below w.heap.size w w') := rLower k w (by omega)
  have HV : Hid (∀ w1, Calls Tryd.prog 41 #[.string v, .slice none 0 0] w1 fun e w' => e = .returned (S (trim v.data.toList)) ∧ w1 = w') := fun w1 => rValue0 v w1 hv
  obtain ⟨lk, hlk⟩ : ∃ lk, lk = lower k.data.toList := ⟨_, rfl⟩
  obtain ⟨tv, htv⟩ : ∃ tv, tv = trim v.data.toList := ⟨_, rfl⟩
  rw [← hlk] at HL
  rw [← htv] at HV
  have hll : lk.length = k.size := by rw [hlk, lower_len, str_len]
  have HTV := Lib.hid htv
  have HLL := Lib.hid hll
  clear hlk htv
  go_enter Tryd.func17, Tryd.ntmps17
  go_wp2_with (first | (go_at_call 18; refine HL.out.mono ?_; rintro e w1 ⟨rfl, hb1⟩; refine Hid.out ?_) | fail)
  refine Lib.hid ?_
  have HB := Lib.hid hb1
  clear hb1 HL
  go_wp2_with (first | (go_at_call 41; refine (HV.out _).mono ?_; rintro e w2 ⟨rfl, rfl⟩; refine Hid.out ?_) | fail)
  refine Lib.hid ?_
  clear HV hll
  go_wp2
  go_loop [7] (fun i => ∃ j : Nat, j ≤ k.size ∧ i = .int .i64 (j : Int) ∧ Hid (∀ c ∈ k.data.toList.take j, 33 ≤ c.toNat ∧ c.toNat ≤ 126)) (fun i => k.size - (intOf i).toNat)
  case atStart => exact ⟨0, by omega, rfl, fun c hc => by simp at hc⟩
  case round =>
    obtain ⟨j, hj, rfl, HC⟩ := hrel
    by_cases hlt : j < k.size
    · have i0 : (0 : Int) ≤ (j : Int) := by omega
      have i1 : (j : Int) < (k.size : Int) := by omega
      have HG := Lib.hid (str_get k j hlt)
      by_cases h1 : k[j].toNat < 33
      · have e1 : (k[j].toNat : Int) < 33 := by omega
        clear h1
        go_wp2
        go_ret
        exact plainNo HB.out
      · have e1 : ¬ (k[j].toNat : Int) < 33 := by omega
        by_cases h2 : 126 < k[j].toNat
        · have e2 : (126 : Int) < (k[j].toNat : Int) := by omega
          clear h1 h2
          go_wp2
          go_ret
          exact plainNo HB.out
        · have e2 : ¬ (126 : Int) < (k[j].toNat : Int) := by omega
          have HC2 : Hid (∀ c ∈ k.data.toList.take (j + 1), 33 ≤ c.toNat ∧ c.toNat ≤ 126) := fun c hc => by
            have hjl : j < k.data.toList.length := by rw [str_len]; exact hlt
            rw [List.take_succ_eq_append_getElem hjl] at hc
            rcases List.mem_append.1 hc with hc | hc
            · exact HC.out c hc
            · rw [List.mem_singleton.1 hc, str_getL k j hlt hjl]; omega
          clear h1 h2 HC
          go_wp2
          go_round
          case rel => exact ⟨j + 1, by omega, by go_num, HC2⟩
          case measure => simp [intOf]; omega
    · have i1 : ¬ (j : Int) < (k.size : Int) := by omega
      have HK : Hid (∀ c ∈ k.data.toList, 33 ≤ c.toNat ∧ c.toNat ≤ 126) := fun c hc => HC.out c (by rw [List.take_of_length_le (by rw [str_len]; omega)]; exact hc)
      clear HC
      go_wp2
      go_loop [8] (fun i => ∃ j : Nat, j ≤ v.size ∧ i = .int .i64 (j : Int) ∧ Hid (∀ c ∈ v.data.toList.take j, 32 ≤ c.toNat ∧ c.toNat ≤ 126)) (fun i => v.size - (intOf i).toNat)
      case atStart => exact ⟨0, by omega, rfl, fun c hc => by simp at hc⟩
      case round =>
        obtain ⟨j, hj, rfl, HC⟩ := hrel
        by_cases hlt : j < v.size
        · have i0 : (0 : Int) ≤ (j : Int) := by omega
          have i1 : (j : Int) < (v.size : Int) := by omega
          by_cases h1 : v[j].toNat < 32
          · have e1 : (v[j].toNat : Int) < 32 := by omega
            clear h1
            go_wp2
            go_ret
            exact plainNo HB.out
          · have e1 : ¬ (v[j].toNat : Int) < 32 := by omega
            by_cases h2 : 126 < v[j].toNat
            · have e2 : (126 : Int) < (v[j].toNat : Int) := by omega
              clear h1 h2
              go_wp2
              go_ret
              exact plainNo HB.out
            · have e2 : ¬ (126 : Int) < (v[j].toNat : Int) := by omega
              have HC2 : Hid (∀ c ∈ v.data.toList.take (j + 1), 32 ≤ c.toNat ∧ c.toNat ≤ 126) := fun c hc => by
                have hjl : j < v.data.toList.length := by rw [str_len]; exact hlt
                rw [List.take_succ_eq_append_getElem hjl] at hc
                rcases List.mem_append.1 hc with hc | hc
                · exact HC.out c hc
                · rw [List.mem_singleton.1 hc, str_getL v j hlt hjl]; omega
              clear h1 h2 HC
              go_wp2
              go_round
              case rel => exact ⟨j + 1, by omega, by go_num, HC2⟩
              case measure => simp [intOf]; omega
        · have i1 : ¬ (j : Int) < (v.size : Int) := by omega
          have HVB : Hid (∀ c ∈ v.data.toList, 32 ≤ c.toNat ∧ c.toNat ≤ 126) := fun c hc => HC.out c (by rw [List.take_of_length_le (by rw [str_len]; omega)]; exact hc)
          clear HC
          by_cases a1 : 0 < lk.length
          · have b1 : (0 : Int) < (lk.length : Int) := by omega
            by_cases a2 : lk.length ≤ 320
            · have b2 : (lk.length : Int) ≤ 320 := by omega
              have h0 : 0 < k.size := by have := HLL.out; omega
              have b0 : (0 : Int) < (k.size : Int) := by omega
              by_cases a3 : k[0].toNat = 35
              · have b3 : ((k[0].toNat : Int) != 35) = false := by rw [a3]; rfl
                clear a1 a2 a3
                go_wp2
                go_ret
                exact plainNo HB.out
              · have b3 : ((k[0].toNat : Int) != 35) = true := by rw [bne_iff_ne]; omega
                by_cases a4 : 0 < tv.length
                · have b4 : (0 : Int) < (tv.length : Int) := by omega
                  by_cases a5 : v.size ≤ 1000
                  · have b5 : (v.size : Int) ≤ 1000 := by omega
                    have HP : Hid (PlainE k.data.toList v.data.toList) := by
                      have hkl : k.data.toList = k[0] :: (k.extract 1 k.size).data.toList := ext_tail k h0
                      refine ⟨HK.out, HVB.out, fun e => ?_, by rw [str_len, ← HLL.out]; exact a2, ?_, fun e => ?_, by rw [str_len]; exact a5⟩
                      · rw [hkl] at e; cases e
                      · rw [hkl]
                        show isHash k[0] = false
                        unfold isHash
                        rw [decide_eq_false_iff_not]; exact a3
                      · rw [← HTV.out] at e; rw [e] at a4; simp at a4
                    clear a1 a2 a3 a4 a5
                    go_wp2
                    go_ret
                    exact plainYes HP.out HB.out
                  · have b5 : ¬ (v.size : Int) ≤ 1000 := by omega
                    clear a1 a2 a3 a4 a5
                    go_wp2
                    go_ret
                    exact plainNo HB.out
                · have b4 : ¬ (0 : Int) < (tv.length : Int) := by omega
                  clear a1 a2 a3 a4
                  go_wp2
                  go_ret
                  exact plainNo HB.out
            · have b2 : ¬ (lk.length : Int) ≤ 320 := by omega
              clear a1 a2
              go_wp2
              go_ret
              exact plainNo HB.out
          · have b1 : ¬ (0 : Int) < (lk.length : Int) := by omega
            clear a1
            go_wp2
            go_ret
            exact plainNo HB.out
end Go.Proofs.YtbgdohggdaoojaaDoor.Table
