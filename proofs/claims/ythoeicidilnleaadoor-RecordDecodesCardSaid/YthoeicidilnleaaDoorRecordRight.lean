/-
  RECORD: whether a message may be, by the document's answer.
-/
import Derived.Test.YthoeicidilnleaaDoorRecordMsg
import Derived.Deep.DeepCutAuto
import Derived.Deep.CutRange
namespace Go.Proofs.YthoeicidilnleaaDoor.Codec
open Go.RowKit

theorem and_snoc (a b c : Bool) : (a && b && c) = (a && (b && c)) := by cases a <;> rfl
theorem or_snoc (a b c : Bool) : (a || b || c) = (a || (b || c)) := by cases a <;> rfl
set_option maxHeartbeats 2000000 in
set_option maxRecDepth 100000 in
theorem rRight (v : Value) (m : Msg) (w : World) (hf : Fits m) (hm : MR w v m) :
    Calls Tryd.prog 15 #[v] w fun e w' => e = .returned (.int .i64 (rightOf m)) ∧ Below w.heap.size w w' := by
  obtain ⟨A, c, D, e, rfl, hr, _⟩ := hm
  unfold msgV
  obtain ⟨t, s, rs, l⟩ := m
  obtain ⟨f1, f2, f3, f4, f5, f6⟩ := hf
  dsimp only at *
  obtain ⟨out, ho⟩ : ∃ out, out = rightOf ⟨t, s, rs, l⟩ := ⟨_, rfl⟩
  rw [← ho]
  unfold rightOf longB formB at ho
  dsimp only at ho
  generalize hn : rs.length = n at *
  generalize hd : l.length = dn at *
  have HN := Lib.hid hn
  have HR := Lib.hid hr
  have H4 := Lib.hid f4
  have HO := Lib.hid ho
  have HM := Lib.hid (fun w => rIsAddr s w (by omega))
  have HI := Lib.hid rIsAddr
  have HJ := Lib.hid rIsMark
  clear hn hd hr f4 ho
  obtain ⟨w1, hw1⟩ : ∃ w1, w1 = w.alloc (.cells #[.int .i64 t, .string s, .slice A n c, .slice D dn e] 25) := ⟨_, rfl⟩
  have hb : Below w.heap.size w w1 := by rw [hw1]; exact (Below.refl _ _).alloc (Nat.le_refl _) _
  have m0 : w1.cell? ⟨w.heap.size, 0, none⟩ = some (.int .i64 t) := by rw [hw1]; go_simp
  have m1 : w1.cell? ⟨w.heap.size, 1, none⟩ = some (.string s) := by rw [hw1]; go_simp
  have m2 : w1.cell? ⟨w.heap.size, 2, none⟩ = some (.slice A n c) := by rw [hw1]; go_simp
  go_enter Tryd.func15, Tryd.ntmps15
  go_upto_region 1 with fail
  go_cut [3] (fun s3 wx => s3 = .bool (decide (1048576 < dn ∨ 200 < n ∨ 320 < s.size)) ∧ w1 = wx)
  case first =>
    have HW := Lib.hid hw1
    clear hw1 m0 m1 m2 hb
    by_cases h1 : 1048576 < dn
    · go_wp2
      go_meet
      exact ⟨congrArg Value.bool (by simp [h1]), HW.out⟩
    · by_cases h2 : 200 < n
      · go_wp2
        go_meet
        exact ⟨congrArg Value.bool (by simp [h2]), HW.out⟩
      · go_wp2
        go_meet
        exact ⟨congrArg Value.bool (by rw [Bool.eq_iff_iff]; simp; omega), HW.out⟩
  case rest =>
    obtain ⟨rfl, rfl⟩ := hcut
    clear hw1
    obtain ⟨L0, hL0⟩ : ∃ L0, L0 = decide (1048576 < dn ∨ 200 < n ∨ 320 < s.size) := ⟨_, rfl⟩
    rw [← hL0]
    have HL0 := Lib.hid hL0
    clear hL0
    go_upto_region 2 with fail
    go_cut [4] (fun s4 wy => s4 = .bool (decide (0 ≤ t ∧ t ≤ 9007199254740992 ∧ 1 ≤ n)) ∧ w1 = wy)
    case first =>
      by_cases h1 : 0 ≤ t
      · by_cases h2 : t ≤ 9007199254740992
        · go_wp2
          go_meet
          exact ⟨congrArg Value.bool (by rw [Bool.eq_iff_iff]; simp; omega), rfl⟩
        · go_wp2
          go_meet
          exact ⟨congrArg Value.bool (by rw [Bool.eq_iff_iff]; simp; omega), rfl⟩
      · go_wp2
        go_meet
        exact ⟨congrArg Value.bool (by rw [Bool.eq_iff_iff]; simp; omega), rfl⟩
    case rest =>
      obtain ⟨rfl, rfl⟩ := hcut
      obtain ⟨R0, hR0⟩ : ∃ R0, R0 = decide (0 ≤ t ∧ t ≤ 9007199254740992 ∧ 1 ≤ n) := ⟨_, rfl⟩
      rw [← hR0]
      have HR0 := Lib.hid hR0
      clear hR0
      go_upto_region 3 with fail
      go_cut [5] (fun s5 wy => s5 = .bool (fromB s.data.toList) ∧ w1 = wy)
      case first =>
        by_cases h0 : s.size = 0
        · obtain rfl := str_empty h0
          go_wp2
          go_meet
          exact ⟨rfl, rfl⟩
        · obtain ⟨h1, h1'⟩ := str_ne h0
          have hsl : s.data.toList.length = s.size := Array.length_toList
          have hff : Hid (fromB s.data.toList = addrB s.data.toList) := by
            have : s.data.toList.isEmpty = false := by rw [Bool.eq_false_iff]; intro h; rw [List.isEmpty_iff_length_eq_zero] at h; omega
            simp [Hid, fromB, this]
          clear hsl
          go_wp2_with (go_at_call 32; refine (HM.out _).mono ?_; rintro e w2 ⟨rfl, rfl⟩)
          go_meet
          exact ⟨congrArg Value.bool hff.out.symm, rfl⟩
      case rest =>
        obtain ⟨rfl, rfl⟩ := hcut
        obtain ⟨F0, hF0⟩ : ∃ F0, F0 = fromB s.data.toList := ⟨_, rfl⟩
        rw [← hF0]
        have HF0 := Lib.hid hF0
        clear hF0
        go_wp2_with fail
        go_loop [3, 4, 6] (fun s3 s4 i => ∃ (k : Nat) (L R : Bool), k ≤ n ∧ i = .int .i64 k ∧ s3 = .bool L ∧ s4 = .bool R ∧ Hid (L = (L0 || (rs.take k).any (fun r => decide (320 < r.1.size)))) ∧ Hid (R = (R0 && (rs.take k).all rcB))) (fun _ _ i => n - (intOf i).toNat)
        case atStart => exact ⟨0, L0, R0, by omega, rfl, rfl, rfl, by simp [Hid], by simp [Hid]⟩
        case round =>
          obtain ⟨k, L, R, hk, rfl, rfl, rfl, hL, hR⟩ := hrel
          by_cases hlt : k < n
          · obtain ⟨b, o, rfl, hcell⟩ := (HR.out.on hb).2 (by rw [HN.out]; omega)
            obtain ⟨hc1, hc2⟩ := hcell k (by rw [HN.out]; omega)
            have hs := H4.out _ (getD_mem (rs := rs) (i := k) (by rw [HN.out]; omega))
            have hx := all_takeR (rs := rs) (k := k) (by rw [HN.out]; omega) rcB
            have hy := any_take (rs := rs) (k := k) (by rw [HN.out]; omega) (fun r => decide (320 < r.1.size))
            generalize rs.getD k rc0 = r at hc1 hc2 hs hx hy
            obtain ⟨S, x⟩ := r
            dsimp only [rcB] at hc1 hc2 hs hx hy
            have HIs := Lib.hid (fun w => HI.out S w (by omega))
            have HJs := Lib.hid (fun w => HJ.out x _ rfl w)
            obtain ⟨X, hX⟩ : ∃ X : Int, X = (x.toNat : Int) := ⟨_, rfl⟩
            rw [← hX] at HJs hc2
            have HL : Hid ((L0 || (rs.take (k + 1)).any (fun r => decide (320 < r.1.size))) = (L || decide (320 < S.size))) := by unfold Hid; rw [hy, hL.out, or_snoc]
            have HR2 : Hid ((R0 && (rs.take (k + 1)).all rcB) = (R && (addrB S.data.toList && markB x))) := by unfold Hid; rw [hx, hR.out, and_snoc]
            obtain ⟨ba, hba⟩ : ∃ ba, ba = addrB S.data.toList := ⟨_, rfl⟩
            obtain ⟨bm, hbm⟩ : ∃ bm, bm = markB x := ⟨_, rfl⟩
            rw [← hba, ← hbm] at HR2
            rw [← hba] at HIs
            rw [← hbm] at HJs
            clear hcell hx hy hX hL hR hba hbm
            cases L <;> cases R <;> cases ba
            all_goals
              go_wp2_with (first | (go_at_call 32; refine (HIs.out _).mono ?_; rintro e w2 ⟨rfl, rfl⟩) | (go_at_call 33; refine (HJs.out _).mono ?_; rintro e w3 ⟨rfl, rfl⟩))
              go_round
              case rel => exact ⟨k + 1, _, _, by omega, by go_num, rfl, rfl, by unfold Hid; rw [HL.out]; first | rfl | (rw [Bool.eq_iff_iff]; simp <;> omega), by unfold Hid; rw [HR2.out]; first | rfl | simp⟩
              case measure => simp [intOf]; omega
          · obtain rfl : k = n := by omega
            have hF : Hid (out = if L then 31 else if R && F0 then 0 else 30) := by
              unfold Hid
              rw [HO.out, ← HF0.out, hL.out, hR.out, HL0.out, HR0.out, List.take_of_length_le (by rw [HN.out]; omega)]
              have e3 : ∀ (p : Prop) [Decidable p], decide p = true ↔ p := fun p => decide_eq_true_iff
              by_cases g1 : (decide (1048576 < dn ∨ 200 < k ∨ 320 < s.size) || rs.any fun r => decide (320 < r.1.size)) = true
              · rw [if_pos g1, if_pos g1]
              · rw [if_neg g1, if_neg g1]
                have g2 : k ≤ 200 := by simp at g1; omega
                congr 1
                rw [eq_iff_iff]
                simp only [Bool.and_eq_true, decide_eq_true_eq]
                constructor
                · rintro ⟨⟨⟨a, b⟩, c, _⟩, d⟩; exact ⟨⟨⟨a.1, a.2, c⟩, d⟩, b⟩
                · rintro ⟨⟨⟨a, b, c⟩, d⟩, f⟩; exact ⟨⟨⟨⟨a, b⟩, f⟩, c, g2⟩, d⟩
            clear hL hR hlt
            cases L <;> cases R <;> cases F0
            all_goals
              go_wp2
              go_ret
              exact ⟨ret_int hF.out.symm, hb⟩
end Go.Proofs.YthoeicidilnleaaDoor.Codec
