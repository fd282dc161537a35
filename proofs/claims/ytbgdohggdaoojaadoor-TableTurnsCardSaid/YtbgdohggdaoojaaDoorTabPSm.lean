/-
  TABLE, the program: the first byte that may not be; the first of two faults.
-/
import Derived.Test.YtbgdohggdaoojaaDoorTabPLib
namespace Go.Proofs.YtbgdohggdaoojaaDoor.Table
open Go.RowKit Base
def badF (l : List UInt8) : Nat × Nat := match badK l l.length with
  | [] => (0, 0)
  | i :: _ => (61, i)
theorem badK_more (l : List UInt8) (m : Nat) : ∀ (d : Nat), ∃ r, badK l (m + d) = badK l m ++ r
  | 0 => ⟨[], by simp⟩
  | d + 1 => by
    obtain ⟨r, hr⟩ := badK_more l m d
    cases h : isOkB (l.getD (m + d) 0)
    · exact ⟨r ++ [m + d], by rw [← Nat.add_assoc, badK_no h, hr, List.append_assoc]⟩
    · exact ⟨r, by rw [← Nat.add_assoc, badK_yes h, hr]⟩
theorem badF_at {l : List UInt8} {k : Nat} (h0 : badK l k = []) (hk : k < l.length) (hb : isOkB (l.getD k 0) = false) : badF l = (61, k) := by
  obtain ⟨r, hr⟩ := badK_more l (k + 1) (l.length - (k + 1))
  rw [show k + 1 + (l.length - (k + 1)) = l.length by omega, badK_no hb, h0] at hr
  unfold badF
  rw [hr]; rfl
def fltV (f : Nat × Nat) : Value := .agg #[.int .i64 (f.1 : Int), .int .i64 (f.2 : Int)]
set_option maxHeartbeats 4000000 in
set_option maxRecDepth 100000 in
theorem pBad (s : ByteArray) (w : World) (hs : s.size ≤ 1000000) : Calls Tryd.prog 25 #[.string s] w fun e w' => e = .returned (fltV (badF s.data.toList)) ∧ Below w.heap.size w w' := by
  obtain ⟨fl, hfl⟩ : ∃ fl, fl = badF s.data.toList := ⟨_, rfl⟩
  have HFL := Lib.hid hfl
  rw [← hfl]
  clear hfl
  have hbx := (MapKept.heap_alloc w (.cells #[.int .i64 0, .int .i64 0] 27)).1
  obtain ⟨wb, hwb⟩ : ∃ wb, wb = w.alloc (.cells #[.int .i64 0, .int .i64 0] 27) := ⟨_, rfl⟩
  have HB0 : Hid (Below w.heap.size w wb) := by rw [hwb]; exact Below.alloc1 _ _
  rw [← hwb] at hbx
  have HBX := Lib.hid hbx
  have HWB := Lib.hid hwb
  clear hbx hwb
  go_enter Tryd.func25, Tryd.ntmps25
  go_wp2
  rw [← HWB.out]
  go_loop [3] (fun i => ∃ k : Nat, k ≤ s.size ∧ i = .int .i64 k ∧ Hid (badK s.data.toList k = [])) (fun i => s.size - (intOf i).toNat)
  case atStart => exact ⟨0, by omega, rfl, rfl⟩
  case round =>
    obtain ⟨k, hk, rfl, HK⟩ := hrel
    have i0 : (0 : Int) ≤ (k : Int) := by omega
    by_cases hlt : k < s.size
    · have i1 : (k : Int) < (s.size : Int) := by omega
      have HG := Lib.hid (str_get s k hlt)
      have hx := s[k].toNat_lt
      have HY : isOkB s[k] = true → Hid (badK s.data.toList (k + 1) = []) := fun h => by show _ = _; rw [badK_yes (by rw [HG.out]; exact h)]; exact HK.out
      have HNO : isOkB s[k] = false → Hid (fl = (61, k)) := fun h => by show _ = _; rw [HFL.out]; exact badF_at HK.out (by rw [str_len]; exact hlt) (by rw [HG.out]; exact h)
      by_cases h9 : s[k].toNat = 9
      · have e1 : ((s[k].toNat : Int) != 9) = false := by rw [h9]; rfl
        have HB := HY (by simp [isOkB, h9])
        clear HY HNO h9
        go_wp2
        go_round
        case rel => exact ⟨k + 1, by omega, by go_num, HB⟩
        case measure => simp [intOf]; omega
      · have e1 : ((s[k].toNat : Int) != 9) = true := by rw [bne_iff_ne]; omega
        by_cases h10 : s[k].toNat = 10
        · have e2 : ((s[k].toNat : Int) != 10) = false := by rw [h10]; rfl
          have HB := HY (by simp [isOkB, h10])
          clear HY HNO h9 h10
          go_wp2
          go_round
          case rel => exact ⟨k + 1, by omega, by go_num, HB⟩
          case measure => simp [intOf]; omega
        · have e2 : ((s[k].toNat : Int) != 10) = true := by rw [bne_iff_ne]; omega
          by_cases h32 : 32 ≤ s[k].toNat
          · have e3 : ¬ (s[k].toNat : Int) < 32 := by omega
            by_cases h126 : s[k].toNat ≤ 126
            · have e4 : ¬ (126 : Int) < (s[k].toNat : Int) := by omega
              have HB := HY (by simp [isOkB, h32, h126])
              clear HY HNO h9 h10 h32 h126
              go_wp2
              go_round
              case rel => exact ⟨k + 1, by omega, by go_num, HB⟩
              case measure => simp [intOf]; omega
            · have e4 : (126 : Int) < (s[k].toNat : Int) := by omega
              have HF := HNO (by simp [isOkB, h9, h10]; omega)
              clear HY HNO h9 h10 h32 h126
              obtain ⟨y1, y2, y3, y4⟩ := two_cells HBX.out
              go_wp2
              obtain ⟨z1, z2, _, _⟩ := two_cells (set_two HBX.out (.int .i64 61) (.int .i64 (k : Int)))
              exact bodyPost_ret (v := .agg #[.int .i64 61, .int .i64 (k : Int)]) (by simp [results, Tryd.results25, go_sem, z1, z2]) rfl ⟨by rw [HF.out]; rfl, (HB0.out.setCell (Nat.le_refl _) _).setCell (Nat.le_refl _) _⟩
          · have e3 : (s[k].toNat : Int) < 32 := by omega
            have HF := HNO (by simp [isOkB, h9, h10]; omega)
            clear HY HNO h9 h10 h32
            obtain ⟨y1, y2, y3, y4⟩ := two_cells HBX.out
            go_wp2
            obtain ⟨z1, z2, _, _⟩ := two_cells (set_two HBX.out (.int .i64 61) (.int .i64 (k : Int)))
            exact bodyPost_ret (v := .agg #[.int .i64 61, .int .i64 (k : Int)]) (by simp [results, Tryd.results25, go_sem, z1, z2]) rfl ⟨by rw [HF.out]; rfl, (HB0.out.setCell (Nat.le_refl _) _).setCell (Nat.le_refl _) _⟩
    · have i1 : ¬ (k : Int) < (s.size : Int) := by omega
      have HF : Hid (fl = (0, 0)) := by
        have hk2 : k = s.data.toList.length := by rw [str_len]; omega
        show _ = _
        rw [HFL.out]; unfold badF
        rw [← hk2, HK.out]
      obtain ⟨y1, y2, y3, y4⟩ := two_cells HBX.out
      go_wp2
      obtain ⟨z1, z2, _, _⟩ := two_cells (set_two HBX.out (.int .i64 0) (.int .i64 0))
      exact bodyPost_ret (v := .agg #[.int .i64 0, .int .i64 0]) (by simp [results, Tryd.results25, go_sem, z1, z2]) rfl ⟨by rw [HF.out]; rfl, (HB0.out.setCell (Nat.le_refl _) _).setCell (Nat.le_refl _) _⟩
def firstF (a b : Nat × Nat) : Nat × Nat := if b.1 = 0 ∨ (a.1 ≠ 0 ∧ a.2 ≤ b.2) then a else b
set_option maxHeartbeats 4000000 in
set_option maxRecDepth 100000 in
theorem pFirst (a b : Nat × Nat) (w : World) : Calls Tryd.prog 33 #[fltV a, fltV b] w fun e w' => e = .returned (fltV (firstF a b)) ∧ Below w.heap.size w w' := by
  obtain ⟨a1, a2⟩ := a
  obtain ⟨b1, b2⟩ := b
  have HBB : ∀ o1 o2 o3 : Obj, Below w.heap.size w (((w.alloc o1).alloc o2).alloc o3) := fun o1 o2 o3 => (((Below.refl _ _).alloc (Nat.le_refl _) _).alloc (by simp) _).alloc (by simp; omega) _
  unfold fltV
  by_cases h1 : b1 = 0
  · have HF : Hid (firstF (a1, a2) (b1, b2) = (a1, a2)) := by show _ = _; unfold firstF; rw [if_pos (Or.inl h1)]
    have e1 : ((b1 : Int) == 0) = true := by rw [h1]; rfl
    clear h1
    go_enter Tryd.func33, Tryd.ntmps33
    go_wp2
    exact bodyPost_ret (v := .agg #[.int .i64 (a1 : Int), .int .i64 (a2 : Int)]) (by simp [results, Tryd.results33, go_sem]) rfl ⟨by rw [HF.out], HBB _ _ _⟩
  · have e1 : ((b1 : Int) == 0) = false := by rw [beq_eq_false_iff_ne]; omega
    by_cases h2 : a1 = 0
    · have HF : Hid (firstF (a1, a2) (b1, b2) = (b1, b2)) := by show _ = _; unfold firstF; rw [if_neg (fun h => h.elim h1 (fun h => h.1 h2))]
      have e2 : ((a1 : Int) != 0) = false := by rw [h2]; rfl
      clear h1 h2
      go_enter Tryd.func33, Tryd.ntmps33
      go_wp2
      exact bodyPost_ret (v := .agg #[.int .i64 (b1 : Int), .int .i64 (b2 : Int)]) (by simp [results, Tryd.results33, go_sem]) rfl ⟨by rw [HF.out], HBB _ _ _⟩
    · have e2 : ((a1 : Int) != 0) = true := by rw [bne_iff_ne]; omega
      by_cases h3 : a2 ≤ b2
      · have HF : Hid (firstF (a1, a2) (b1, b2) = (a1, a2)) := by show _ = _; unfold firstF; rw [if_pos (Or.inr ⟨h2, h3⟩)]
        have e3 : (a2 : Int) ≤ (b2 : Int) := by omega
        clear h1 h2 h3
        go_enter Tryd.func33, Tryd.ntmps33
        go_wp2
        exact bodyPost_ret (v := .agg #[.int .i64 (a1 : Int), .int .i64 (a2 : Int)]) (by simp [results, Tryd.results33, go_sem]) rfl ⟨by rw [HF.out], HBB _ _ _⟩
      · have HF : Hid (firstF (a1, a2) (b1, b2) = (b1, b2)) := by show _ = _; unfold firstF; rw [if_neg (fun h => h.elim h1 (fun h => h3 h.2))]
        have e3 : ¬ (a2 : Int) ≤ (b2 : Int) := by omega
        clear h1 h2 h3
        go_enter Tryd.func33, Tryd.ntmps33
        go_wp2
        exact bodyPost_ret (v := .agg #[.int .i64 (b1 : Int), .int .i64 (b2 : Int)]) (by simp [results, Tryd.results33, go_sem]) rfl ⟨by rw [HF.out], HBB _ _ _⟩
end Go.Proofs.YtbgdohggdaoojaaDoor.Table
