/-
  REPLY: a line's text, by index and by a range over a string; digits.
-/
import Derived.Test.YthkabehojmncmaaDoorRepCode
import Derived.Laws.RangeAny
import Derived.Laws.RangeString
namespace Go.Proofs.YthkabehojmncmaaDoor.Reply
open Go.RowKit Base
theorem text_no {l : List UInt8} {k : Nat} (hk : k < l.length) (h : okC (l.getD k 0) = false) : textB l = false := by
  unfold textB
  rw [all_not hk okC h, Bool.and_false]
theorem text_len_no {l : List UInt8} (h : ¬ l.length ≤ 506) : textB l = false := by
  unfold textB
  rw [decide_eq_false h, Bool.false_and]
theorem text_yes {l : List UInt8} (h : l.length ≤ 506) (h2 : l.all okC = true) : textB l = true := by
  unfold textB
  rw [decide_eq_true h, h2]; rfl
theorem okC_no {c : UInt8} (h9 : ¬ c.toNat = 9) (h : c.toNat < 32 ∨ 126 < c.toNat) : okC c = false := by unfold okC; exact decide_eq_false (by omega)
theorem okC_yes {c : UInt8} (h : c.toNat = 9 ∨ (32 ≤ c.toNat ∧ c.toNat ≤ 126)) : okC c = true := by unfold okC; exact decide_eq_true h
set_option maxHeartbeats 4000000 in
set_option maxRecDepth 100000 in
theorem rText (s : ByteArray) (w : World) (hs : s.size ≤ 9223372036854775807) : Calls Tryd.prog 24 #[.string s] w (AskEnd (textB s.data.toList) w) := by
  obtain ⟨l, hll⟩ : ∃ l, l = s.data.toList := ⟨_, rfl⟩
  have hlen : l.length = s.size := by rw [hll, str_len]
  have HLS : Hid (∀ k (h : k < s.size), l.getD k 0 = s[k]) := fun k h => by rw [hll]; exact str_get s k h
  obtain ⟨out, hout⟩ : ∃ out, out = textB l := ⟨_, rfl⟩
  have HO := Lib.hid hout
  have HL := Lib.hid hlen
  rw [← hll, ← hout]
  clear hout hll hlen
  by_cases h506 : s.size ≤ 506
  · have q0 : (s.size : Int) ≤ 506 := by omega
    go_enter Tryd.func24, Tryd.ntmps24
    go_wp2
    go_loop [3] (fun i => ∃ k : Nat, k ≤ s.size ∧ i = .int .i64 k ∧ Hid ((l.take k).all okC = true)) (fun i => s.size - (intOf i).toNat)
    case atStart => exact ⟨0, by omega, rfl, rfl⟩
    case round =>
      obtain ⟨k, hk, rfl, hn⟩ := hrel
      by_cases hlt : k < s.size
      · have i0 : (0 : Int) ≤ (k : Int) := by omega
        have i1 : (k : Int) < (s.size : Int) := by omega
        have HG : Hid (l.getD k 0 = s[k]) := HLS.out k hlt
        have HK : Hid (k < l.length) := by show _ < _; rw [HL.out]; exact hlt
        have hb := s[k].toNat_lt
        by_cases h9 : s[k].toNat = 9
        · have HN : Hid ((l.take (k + 1)).all okC = true) := by
            show _ = _
            rw [all_take HK.out, hn.out, HG.out, okC_yes (Or.inl h9)]; rfl
          have e1 : (s[k].toNat : Int) = 9 := by omega
          clear hn h9
          go_wp2
          go_round
          case rel => exact ⟨k + 1, by omega, by go_num, HN⟩
          case measure => simp [intOf]; omega
        · have e1 : ¬ (s[k].toNat : Int) = 9 := by omega
          by_cases h2 : s[k].toNat < 32
          · have HT : Hid (out = false) := by show _ = _; rw [HO.out]; exact text_no HK.out (by rw [HG.out]; exact okC_no h9 (Or.inl h2))
            have e2 : (s[k].toNat : Int) < 32 := by omega
            clear hn h9 h2
            go_wp2
            go_ret
            exact ⟨ret_bool HT.out.symm, rfl⟩
          · have e2 : ¬ (s[k].toNat : Int) < 32 := by omega
            by_cases h3 : 126 < s[k].toNat
            · have HT : Hid (out = false) := by show _ = _; rw [HO.out]; exact text_no HK.out (by rw [HG.out]; exact okC_no h9 (Or.inr h3))
              have e3 : (126 : Int) < (s[k].toNat : Int) := by omega
              clear hn h9 h2 h3
              go_wp2
              go_ret
              exact ⟨ret_bool HT.out.symm, rfl⟩
            · have e3 : ¬ (126 : Int) < (s[k].toNat : Int) := by omega
              have HN : Hid ((l.take (k + 1)).all okC = true) := by
                show _ = _
                rw [all_take HK.out, hn.out, HG.out, okC_yes (Or.inr ⟨by omega, by omega⟩)]; rfl
              clear hn h9 h2 h3
              go_wp2
              go_round
              case rel => exact ⟨k + 1, by omega, by go_num, HN⟩
              case measure => simp [intOf]; omega
      · have i1 : ¬ (k : Int) < (s.size : Int) := by omega
        have HT : Hid (out = true) := by
          show _ = _
          rw [HO.out]
          have := hn.out
          have hl := HL.out
          rw [List.take_of_length_le (by omega)] at this
          exact text_yes (by omega) this
        clear hn
        go_wp2
        go_ret
        exact ⟨ret_bool HT.out.symm, rfl⟩
  · have q0 : ¬ (s.size : Int) ≤ 506 := by omega
    have HT : Hid (out = false) := by show _ = _; rw [HO.out]; exact text_len_no (by rw [HL.out]; exact h506)
    go_enter Tryd.func24, Tryd.ntmps24
    go_wp2
    go_ret
    exact ⟨ret_bool HT.out.symm, rfl⟩
set_option maxHeartbeats 4000000 in
set_option maxRecDepth 100000 in
theorem pText (s : ByteArray) (w : World) (hs : s.size ≤ 9223372036854775807) : Calls Tryd.prog 22 #[.string s] w fun e w' => e = .returned (.bool (textB s.data.toList)) ∧ Below w.heap.size w w' := by
  obtain ⟨l, hll⟩ : ∃ l, l = s.data.toList := ⟨_, rfl⟩
  have hlen : l.length = s.size := by rw [hll, str_len]
  have HLS : Hid (∀ k (h : k < s.size), l.getD k 0 = s[k]) := fun k h => by rw [hll]; exact str_get s k h
  obtain ⟨out, hout⟩ : ∃ out, out = textB l := ⟨_, rfl⟩
  have HO := Lib.hid hout
  have HL := Lib.hid hlen
  have HBW : Hid (∀ p, Below w.heap.size w (w.iter s p)) := fun p => (Below.refl _ _).alloc (Nat.le_refl _) _
  rw [← hll, ← hout]
  clear hout hll hlen
  by_cases h506 : s.size ≤ 506
  · have q0 : (s.size : Int) ≤ 506 := by omega
    go_enter Tryd.func22, Tryd.ntmps22
    go_wp2
    go_loopw [4] (fun _ wr => ∃ k : Nat, k ≤ s.size ∧ wr = w.iter s k ∧ Hid ((l.take k).all okC = true)) (fun _ wr => s.size - wr.iterPos w.heap.size)
    case atStart => exact ⟨0, by omega, rfl, rfl⟩
    case round =>
      obtain ⟨k, hk, rfl, hn⟩ := hrel
      by_cases hlt : k < s.size
      · have HG : Hid (l.getD k 0 = s[k]) := HLS.out k hlt
        have HK : Hid (k < l.length) := by show _ < _; rw [HL.out]; exact hlt
        by_cases hasc : s[k].toNat < 128
        · have hnx : ∀ ty, (Instr.next (.pointer (some ⟨w.heap.size, 0, none⟩)) true ty).run Tryd.prog (w.iter s k) = _ := fun ty => run_next_ascii w s k ty hlt hasc
          by_cases h9 : s[k].toNat = 9
          · have HN : Hid ((l.take (k + 1)).all okC = true) := by
              show _ = _
              rw [all_take HK.out, hn.out, HG.out, okC_yes (Or.inl h9)]; rfl
            have e1 : (s[k].toNat : Int) = 9 := by omega
            clear hn h9
            go_wp2
            go_roundw
            case rel => exact ⟨k + 1, by omega, rfl, HN⟩
            case measure => simp; omega
          · have e1 : ¬ (s[k].toNat : Int) = 9 := by omega
            by_cases h2 : s[k].toNat < 32
            · have HT : Hid (out = false) := by show _ = _; rw [HO.out]; exact text_no HK.out (by rw [HG.out]; exact okC_no h9 (Or.inl h2))
              have e2 : (s[k].toNat : Int) < 32 := by omega
              clear hn h9 h2
              go_wp2
              go_ret
              exact ⟨ret_bool HT.out.symm, HBW.out _⟩
            · have e2 : ¬ (s[k].toNat : Int) < 32 := by omega
              by_cases h3 : 126 < s[k].toNat
              · have HT : Hid (out = false) := by show _ = _; rw [HO.out]; exact text_no HK.out (by rw [HG.out]; exact okC_no h9 (Or.inr h3))
                have e3 : (126 : Int) < (s[k].toNat : Int) := by omega
                clear hn h9 h2 h3
                go_wp2
                go_ret
                exact ⟨ret_bool HT.out.symm, HBW.out _⟩
              · have e3 : ¬ (126 : Int) < (s[k].toNat : Int) := by omega
                have HN : Hid ((l.take (k + 1)).all okC = true) := by
                  show _ = _
                  rw [all_take HK.out, hn.out, HG.out, okC_yes (Or.inr ⟨by omega, by omega⟩)]; rfl
                clear hn h9 h2 h3
                go_wp2
                go_roundw
                case rel => exact ⟨k + 1, by omega, rfl, HN⟩
                case measure => simp; omega
        · have hnx : ∀ ty, (Instr.next (.pointer (some ⟨w.heap.size, 0, none⟩)) true ty).run Tryd.prog (w.iter s k) = _ := fun ty => run_next_any w s k ty hlt
          have hd := decode_high s k hlt (by omega)
          have hd2 := decode_le s k
          have HT : Hid (out = false) := by show _ = _; rw [HO.out]; exact text_no HK.out (by rw [HG.out]; exact okC_no (by omega) (Or.inr (by omega)))
          generalize Utf8.decode s k = D at hnx hd hd2
          obtain ⟨r, wd⟩ := D
          have e1 : ¬ (r : Int) = 9 := by have := hd.1; dsimp only at this; omega
          have e2 : ¬ (r : Int) < 32 := by have := hd.1; dsimp only at this; omega
          have e3 : (126 : Int) < (r : Int) := by have := hd.1; dsimp only at this; omega
          clear hn hasc hd
          dsimp only at hnx hd2
          go_wp2
          go_ret
          exact ⟨ret_bool HT.out.symm, HBW.out _⟩
      · have hnx : ∀ ty, (Instr.next (.pointer (some ⟨w.heap.size, 0, none⟩)) true ty).run Tryd.prog (w.iter s k) = _ := fun ty => run_next_end w s k ty hlt
        have HT : Hid (out = true) := by
          show _ = _
          rw [HO.out]
          have := hn.out
          have hl := HL.out
          rw [List.take_of_length_le (by omega)] at this
          exact text_yes (by omega) this
        clear hn
        go_wp2
        go_ret
        exact ⟨ret_bool HT.out.symm, HBW.out _⟩
  · have q0 : ¬ (s.size : Int) ≤ 506 := by omega
    have HT : Hid (out = false) := by show _ = _; rw [HO.out]; exact text_len_no (by rw [HL.out]; exact h506)
    go_enter Tryd.func22, Tryd.ntmps22
    go_wp2
    go_ret
    exact ⟨ret_bool HT.out.symm, Below.refl _ _⟩
end Go.Proofs.YthkabehojmncmaaDoor.Reply
