/-
  TABLE: words of bytes: blanks, what is cut off, small letters, values put together; the given answers' functions of these.
-/
import Derived.Test.YtbgdohggdaoojaaDoorStrBase
import Derived.Deep.CutBlock
import Derived.Deep.DeepCutAuto
namespace Go.Proofs.YtbgdohggdaoojaaDoor.Table
open Go.RowKit Base
def isBl (c : UInt8) : Bool := decide (c.toNat = 32 ∨ c.toNat = 9)
def trimL (l : List UInt8) : List UInt8 := l.dropWhile isBl
def trimR (l : List UInt8) : List UInt8 := (l.reverse.dropWhile isBl).reverse
/-- Without blanks about it. -/
def trim (l : List UInt8) : List UInt8 := trimR (trimL l)
def low1 (c : UInt8) : UInt8 := if 65 ≤ c.toNat ∧ c.toNat ≤ 90 then c + 32 else c
/-- In small letters. -/
def lower (l : List UInt8) : List UInt8 := l.map low1
def joinP (s p : List UInt8) : List UInt8 := (if s = [] then s else s ++ [32]) ++ p
def valueOf (first : List UInt8) (more : List (List UInt8)) : List UInt8 := more.foldl joinP (trim first)
theorem lower_len (l : List UInt8) : (lower l).length = l.length := by simp [lower]
theorem trimL_len (l : List UInt8) : (trimL l).length ≤ l.length := (List.dropWhile_sublist _).length_le
theorem trimR_len (l : List UInt8) : (trimR l).length ≤ l.length := by unfold trimR; rw [List.length_reverse]; exact Nat.le_trans (List.dropWhile_sublist _).length_le (by simp)
theorem trim_len (l : List UInt8) : (trim l).length ≤ l.length := Nat.le_trans (trimR_len _) (trimL_len _)
theorem trimL_cons_yes {c : UInt8} {l : List UInt8} (h : isBl c = true) : trimL (c :: l) = trimL l := by simp [trimL, h]
theorem trimL_cons_no {c : UInt8} {l : List UInt8} (h : isBl c = false) : trimL (c :: l) = c :: l := by simp [trimL, h]
theorem trimR_snoc_yes {c : UInt8} {l : List UInt8} (h : isBl c = true) : trimR (l ++ [c]) = trimR l := by simp [trimR, h]
theorem trimR_snoc_no {c : UInt8} {l : List UInt8} (h : isBl c = false) : trimR (l ++ [c]) = l ++ [c] := by simp [trimR, h]
theorem rBlank (c : UInt8) (w : World) : Calls Tryd.prog 47 #[.int .u8 (c.toNat : Int)] w fun e w' => e = .returned (.bool (isBl c)) ∧ w = w' := by
  by_cases h1 : c.toNat = 32
  · have e1 : ((c.toNat : Int) == 32) = true := by rw [h1]; rfl
    have HE : Hid (isBl c = true) := by show _ = _; simp [isBl, h1]
    clear h1
    go_enter Tryd.func47, Tryd.ntmps47
    go_wp2
    go_ret
    exact ⟨by rw [HE.out]; rfl, rfl⟩
  · have e1 : ((c.toNat : Int) == 32) = false := by rw [beq_eq_false_iff_ne]; omega
    by_cases h2 : c.toNat = 9
    · have e2 : ((c.toNat : Int) == 9) = true := by rw [h2]; rfl
      have HE : Hid (isBl c = true) := by show _ = _; simp [isBl, h2]
      clear h1 h2
      go_enter Tryd.func47, Tryd.ntmps47
      go_wp2
      go_ret
      exact ⟨by rw [HE.out]; rfl, rfl⟩
    · have e2 : ((c.toNat : Int) == 9) = false := by rw [beq_eq_false_iff_ne]; omega
      have HE : Hid (isBl c = false) := by show _ = _; simp [isBl, h1, h2]
      clear h1 h2
      go_enter Tryd.func47, Tryd.ntmps47
      go_wp2
      go_ret
      exact ⟨by rw [HE.out]; rfl, rfl⟩
theorem str_getL (t : ByteArray) (k : Nat) (h : k < t.size) (hl : k < t.data.toList.length) : t.data.toList[k] = t[k] := by
  have := str_get t k h
  rw [List.getD_eq_getElem?_getD, List.getElem?_eq_getElem hl] at this
  simpa using this
theorem ext_tail (t : ByteArray) (h : 0 < t.size) : t.data.toList = t[0] :: (t.extract 1 t.size).data.toList := by
  have e : (t.extract 1 t.size).data.toList = t.data.toList.drop 1 := by
    rw [extract_bytes, List.take_of_length_le (by rw [str_len]; omega)]
  have hl : 0 < t.data.toList.length := by rw [str_len]; exact h
  have h1 := List.drop_eq_getElem_cons hl
  rw [List.drop_zero, str_getL t 0 h hl] at h1
  rw [e]; exact h1
theorem ext_init (t : ByteArray) (n : Nat) (h : n < t.size) (h2 : t.size = n + 1) : t.data.toList = (t.extract 0 n).data.toList ++ [t[n]] := by
  have e : (t.extract 0 n).data.toList = t.data.toList.take n := by
    rw [extract_bytes]; simp
  have hl : n < t.data.toList.length := by rw [str_len]; exact h
  have h1 := List.take_succ_eq_append_getElem hl
  rw [List.take_of_length_le (by rw [str_len]; omega), str_getL t n h hl] at h1
  rw [e]; exact h1
theorem ext_size1 (t : ByteArray) : (t.extract 1 t.size).size = t.size - 1 := by simp
theorem ext_size0 (t : ByteArray) (n : Nat) (h : n ≤ t.size) : (t.extract 0 n).size = n := by simp; omega
theorem S_eq {t : ByteArray} {l : List UInt8} (h : t.data.toList = l) : Value.string t = S l := by rw [← h]
set_option maxHeartbeats 4000000 in
set_option maxRecDepth 100000 in
theorem rTrim (s : ByteArray) (w : World) (hs : s.size ≤ 9223372036854775807) : Calls Tryd.prog 46 #[.string s] w fun e w' => e = .returned (S (trim s.data.toList)) ∧ w = w' := by
  obtain ⟨lz, hlz⟩ : ∃ lz, lz = trim s.data.toList := ⟨_, rfl⟩
  rw [← hlz]
  have HLZ := Lib.hid hlz
  clear hlz
  go_enter Tryd.func46, Tryd.ntmps46
  go_wp2
  go_loop [0] (fun v => ∃ t : ByteArray, v = .string t ∧ t.size ≤ s.size ∧ Hid (trimL t.data.toList = trimL s.data.toList)) (fun v => match v with | .string t => t.size | _ => 0)
  case atStart => exact ⟨s, rfl, Nat.le_refl _, rfl⟩
  case round =>
    obtain ⟨t, rfl, hts, HT⟩ := hrel
    have HFIN : (t.size = 0 ∨ ∃ h : 0 < t.size, isBl t[0] = false) → Hid (trimL s.data.toList = t.data.toList) := fun h => by
      show trimL s.data.toList = t.data.toList
      rcases h with h | ⟨h, hb⟩
      · rw [← HT.out, List.eq_nil_of_length_eq_zero (l := t.data.toList) (by rw [str_len]; exact h)]; rfl
      · rw [← HT.out, ext_tail t h, trimL_cons_no hb]
    by_cases h0 : 0 < t.size
    · have i0 : (0 : Int) < (t.size : Int) := by omega
      have HB := Lib.hid (rBlank t[0] w)
      cases hb : isBl t[0]
      · rw [hb] at HB
        have HT2 : Hid (trimL s.data.toList = t.data.toList) := HFIN (Or.inr ⟨h0, hb⟩)
        clear HT HFIN hb
        go_wp2_with (first | (go_at_call 47; refine HB.out.mono ?_; rintro e w' ⟨rfl, rfl⟩; refine Hid.out ?_) | fail)
        refine Lib.hid ?_
        go_wp2
        go_loop [0] (fun v => ∃ u : ByteArray, v = .string u ∧ u.size ≤ s.size ∧ Hid (trimR u.data.toList = lz)) (fun v => match v with | .string t => t.size | _ => 0)
        case atStart => exact ⟨t, rfl, hts, by show _ = _; rw [HLZ.out]; unfold trim; rw [HT2.out]⟩
        case round =>
          obtain ⟨u, rfl, hus, HU⟩ := hrel
          by_cases h0 : 0 < u.size
          · have i0 : (0 : Int) < (u.size : Int) := by omega
            obtain ⟨n, hn⟩ : ∃ n, u.size = n + 1 := ⟨u.size - 1, by omega⟩
            have hnl : n < u.size := by omega
            have HN := Lib.hid hn
            have i1 : (u.size : Int) - 1 = (n : Int) := by omega
            have i2 : (0 : Int) ≤ (n : Int) := by omega
            have i3 : (n : Int) < (u.size : Int) := by omega
            have HB := Lib.hid (rBlank u[n] w)
            clear hn
            cases hb : isBl u[n]
            · rw [hb] at HB
              have HU2 : Hid (u.data.toList = lz) := by show _ = _; rw [← HU.out, ext_init u n hnl HN.out, trimR_snoc_no hb]
              clear HU hb
              go_wp2_with (first | (go_at_call 47; refine HB.out.mono ?_; rintro e w' ⟨rfl, rfl⟩; refine Hid.out ?_) | fail)
              refine Lib.hid ?_
              go_wp2
              go_ret
              exact ⟨congrArg Ending.returned (S_eq HU2.out), rfl⟩
            · rw [hb] at HB
              have HU2 : Hid (trimR (u.extract 0 n).data.toList = lz) := by show _ = _; rw [← HU.out, ext_init u n hnl HN.out, trimR_snoc_yes hb]
              have HZ := Lib.hid (ext_size0 u n (by omega))
              clear HU hb
              go_wp2_with (first | (go_at_call 47; refine HB.out.mono ?_; rintro e w' ⟨rfl, rfl⟩; refine Hid.out ?_) | fail)
              refine Lib.hid ?_
              go_wp2
              go_round
              case rel => exact ⟨_, rfl, by rw [HZ.out]; omega, HU2⟩
              case measure => simp; omega
          · have i0 : ¬ (0 : Int) < (u.size : Int) := by omega
            have HU2 : Hid (u.data.toList = lz) := by
              show _ = _
              have e : u.data.toList = [] := List.eq_nil_of_length_eq_zero (by rw [str_len]; omega)
              rw [← HU.out, e]; rfl
            clear HU
            go_wp2
            go_ret
            exact ⟨congrArg Ending.returned (S_eq HU2.out), rfl⟩
      · rw [hb] at HB
        have HT2 : Hid (trimL (t.extract 1 t.size).data.toList = trimL s.data.toList) := by show _ = _; rw [← HT.out, ext_tail t h0, trimL_cons_yes hb]
        have HZ := Lib.hid (ext_size1 t)
        clear HT HFIN hb
        go_wp2_with (first | (go_at_call 47; refine HB.out.mono ?_; rintro e w' ⟨rfl, rfl⟩; refine Hid.out ?_) | fail)
        refine Lib.hid ?_
        go_wp2
        go_round
        case rel => exact ⟨_, rfl, by rw [HZ.out]; omega, HT2⟩
        case measure => simp; omega
    · have i0 : ¬ (0 : Int) < (t.size : Int) := by omega
      have HT2 : Hid (trimL s.data.toList = t.data.toList) := HFIN (Or.inl (by omega))
      clear HT HFIN
      go_wp2
      go_loop [0] (fun v => ∃ u : ByteArray, v = .string u ∧ u.size ≤ s.size ∧ Hid (trimR u.data.toList = lz)) (fun v => match v with | .string t => t.size | _ => 0)
      case atStart => exact ⟨t, rfl, hts, by show _ = _; rw [HLZ.out]; unfold trim; rw [HT2.out]⟩
      case round =>
        obtain ⟨u, rfl, hus, HU⟩ := hrel
        by_cases h0 : 0 < u.size
        · have i0 : (0 : Int) < (u.size : Int) := by omega
          obtain ⟨n, hn⟩ : ∃ n, u.size = n + 1 := ⟨u.size - 1, by omega⟩
          have hnl : n < u.size := by omega
          have HN := Lib.hid hn
          have i1 : (u.size : Int) - 1 = (n : Int) := by omega
          have i2 : (0 : Int) ≤ (n : Int) := by omega
          have i3 : (n : Int) < (u.size : Int) := by omega
          have HB := Lib.hid (rBlank u[n] w)
          clear hn
          cases hb : isBl u[n]
          · rw [hb] at HB
            have HU2 : Hid (u.data.toList = lz) := by show _ = _; rw [← HU.out, ext_init u n hnl HN.out, trimR_snoc_no hb]
            clear HU hb
            go_wp2_with (first | (go_at_call 47; refine HB.out.mono ?_; rintro e w' ⟨rfl, rfl⟩; refine Hid.out ?_) | fail)
            refine Lib.hid ?_
            go_wp2
            go_ret
            exact ⟨congrArg Ending.returned (S_eq HU2.out), rfl⟩
          · rw [hb] at HB
            have HU2 : Hid (trimR (u.extract 0 n).data.toList = lz) := by show _ = _; rw [← HU.out, ext_init u n hnl HN.out, trimR_snoc_yes hb]
            have HZ := Lib.hid (ext_size0 u n (by omega))
            clear HU hb
            go_wp2_with (first | (go_at_call 47; refine HB.out.mono ?_; rintro e w' ⟨rfl, rfl⟩; refine Hid.out ?_) | fail)
            refine Lib.hid ?_
            go_wp2
            go_round
            case rel => exact ⟨_, rfl, by rw [HZ.out]; omega, HU2⟩
            case measure => simp; omega
        · have i0 : ¬ (0 : Int) < (u.size : Int) := by omega
          have HU2 : Hid (u.data.toList = lz) := by
            show _ = _
            have e : u.data.toList = [] := List.eq_nil_of_length_eq_zero (by rw [str_len]; omega)
            rw [← HU.out, e]; rfl
          clear HU
          go_wp2
          go_ret
          exact ⟨congrArg Ending.returned (S_eq HU2.out), rfl⟩
end Go.Proofs.YtbgdohggdaoojaaDoor.Table
