/-
  RECORD: the small questions (is it an address, a mark, a count), of the program and of the document's answer.
-/
import Derived.Test.YthoeicidilnleaaDoorRecordMath
namespace Go.Proofs.YthoeicidilnleaaDoor.Codec
open Go.RowKit

theorem all_take {l : List UInt8} {k : Nat} (h : k < l.length) (p : UInt8 → Bool) : (l.take (k + 1)).all p = ((l.take k).all p && p (l.getD k 0)) := by
  rw [List.take_succ_eq_append_getElem h]; simp [List.getD, List.getElem?_eq_getElem h, -List.take_append_getElem]
theorem all_not {l : List UInt8} {k : Nat} (h : k < l.length) (p : UInt8 → Bool) (hp : p (l.getD k 0) = false) : l.all p = false := by
  rw [List.all_eq_false]
  refine ⟨l[k], List.getElem_mem h, ?_⟩
  simp [List.getD, List.getElem?_eq_getElem h] at hp
  simp [hp]
theorem okByte_iff (c : UInt8) (x : Int) (h : x = (c.toNat : Int)) : okByte c = decide (32 ≤ x ∧ x ≤ 126) := by
  subst h; unfold okByte; rw [Bool.eq_iff_iff]; simp; omega
theorem bytes_cell (w : World) (s : ByteArray) (cap : Nat) (t : TypeId) (fz : Nat × Nat) (hcap : s.size ≤ cap) (k : Nat) (hk : k < s.size) :
    (w.drew.alloc (.cells (bytesRow s cap) t fz)).cell? ⟨w.heap.size, k, none⟩ = some (.int .u8 ((s.data.toList.getD k 0).toNat : Int)) := by
  rcases reads_bytes w s cap hcap t fz with ⟨h, _⟩ | ⟨b, o, c, he, hc, hcell⟩
  · have : s.data.toList.length = s.size := Array.length_toList
    rw [h] at this; simp at this; omega
  · cases he
    have : s.data.toList.length = s.size := Array.length_toList
    have := hcell k (by omega)
    rwa [Nat.zero_add] at this

theorem str_empty {s : ByteArray} (h : s.size = 0) : s = ⟨#[]⟩ := by
  apply ByteArray.ext
  exact Array.eq_empty_of_size_eq_zero h
theorem str_ne {s : ByteArray} (h : s.size ≠ 0) : s.toList.isEmpty = false ∧ ¬ s.toList = [] := by
  have : ¬ s.toList = [] := fun h2 => h (by rw [(toList_nil_iff_emptyBytes s).1 h2]; rfl)
  exact ⟨by simpa using this, this⟩
theorem ret_bool {a b : Bool} (h : a = b) : Ending.returned (.bool a) = .returned (.bool b) := by rw [h]
set_option maxHeartbeats 400000 in
set_option maxRecDepth 100000 in
theorem cIsAddress (s : ByteArray) (w : World) (hs : s.size ≤ 200000000000000) :
    Calls Tryd.prog 30 #[.string s] w fun e w' => e = .returned (.bool (addrB s.data.toList)) ∧ Below w.heap.size w w' := by
  have hsl : s.data.toList.length = s.size := Array.length_toList
  by_cases h0 : s.size = 0
  · obtain rfl := str_empty h0
    clear hsl
    go_enter Tryd.func30, Tryd.ntmps30
    go_wp2
    go_ret
    exact ⟨rfl, Below.refl _ _⟩
  obtain ⟨h1, h1'⟩ := str_ne h0
  by_cases h2 : 320 < s.size
  · have ha := addr_long (l := s.data.toList) (by omega)
    rw [ha]
    clear ha hsl
    go_enter Tryd.func30, Tryd.ntmps30
    go_wp2
    go_ret
    exact ⟨rfl, Below.refl _ _⟩
  rw [addr_all (l := s.data.toList) (by omega)]
  obtain ⟨cap, hcap, hcv⟩ := ref_bytes w s
  have hcell := bytes_cell w s cap 5 ((bytesRow s cap).size, (bytesRow s cap).size + 1) hcap
  have hb : Below w.heap.size w (w.drew.alloc (.cells (bytesRow s cap) 5 ((bytesRow s cap).size, (bytesRow s cap).size + 1))) := ((Below.refl _ _).drew).alloc (Nat.le_refl _) _
  obtain ⟨w1, hw1⟩ : ∃ w1, w1 = (w.drew.alloc (.cells (bytesRow s cap) 5 ((bytesRow s cap).size, (bytesRow s cap).size + 1))) := ⟨_, rfl⟩
  rw [← hw1] at hcv hcell hb
  clear hw1
  have HC := Lib.hid hcell
  obtain ⟨out, ho⟩ : ∃ out, out = s.data.toList.all okByte := ⟨_, rfl⟩
  have HO := Lib.hid ho
  rw [← ho]
  have HL := Lib.hid hsl
  clear hcell ho hsl
  go_enter Tryd.func30, Tryd.ntmps30
  go_wp2
  go_loop [15] (fun i => ∃ k : Nat, k ≤ s.size ∧ i = .int .i64 k ∧ Hid ((s.data.toList.take k).all okByte = true)) (fun i => s.size - (intOf i).toNat)
  case atStart => exact ⟨0, by omega, rfl, by unfold Hid; simp⟩
  case round =>
    obtain ⟨k, hk, rfl, hrun⟩ := hrel
    by_cases hlt : k < s.size
    · have hcell := HC.out k hlt
      obtain ⟨x, hx⟩ : ∃ x : Int, x = ((s.data.toList.getD k 0).toNat : Int) := ⟨_, rfl⟩
      have hok := okByte_iff _ x hx
      rw [← hx] at hcell
      have hn := all_not (l := s.data.toList) (k := k) (by have := HL.out; omega) okByte
      have hy := all_take (l := s.data.toList) (k := k) (by have := HL.out; omega) okByte
      by_cases hA : x < 32
      · have HF : Hid (out = false) := by unfold Hid; rw [HO.out]; exact hn (by rw [hok]; simp; omega)
        clear hn hy hok hx hrun
        go_wp2
        go_ret
        exact ⟨ret_bool HF.out.symm, hb⟩
      · by_cases hB : 126 < x
        · have HF : Hid (out = false) := by unfold Hid; rw [HO.out]; exact hn (by rw [hok]; simp; omega)
          clear hn hy hok hx hrun
          go_wp2
          go_ret
          exact ⟨ret_bool HF.out.symm, hb⟩
        · have HF : Hid ((s.data.toList.take (k + 1)).all okByte = true) := by unfold Hid; rw [hy, hrun.out, hok]; simp; omega
          clear hn hy hok hx hrun
          go_wp2
          go_round
          case rel => exact ⟨k + 1, by omega, by go_num, HF⟩
          case measure => simp [intOf]; omega
    · obtain rfl : k = s.size := by omega
      have HF : Hid (out = true) := by
        unfold Hid; rw [HO.out, ← hrun.out, List.take_of_length_le (by have := HL.out; omega)]
      clear hrun
      go_wp2
      go_ret
      exact ⟨ret_bool HF.out.symm, hb⟩

theorem mark_vals (c : UInt8) (x : Int) (h : x = (c.toNat : Int)) : markB c = decide (x = 80 ∨ x = 68 ∨ x = 66 ∨ x = 88) := by
  subst h; unfold markB
  rw [Bool.eq_iff_iff]
  simp only [decide_eq_true_eq, ← UInt8.toNat_inj]
  have e1 : (80 : UInt8).toNat = 80 := rfl
  have e2 : (68 : UInt8).toNat = 68 := rfl
  have e3 : (66 : UInt8).toNat = 66 := rfl
  have e4 : (88 : UInt8).toNat = 88 := rfl
  omega
/-- A question that leaves all as it is. -/
def AskEnd (b : Bool) (w : World) (e : Ending) (w' : World) : Prop := e = .returned (.bool b) ∧ w = w'

set_option maxRecDepth 100000 in
theorem cIsMark (c : UInt8) (x : Int) (hx : x = (c.toNat : Int)) (w : World) : Calls Tryd.prog 31 #[.int .u8 x] w (AskEnd (markB c) w) := by
  rw [mark_vals c x hx]
  clear hx
  by_cases h1 : x = 80
  · subst h1
    go_enter Tryd.func31, Tryd.ntmps31
    go_wp2
    go_ret
    exact ⟨rfl, rfl⟩
  have k1 : (x == 80) = false := by simpa using h1
  by_cases h2 : x = 68
  · subst h2
    clear h1 k1
    go_enter Tryd.func31, Tryd.ntmps31
    go_wp2
    go_ret
    exact ⟨rfl, rfl⟩
  have k2 : (x == 68) = false := by simpa using h2
  by_cases h3 : x = 66
  · subst h3
    clear h1 h2 k1 k2
    go_enter Tryd.func31, Tryd.ntmps31
    go_wp2
    go_ret
    exact ⟨rfl, rfl⟩
  have k3 : (x == 66) = false := by simpa using h3
  by_cases h4 : x = 88
  · subst h4
    clear h1 h2 h3 k1 k2 k3
    go_enter Tryd.func31, Tryd.ntmps31
    go_wp2
    go_ret
    exact ⟨rfl, rfl⟩
  have k4 : (x == 88) = false := by simpa using h4
  have e : decide (x = 80 ∨ x = 68 ∨ x = 66 ∨ x = 88) = false := by simp; omega
  rw [e]
  clear e h1 h2 h3 h4
  go_enter Tryd.func31, Tryd.ntmps31
  go_wp2
  go_ret
  exact ⟨rfl, rfl⟩
set_option maxRecDepth 100000 in
theorem rIsMark (c : UInt8) (x : Int) (hx : x = (c.toNat : Int)) (w : World) : Calls Tryd.prog 33 #[.int .u8 x] w (AskEnd (markB c) w) := by
  rw [mark_vals c x hx]
  clear hx
  by_cases h1 : x = 80
  · subst h1
    go_enter Tryd.func33, Tryd.ntmps33
    go_wp2
    go_ret
    exact ⟨rfl, rfl⟩
  have k1 : (x == 80) = false := by simpa using h1
  by_cases h2 : x = 68
  · subst h2
    clear h1 k1
    go_enter Tryd.func33, Tryd.ntmps33
    go_wp2
    go_ret
    exact ⟨rfl, rfl⟩
  have k2 : (x == 68) = false := by simpa using h2
  by_cases h3 : x = 66
  · subst h3
    clear h1 h2 k1 k2
    go_enter Tryd.func33, Tryd.ntmps33
    go_wp2
    go_ret
    exact ⟨rfl, rfl⟩
  have k3 : (x == 66) = false := by simpa using h3
  by_cases h4 : x = 88
  · subst h4
    clear h1 h2 h3 k1 k2 k3
    go_enter Tryd.func33, Tryd.ntmps33
    go_wp2
    go_ret
    exact ⟨rfl, rfl⟩
  have k4 : (x == 88) = false := by simpa using h4
  have e : decide (x = 80 ∨ x = 68 ∨ x = 66 ∨ x = 88) = false := by simp; omega
  rw [e]
  clear e h1 h2 h3 h4
  go_enter Tryd.func33, Tryd.ntmps33
  go_wp2
  go_ret
  exact ⟨rfl, rfl⟩

set_option maxRecDepth 100000 in
theorem cMayBeFrom (s : ByteArray) (w : World) (hs : s.size ≤ 200000000000000) :
    Calls Tryd.prog 28 #[.string s] w fun e w' => e = .returned (.bool (fromB s.data.toList)) ∧ Below w.heap.size w w' := by
  have hsl : s.data.toList.length = s.size := Array.length_toList
  by_cases h0 : s.size = 0
  · obtain rfl := str_empty h0
    clear hsl
    go_enter Tryd.func28, Tryd.ntmps28
    go_wp2
    go_ret
    exact ⟨rfl, Below.refl _ _⟩
  obtain ⟨h1, h1'⟩ := str_ne h0
  have hf : fromB s.data.toList = addrB s.data.toList := by
    have : s.data.toList.isEmpty = false := by rw [Bool.eq_false_iff]; intro h; rw [List.isEmpty_iff_length_eq_zero] at h; omega
    simp [fromB, this]
  have HC := Lib.hid (cIsAddress s w hs)
  rw [hf]
  clear hf hsl
  go_enter Tryd.func28, Tryd.ntmps28
  go_wp2_with (go_at_call 30; refine HC.out.mono ?_; rintro e w1 ⟨rfl, hb⟩)
  go_ret
  exact ⟨rfl, hb⟩
set_option maxRecDepth 100000 in
theorem cMayBeCount (n : Int) (w : World) :
    Calls Tryd.prog 29 #[.int .i64 n] w (AskEnd (decide (1 ≤ n ∧ n ≤ 200)) w) := by
  by_cases h1 : 1 ≤ n
  · by_cases h2 : n ≤ 200
    · have e : decide (1 ≤ n ∧ n ≤ 200) = true := by simp; omega
      rw [e]; clear e
      go_enter Tryd.func29, Tryd.ntmps29
      go_wp2
      go_ret
      exact ⟨rfl, rfl⟩
    · have e : decide (1 ≤ n ∧ n ≤ 200) = false := by simp; omega
      rw [e]; clear e
      go_enter Tryd.func29, Tryd.ntmps29
      go_wp2
      go_ret
      exact ⟨rfl, rfl⟩
  · have e : decide (1 ≤ n ∧ n ≤ 200) = false := by simp; omega
    rw [e]; clear e
    go_enter Tryd.func29, Tryd.ntmps29
    go_wp2
    go_ret
    exact ⟨rfl, rfl⟩

set_option maxHeartbeats 400000 in
set_option maxRecDepth 100000 in
theorem rIsAddr (s : ByteArray) (w : World) (hs : s.size ≤ 200000000000000) :
    Calls Tryd.prog 32 #[.string s] w (AskEnd (addrB s.data.toList) w) := by
  have hsl : s.data.toList.length = s.size := Array.length_toList
  by_cases h0 : s.size = 0
  · obtain rfl := str_empty h0
    clear hsl
    go_enter Tryd.func32, Tryd.ntmps32
    go_wp2
    go_ret
    exact ⟨rfl, rfl⟩
  by_cases h2 : 320 < s.size
  · have ha := addr_long (l := s.data.toList) (by omega)
    rw [ha]
    clear ha hsl
    go_enter Tryd.func32, Tryd.ntmps32
    go_wp2
    go_ret
    exact ⟨rfl, rfl⟩
  rw [addr_all (l := s.data.toList) (by omega)]
  obtain ⟨out, ho⟩ : ∃ out, out = s.data.toList.all okByte := ⟨_, rfl⟩
  have HO := Lib.hid ho
  rw [← ho]
  have HL := Lib.hid hsl
  have hpos : 1 ≤ s.size := by omega
  clear ho hsl h0
  go_enter Tryd.func32, Tryd.ntmps32
  go_wp2
  go_loop [3] (fun i => ∃ k : Nat, k ≤ s.size ∧ i = .int .i64 k ∧ Hid ((s.data.toList.take k).all okByte = true)) (fun i => s.size - (intOf i).toNat)
  case atStart => exact ⟨0, by omega, rfl, by unfold Hid; simp⟩
  case round =>
    obtain ⟨k, hk, rfl, hrun⟩ := hrel
    by_cases hlt : k < s.size
    · obtain ⟨x, hx⟩ : ∃ x : Int, x = ((s.data.toList.getD k 0).toNat : Int) := ⟨_, rfl⟩
      have hok := okByte_iff _ x hx
      have hidx : ((s[k]'hlt).toNat : Int) = x := by rw [hx]; congr 2; simp [List.getD, List.getElem?_eq_getElem (show k < s.data.toList.length by have := HL.out; omega)]; rfl
      have hn := all_not (l := s.data.toList) (k := k) (by have := HL.out; omega) okByte
      have hy := all_take (l := s.data.toList) (k := k) (by have := HL.out; omega) okByte
      by_cases hA : x < 32
      · have HF : Hid (out = false) := by unfold Hid; rw [HO.out]; exact hn (by rw [hok]; simp; omega)
        clear hn hy hok hx hrun
        go_wp2
        go_ret
        exact ⟨ret_bool HF.out.symm, rfl⟩
      · by_cases hB : 126 < x
        · have HF : Hid (out = false) := by unfold Hid; rw [HO.out]; exact hn (by rw [hok]; simp; omega)
          clear hn hy hok hx hrun
          go_wp2
          go_ret
          exact ⟨ret_bool HF.out.symm, rfl⟩
        · have HF : Hid ((s.data.toList.take (k + 1)).all okByte = true) := by unfold Hid; rw [hy, hrun.out, hok]; simp; omega
          clear hn hy hok hx hrun
          go_wp2
          go_round
          case rel => exact ⟨k + 1, by omega, by go_num, HF⟩
          case measure => simp [intOf]; omega
    · obtain rfl : k = s.size := by omega
      have HF : Hid (out = true) := by
        unfold Hid; rw [HO.out, ← hrun.out, List.take_of_length_le (by have := HL.out; omega)]
      clear hrun
      go_wp2
      go_ret
      exact ⟨ret_bool HF.out.symm, rfl⟩

/-- What codec answered, as this layer's error. -/
def toldOf (z : Int) : Int := if z = 0 then 0 else if z = 20 then 32 else 30
set_option maxRecDepth 100000 in
theorem cTold (z : Int) (w : World) : Calls Tryd.prog 54 #[.int .i64 z] w fun e w' => e = .returned (.int .i64 (toldOf z)) ∧ w = w' := by
  unfold toldOf
  by_cases h0 : z = 0
  · subst h0
    go_enter Tryd.func54, Tryd.ntmps54
    go_wp2
    go_ret
    exact ⟨rfl, rfl⟩
  · rw [if_neg h0]
    have k0 : (z == 0) = false := by simpa using h0
    by_cases h1 : z = 20
    · subst h1
      clear h0 k0
      go_enter Tryd.func54, Tryd.ntmps54
      go_wp2
      go_ret
      exact ⟨rfl, rfl⟩
    · rw [if_neg h1]
      have k1 : (z == 20) = false := by simpa using h1
      clear h0 h1
      go_enter Tryd.func54, Tryd.ntmps54
      go_wp2
      go_ret
      exact ⟨rfl, rfl⟩
end Go.Proofs.YthoeicidilnleaaDoor.Codec
