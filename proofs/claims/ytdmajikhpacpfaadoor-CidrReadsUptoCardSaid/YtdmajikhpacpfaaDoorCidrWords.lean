/-
  CIDR, the given answers: the things of a list.
-/
import Derived.Test.YtdmajikhpacpfaaDoorCidrG1
import Derived.Deep.CutBlock
import Derived.Deep.DeepCutAuto
namespace Go.Proofs.YtdmajikhpacpfaaDoor.Cidr
open Go.RowKit Base
def isSep (c : UInt8) : Bool := decide (c.toNat = 32 ∨ c.toNat = 9 ∨ c.toNat = 10 ∨ c.toNat = 13 ∨ c.toNat = 44)
def wordsA : List UInt8 → List UInt8 → List (List UInt8)
  | cur, [] => if cur = [] then [] else [cur]
  | cur, x :: r => if isSep x = true then (if cur = [] then wordsA [] r else cur :: wordsA [] r) else wordsA (cur ++ [x]) r
/-- What stands between separators. -/
def wordsB (l : List UInt8) : List (List UInt8) := wordsA [] l
theorem wordsA_len : ∀ (l cur : List UInt8), (wordsA cur l).length ≤ l.length + 1
  | [], cur => by unfold wordsA; split <;> simp
  | x :: r, cur => by
    unfold wordsA
    have h1 := wordsA_len r []
    have h2 := wordsA_len r (cur ++ [x])
    split
    · split <;> simp <;> omega
    · simp; omega
/-- The piece that stands open: from m on, or none. -/
def curOf (s : ByteArray) (k : Nat) : Option Nat → List UInt8
  | none => []
  | some m => (s.data.toList.take k).drop m
def fromI : Option Nat → Int
  | none => -1
  | some m => (m : Int)
structure WordsR (s : ByteArray) (w : World) (o f i : Value) (k : Nat) (m : Option Nat) (dn : List (List UInt8)) (wr : World) : Prop where
  i : i = .int .i64 k
  f : f = .int .i64 (fromI m)
  hk : k ≤ s.size + 1
  hm : ∀ j, m = some j → j < k ∧ k ≤ s.size
  row : OwnsS wr w.heap.size o dn
  below : Below w.heap.size w wr
  eq : k ≤ s.size → wordsB s.data.toList = dn ++ wordsA (curOf s k m) (s.data.toList.drop k)
  fin : k = s.size + 1 → wordsB s.data.toList = dn
  len : dn.length ≤ k
def sepAt (s : ByteArray) (k : Nat) : Bool := if h : k < s.size then isSep s[k] else true
section
variable {s : ByteArray} {w wr : World} {o f i : Value} {k : Nat} {m : Option Nat} {dn : List (List UInt8)}
theorem str_getE (s : ByteArray) (k : Nat) (h : k < s.size) (hl : k < s.data.toList.length) : s.data.toList[k] = s[k] := by
  have := str_get s k h
  rw [List.getD_eq_getElem?_getD, List.getElem?_eq_getElem hl] at this
  simpa using this
theorem drop_at (s : ByteArray) (k : Nat) (h : k < s.size) : s.data.toList.drop k = s[k] :: s.data.toList.drop (k + 1) := by
  have hl : k < s.data.toList.length := by rw [str_len]; exact h
  rw [List.drop_eq_getElem_cons hl, str_getE s k h hl]
theorem curOf_ne {j : Nat} (h1 : j < k) (h2 : k ≤ s.size) : curOf s k (some j) ≠ [] := by
  intro h
  have : (curOf s k (some j)).length = 0 := by rw [h]; rfl
  unfold curOf at this
  rw [List.length_drop, List.length_take, str_len] at this
  omega
theorem curOf_snoc {j : Nat} (h1 : j < k) (h : k < s.size) : curOf s (k + 1) (some j) = curOf s k (some j) ++ [s[k]] := by
  have hl : k < s.data.toList.length := by rw [str_len]; exact h
  unfold curOf
  simp only
  rw [List.take_succ_eq_append_getElem hl, List.drop_append_of_le_length (by rw [List.length_take]; omega), str_getE s k h hl]
theorem curOf_one (h : k < s.size) : curOf s (k + 1) (some k) = [s[k]] := by
  have hl : k < s.data.toList.length := by rw [str_len]; exact h
  unfold curOf
  simp only
  rw [List.take_succ_eq_append_getElem hl, List.drop_append_of_le_length (by rw [List.length_take]; omega), str_getE s k h hl, List.drop_eq_nil_of_le (by rw [List.length_take]; omega)]
  rfl
/-- A separator, and a piece is open. -/
theorem words_put {j : Nat} (h : WordsR s w o f i k (some j) dn wr) (hs : sepAt s k = true) : (k + 1 ≤ s.size → wordsB s.data.toList = (dn ++ [curOf s k (some j)]) ++ wordsA [] (s.data.toList.drop (k + 1))) ∧ (k + 1 = s.size + 1 → wordsB s.data.toList = dn ++ [curOf s k (some j)]) := by
  obtain ⟨h1, h2⟩ := h.hm j rfl
  have hne := curOf_ne (s := s) h1 h2
  have he := h.eq h2
  constructor
  · intro hl
    have hlt : k < s.size := by omega
    unfold sepAt at hs
    rw [dif_pos hlt] at hs
    rw [he, drop_at s k hlt, wordsA, if_pos hs, if_neg hne]
    simp
  · intro hl
    rw [he, List.drop_eq_nil_of_le (by rw [str_len]; omega), wordsA, if_neg hne]
theorem words_skip (h : WordsR s w o f i k none dn wr) (hs : sepAt s k = true) : (k + 1 ≤ s.size → wordsB s.data.toList = dn ++ wordsA [] (s.data.toList.drop (k + 1))) ∧ (k + 1 = s.size + 1 → wordsB s.data.toList = dn) := by
  constructor
  · intro hl
    have hlt : k < s.size := by omega
    unfold sepAt at hs
    rw [dif_pos hlt] at hs
    rw [h.eq (by omega), drop_at s k hlt]
    show dn ++ wordsA [] _ = _
    rw [wordsA, if_pos hs, if_pos rfl]
  · intro hl
    rw [h.eq (by omega), List.drop_eq_nil_of_le (by rw [str_len]; omega)]
    show dn ++ wordsA [] [] = _
    simp [wordsA]
theorem sepAt_lt (hs : sepAt s k = false) : k < s.size := by
  unfold sepAt at hs
  split at hs
  · assumption
  · cases hs
theorem words_open (h : WordsR s w o f i k none dn wr) (hs : sepAt s k = false) : wordsB s.data.toList = dn ++ wordsA (curOf s (k + 1) (some k)) (s.data.toList.drop (k + 1)) := by
  have hlt := sepAt_lt hs
  unfold sepAt at hs
  rw [dif_pos hlt] at hs
  rw [h.eq (by omega), drop_at s k hlt, curOf_one hlt]
  show dn ++ wordsA [] _ = _
  rw [wordsA, if_neg (by rw [hs]; simp)]
  rfl
theorem words_more {j : Nat} (h : WordsR s w o f i k (some j) dn wr) (hs : sepAt s k = false) : wordsB s.data.toList = dn ++ wordsA (curOf s (k + 1) (some j)) (s.data.toList.drop (k + 1)) := by
  have hlt := sepAt_lt hs
  obtain ⟨h1, h2⟩ := h.hm j rfl
  unfold sepAt at hs
  rw [dif_pos hlt] at hs
  rw [h.eq (by omega), drop_at s k hlt, curOf_snoc h1 hlt, wordsA, if_neg (by rw [hs]; simp)]
end
set_option maxHeartbeats 4000000 in
set_option maxRecDepth 100000 in
theorem rWords (s : ByteArray) (w : World) (hs : s.size ≤ 4294967280) : Calls Tryd.prog 36 #[.string s] w (SplitEnd (wordsB s.data.toList) w) := by
  obtain ⟨i0, hi0, hz0, hz1, hz2⟩ := info_parts info9
  obtain ⟨ls, hls⟩ : ∃ ls, ls = wordsB s.data.toList := ⟨_, rfl⟩
  have HLS := Lib.hid hls
  rw [← hls]
  clear hls
  go_enter Tryd.func36, Tryd.ntmps36
  go_wp2
  go_loopw [3, 4, 5] (fun o f i wr => ∃ k m dn, WordsR s w o f i k m dn wr) (fun _ _ i _ => s.size + 1 - (intOf i).toNat)
  case atStart => exact ⟨0, none, [], rfl, rfl, Nat.zero_le _, (fun j h => by cases h), World.ownsRow_nil _ _ _ _, Below.refl _ _, fun _ => rfl, (fun h => by omega), Nat.le_refl _⟩
  case round =>
    obtain ⟨k, m, dn, h⟩ := hrel
    obtain ⟨rfl, rfl, hk, hm, hrow, hb, heq, hno, hlen⟩ := id h
    obtain ⟨oa, oc, rfl, hoc⟩ := hrow.form
    have H := Lib.hid h
    have HROW := Lib.hid hrow
    have HB := Lib.hid hb
    have HM := Lib.hid hm
    clear h hrow hb heq hno hm
    by_cases hlt : k ≤ s.size
    · have i1 : (k : Int) ≤ (s.size : Int) := by omega
      obtain ⟨q, hq⟩ : ∃ q, q = sepAt s k := ⟨_, rfl⟩
      have HQ := Lib.hid hq
      clear hq
      go_upto_region 6 with fail
      go_cut [6] (fun a wx => a = .bool q ∧ wx = wr)
      case first =>
        by_cases hlt2 : k < s.size
        · have i2 : (k : Int) < (s.size : Int) := by omega
          have i3 : ((k : Int) == (s.size : Int)) = false := by rw [beq_eq_false_iff_ne]; omega
          have HQ2 : Hid (q = isSep s[k]) := by have := HQ.out; unfold sepAt at this; rw [dif_pos hlt2] at this; exact this
          have hu : (s[k].toNat : Int) ≤ 255 := by have := s[k].toNat_lt; omega
          clear HQ
          generalize hx : s[k] = x at HQ2 hu
          by_cases c0 : x.toNat = 32
          · have e0 : ((x.toNat : Int) == 32) = true := by rw [beq_iff_eq]; omega
            have HQ3 : Hid (q = true) := by refine HQ2.out.trans ?_; unfold isSep; rw [decide_eq_true_iff]; omega
            clear HQ2
            go_wp2
            go_meet
            exact ⟨by rw [HQ3.out], rfl⟩
          have e0 : ((x.toNat : Int) == 32) = false := by rw [beq_eq_false_iff_ne]; omega
          by_cases c1 : x.toNat = 9
          · have e1 : ((x.toNat : Int) == 9) = true := by rw [beq_iff_eq]; omega
            have HQ3 : Hid (q = true) := by refine HQ2.out.trans ?_; unfold isSep; rw [decide_eq_true_iff]; omega
            clear HQ2
            go_wp2
            go_meet
            exact ⟨by rw [HQ3.out], rfl⟩
          have e1 : ((x.toNat : Int) == 9) = false := by rw [beq_eq_false_iff_ne]; omega
          by_cases c2 : x.toNat = 10
          · have e2 : ((x.toNat : Int) == 10) = true := by rw [beq_iff_eq]; omega
            have HQ3 : Hid (q = true) := by refine HQ2.out.trans ?_; unfold isSep; rw [decide_eq_true_iff]; omega
            clear HQ2
            go_wp2
            go_meet
            exact ⟨by rw [HQ3.out], rfl⟩
          have e2 : ((x.toNat : Int) == 10) = false := by rw [beq_eq_false_iff_ne]; omega
          by_cases c3 : x.toNat = 13
          · have e3 : ((x.toNat : Int) == 13) = true := by rw [beq_iff_eq]; omega
            have HQ3 : Hid (q = true) := by refine HQ2.out.trans ?_; unfold isSep; rw [decide_eq_true_iff]; omega
            clear HQ2
            go_wp2
            go_meet
            exact ⟨by rw [HQ3.out], rfl⟩
          have e3 : ((x.toNat : Int) == 13) = false := by rw [beq_eq_false_iff_ne]; omega
          by_cases c4 : x.toNat = 44
          · have e4 : ((x.toNat : Int) == 44) = true := by rw [beq_iff_eq]; omega
            have HQ3 : Hid (q = true) := by refine HQ2.out.trans ?_; unfold isSep; rw [decide_eq_true_iff]; omega
            clear HQ2
            go_wp2
            go_meet
            exact ⟨by rw [HQ3.out], rfl⟩
          have e4 : ((x.toNat : Int) == 44) = false := by rw [beq_eq_false_iff_ne]; omega
          have HQ3 : Hid (q = false) := by refine HQ2.out.trans ?_; unfold isSep; rw [decide_eq_false_iff_not]; omega
          clear HQ2
          go_wp2
          go_meet
          exact ⟨by rw [HQ3.out], rfl⟩
        · have i3 : ((k : Int) == (s.size : Int)) = true := by rw [beq_iff_eq]; omega
          have HQ2 : Hid (q = true) := by have := HQ.out; unfold sepAt at this; rw [dif_neg hlt2] at this; exact this
          go_wp2
          go_meet
          exact ⟨by rw [HQ2.out], rfl⟩
      case rest =>
        obtain ⟨rfl, rfl⟩ := hcut
        cases m with
        | none =>
          have HF : Hid (fromI none = -1) := rfl
          rw [show fromI none = -1 from rfl]
          cases q with
          | true =>
            have HSK := Lib.hid (words_skip H.out HQ.out.symm)
            clear HQ
            go_wp2
            go_roundw
            case rel => exact ⟨k + 1, none, dn, by go_num, rfl, by omega, (fun j h => by cases h), HROW.out, HB.out, HSK.out.1, HSK.out.2, by omega⟩
            case measure => simp [intOf]; omega
          | false =>
            have hlt2 := sepAt_lt HQ.out.symm
            have HSK := Lib.hid (words_open H.out HQ.out.symm)
            clear HQ
            go_wp2
            go_roundw
            case rel => exact ⟨k + 1, some k, dn, by go_num, rfl, by omega, (fun j h => by cases h; omega), HROW.out, HB.out, fun _ => HSK.out, (fun h => by omega), by omega⟩
            case measure => simp [intOf]; omega
        | some j =>
          obtain ⟨hj1, hj2⟩ := HM.out j rfl
          rw [show fromI (some j) = (j : Int) from rfl]
          cases q with
          | true =>
            have HSK := Lib.hid (words_put H.out HQ.out.symm)
            have LIM : Hid ((dn.length + [Value.string (s.extract j k)].length) * 16 ≤ 140737488355328) := by show _ ≤ _; simp only [List.length_singleton]; omega
            have LIMb : Hid (dn.length + [Value.string (s.extract j k)].length ≤ 9223372036854775807) := by show _ ≤ _; simp only [List.length_singleton]; omega
            clear HQ
            go_wp2_with (at_builtin; go_must (refine wpList_append_row _ rfl _ _ 52 rfl w.heap.size 9 i0 (.string ⟨#[]⟩) 16 Tryd.underlying52 hi0 hz0 hz1 hz2 rfl (.slice oa dn.length oc) _ dn.length (dn.map S) [.string (s.extract j k)] rfl rfl (World.ownsRow.alloc HROW.out _) (vreads_one _ _ _) (one_str _) LIM.out LIMb.out (by have := HB.out.size; simp; omega) ?_); intro v2 w2 o2 g2 a2; refine Hid.out ?_)
            refine Lib.hid ?_
            have b2 : Below w.heap.size w w2 := (HB.out.alloc HB.out.size _).grown g2 (by have := HB.out.size; simp; omega) (fun j hj => (HROW.out.lt j hj).1)
            have HO2 : Hid (OwnsS w2 w.heap.size v2 (dn ++ [curOf s k (some j)])) := by
              have o3 := o2
              rw [extract_bytes] at o3
              unfold OwnsS
              rw [List.map_append, List.length_append]
              exact o3
            have B2 := Lib.hid b2
            clear o2 g2 a2 b2
            go_wp2
            go_roundw
            case rel => exact ⟨k + 1, none, _, by go_num, rfl, by omega, (fun j h => by cases h), HO2.out, B2.out, HSK.out.1, HSK.out.2, by simp; omega⟩
            case measure => simp [intOf]; omega
          | false =>
            have hlt2 := sepAt_lt HQ.out.symm
            have HSK := Lib.hid (words_more H.out HQ.out.symm)
            clear HQ
            go_wp2
            go_roundw
            case rel => exact ⟨k + 1, some j, dn, by go_num, rfl, by omega, (fun j h => by cases h; omega), HROW.out, HB.out, fun _ => HSK.out, (fun h => by omega), by omega⟩
            case measure => simp [intOf]; omega
    · have i1 : ¬ (k : Int) ≤ (s.size : Int) := by omega
      have hfin : Hid (ls = dn) := HLS.out.trans (H.out.fin (by omega))
      go_wp2
      go_ret
      exact ⟨_, rfl, by rw [hfin.out]; exact HROW.out, HB.out⟩
end Go.Proofs.YtdmajikhpacpfaaDoor.Cidr
