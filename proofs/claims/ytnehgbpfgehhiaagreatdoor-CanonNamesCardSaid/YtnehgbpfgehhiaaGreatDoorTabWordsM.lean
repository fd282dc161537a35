/-
  MERGED by mergefill.py: TabWords, TabLower.
-/
import Derived.Test.YtnehgbpfgehhiaaGreatDoorStrBase
import Derived.Deep.CutBlock
import Derived.Deep.DeepCutAuto
/-
  TABLE: words of bytes: blanks, what is cut off, small letters, values put together; the given answers' functions of these.
-/
namespace Go.Proofs.YtnehgbpfgehhiaaGreatDoor.Table
open Go.RowKit Base
def isBl (c : UInt8) : Bool := decide (c.toNat = 32 ∨ c.toNat = 9)
def trimL (l : List UInt8) : List UInt8 := l.dropWhile isBl
def trimR (l : List UInt8) : List UInt8 := (l.reverse.dropWhile isBl).reverse
/-- Without blanks about it. -/
def trim (l : List UInt8) : List UInt8 := trimR (trimL l)
def low1 (c : UInt8) : UInt8 := if 65 ≤ c.toNat ∧ c.toNat ≤ 90 then c + 32 else c
/-- In small letters. -/
def lower (l : List UInt8) : List UInt8 := l.map low1
def joinP (s p : List UInt8) : List UInt8 := (if s = [] then s else s ++ [32]) ++ p
def valueOf (first : List UInt8) (more : List (List UInt8)) : List UInt8 := more.foldl joinP (trim first)
theorem lower_len (l : List UInt8) : (lower l).length = l.length := by simp [lower]
theorem trimL_len (l : List UInt8) : (trimL l).length ≤ l.length := (List.dropWhile_sublist _).length_le
theorem trimR_len (l : List UInt8) : (trimR l).length ≤ l.length := by unfold trimR; rw [List.length_reverse]; exact Nat.le_trans (List.dropWhile_sublist _).length_le (by simp)
theorem trim_len (l : List UInt8) : (trim l).length ≤ l.length := Nat.le_trans (trimR_len _) (trimL_len _)
theorem trimL_cons_yes {c : UInt8} {l : List UInt8} (h : isBl c = true) : trimL (c :: l) = trimL l := by simp [trimL, h]
theorem trimL_cons_no {c : UInt8} {l : List UInt8} (h : isBl c = false) : trimL (c :: l) = c :: l := by simp [trimL, h]
theorem trimR_snoc_yes {c : UInt8} {l : List UInt8} (h : isBl c = true) : trimR (l ++ [c]) = trimR l := by simp [trimR, h]
theorem trimR_snoc_no {c : UInt8} {l : List UInt8} (h : isBl c = false) : trimR (l ++ [c]) = l ++ [c] := by simp [trimR, h]
theorem rBlank (c : UInt8) (w : World) : Calls Tryz.prog 81 #[.int .u8 (c.toNat : Int)] w fun e w' => e = .returned (.bool (isBl c)) ∧ w = w' := by
  by_cases h1 : c.toNat = 32
  · have e1 : ((c.toNat : Int) == 32) = true := by rw [h1]; rfl
    have HE : Hid (isBl c = true) := by show _ = _; simp [isBl, h1]
    clear h1
    go_enter Tryz.func81, Tryz.ntmps81
    go_wp2
    go_ret
    exact ⟨by rw [HE.out]; rfl, rfl⟩
  · have e1 : ((c.toNat : Int) == 32) = false := by rw [beq_eq_false_iff_ne]; omega
    by_cases h2 : c.toNat = 9
    · have e2 : ((c.toNat : Int) == 9) = true := by rw [h2]; rfl
      have HE : Hid (isBl c = true) := by show _ = _; simp [isBl, h2]
      clear h1 h2
      go_enter Tryz.func81, Tryz.ntmps81
      go_wp2
      go_ret
      exact ⟨by rw [HE.out]; rfl, rfl⟩
    · have e2 : ((c.toNat : Int) == 9) = false := by rw [beq_eq_false_iff_ne]; omega
      have HE : Hid (isBl c = false) := by show _ = _; simp [isBl, h1, h2]
      clear h1 h2
      go_enter Tryz.func81, Tryz.ntmps81
      go_wp2
      go_ret
      exact ⟨by rw [HE.out]; rfl, rfl⟩
theorem str_getL (t : ByteArray) (k : Nat) (h : k < t.size) (hl : k < t.data.toList.length) : t.data.toList[k] = t[k] := by
  have := str_get t k h
  rw [List.getD_eq_getElem?_getD, List.getElem?_eq_getElem hl] at this
  simpa using this
theorem ext_tail (t : ByteArray) (h : 0 < t.size) : t.data.toList = t[0] :: (t.extract 1 t.size).data.toList := by
  have e : (t.extract 1 t.size).data.toList = t.data.toList.drop 1 := by
    rw [extract_bytes, List.take_of_length_le (by rw [str_len]; omega)]
  have hl : 0 < t.data.toList.length := by rw [str_len]; exact h
  have h1 := List.drop_eq_getElem_cons hl
  rw [List.drop_zero, str_getL t 0 h hl] at h1
  rw [e]; exact h1
theorem ext_init (t : ByteArray) (n : Nat) (h : n < t.size) (h2 : t.size = n + 1) : t.data.toList = (t.extract 0 n).data.toList ++ [t[n]] := by
  have e : (t.extract 0 n).data.toList = t.data.toList.take n := by
    rw [extract_bytes]; simp
  have hl : n < t.data.toList.length := by rw [str_len]; exact h
  have h1 := List.take_succ_eq_append_getElem hl
  rw [List.take_of_length_le (by rw [str_len]; omega), str_getL t n h hl] at h1
  rw [e]; exact h1
theorem ext_size1 (t : ByteArray) : (t.extract 1 t.size).size = t.size - 1 := by simp
theorem ext_size0 (t : ByteArray) (n : Nat) (h : n ≤ t.size) : (t.extract 0 n).size = n := by simp; omega
theorem S_eq {t : ByteArray} {l : List UInt8} (h : t.data.toList = l) : Value.string t = S l := by rw [← h]
set_option maxHeartbeats 4000000 in
set_option maxRecDepth 100000 in
theorem rTrim (s : ByteArray) (w : World) (hs : s.size ≤ 9223372036854775807) : Calls Tryz.prog 80 #[.string s] w fun e w' => e = .returned (S (trim s.data.toList)) ∧ w = w' := by
  obtain ⟨lz, hlz⟩ : ∃ lz, lz = trim s.data.toList := ⟨_, rfl⟩
  rw [← hlz]
  have HLZ := Lib.hid hlz
  clear hlz
  go_enter Tryz.func80, Tryz.ntmps80
  go_wp2
  go_loop [0] (fun v => ∃ t : ByteArray, v = .string t ∧ t.size ≤ s.size ∧ Hid (trimL t.data.toList = trimL s.data.toList)) (fun v => match v with | .string t => t.size | _ => 0)
  case atStart => exact ⟨s, rfl, Nat.le_refl _, rfl⟩
  case round =>
    obtain ⟨t, rfl, hts, HT⟩ := hrel
    have HFIN : (t.size = 0 ∨ ∃ h : 0 < t.size, isBl t[0] = false) → Hid (trimL s.data.toList = t.data.toList) := fun h => by
      show trimL s.data.toList = t.data.toList
      rcases h with h | ⟨h, hb⟩
      · rw [← HT.out, List.eq_nil_of_length_eq_zero (l := t.data.toList) (by rw [str_len]; exact h)]; rfl
      · rw [← HT.out, ext_tail t h, trimL_cons_no hb]
    by_cases h0 : 0 < t.size
    · have i0 : (0 : Int) < (t.size : Int) := by omega
      have HB := Lib.hid (rBlank t[0] w)
      cases hb : isBl t[0]
      · rw [hb] at HB
        have HT2 : Hid (trimL s.data.toList = t.data.toList) := HFIN (Or.inr ⟨h0, hb⟩)
        clear HT HFIN hb
        go_wp2_with (first | (go_at_call 81; refine HB.out.mono ?_; rintro e w' ⟨rfl, rfl⟩; refine Hid.out ?_) | fail)
        refine Lib.hid ?_
        go_wp2
        go_loop [0] (fun v => ∃ u : ByteArray, v = .string u ∧ u.size ≤ s.size ∧ Hid (trimR u.data.toList = lz)) (fun v => match v with | .string t => t.size | _ => 0)
        case atStart => exact ⟨t, rfl, hts, by show _ = _; rw [HLZ.out]; unfold trim; rw [HT2.out]⟩
        case round =>
          obtain ⟨u, rfl, hus, HU⟩ := hrel
          by_cases h0 : 0 < u.size
          · have i0 : (0 : Int) < (u.size : Int) := by omega
            obtain ⟨n, hn⟩ : ∃ n, u.size = n + 1 := ⟨u.size - 1, by omega⟩
            have hnl : n < u.size := by omega
            have HN := Lib.hid hn
            have i1 : (u.size : Int) - 1 = (n : Int) := by omega
            have i2 : (0 : Int) ≤ (n : Int) := by omega
            have i3 : (n : Int) < (u.size : Int) := by omega
            have HB := Lib.hid (rBlank u[n] w)
            clear hn
            cases hb : isBl u[n]
            · rw [hb] at HB
              have HU2 : Hid (u.data.toList = lz) := by show _ = _; rw [← HU.out, ext_init u n hnl HN.out, trimR_snoc_no hb]
              clear HU hb
              go_wp2_with (first | (go_at_call 81; refine HB.out.mono ?_; rintro e w' ⟨rfl, rfl⟩; refine Hid.out ?_) | fail)
              refine Lib.hid ?_
              go_wp2
              go_ret
              exact ⟨congrArg Ending.returned (S_eq HU2.out), rfl⟩
            · rw [hb] at HB
              have HU2 : Hid (trimR (u.extract 0 n).data.toList = lz) := by show _ = _; rw [← HU.out, ext_init u n hnl HN.out, trimR_snoc_yes hb]
              have HZ := Lib.hid (ext_size0 u n (by omega))
              clear HU hb
              go_wp2_with (first | (go_at_call 81; refine HB.out.mono ?_; rintro e w' ⟨rfl, rfl⟩; refine Hid.out ?_) | fail)
              refine Lib.hid ?_
              go_wp2
              go_round
              case rel => exact ⟨_, rfl, by rw [HZ.out]; omega, HU2⟩
              case measure => simp; omega
          · have i0 : ¬ (0 : Int) < (u.size : Int) := by omega
            have HU2 : Hid (u.data.toList = lz) := by
              show _ = _
              have e : u.data.toList = [] := List.eq_nil_of_length_eq_zero (by rw [str_len]; omega)
              rw [← HU.out, e]; rfl
            clear HU
            go_wp2
            go_ret
            exact ⟨congrArg Ending.returned (S_eq HU2.out), rfl⟩
      · rw [hb] at HB
        have HT2 : Hid (trimL (t.extract 1 t.size).data.toList = trimL s.data.toList) := by show _ = _; rw [← HT.out, ext_tail t h0, trimL_cons_yes hb]
        have HZ := Lib.hid (ext_size1 t)
        clear HT HFIN hb
        go_wp2_with (first | (go_at_call 81; refine HB.out.mono ?_; rintro e w' ⟨rfl, rfl⟩; refine Hid.out ?_) | fail)
        refine Lib.hid ?_
        go_wp2
        go_round
        case rel => exact ⟨_, rfl, by rw [HZ.out]; omega, HT2⟩
        case measure => simp; omega
    · have i0 : ¬ (0 : Int) < (t.size : Int) := by omega
      have HT2 : Hid (trimL s.data.toList = t.data.toList) := HFIN (Or.inl (by omega))
      clear HT HFIN
      go_wp2
      go_loop [0] (fun v => ∃ u : ByteArray, v = .string u ∧ u.size ≤ s.size ∧ Hid (trimR u.data.toList = lz)) (fun v => match v with | .string t => t.size | _ => 0)
      case atStart => exact ⟨t, rfl, hts, by show _ = _; rw [HLZ.out]; unfold trim; rw [HT2.out]⟩
      case round =>
        obtain ⟨u, rfl, hus, HU⟩ := hrel
        by_cases h0 : 0 < u.size
        · have i0 : (0 : Int) < (u.size : Int) := by omega
          obtain ⟨n, hn⟩ : ∃ n, u.size = n + 1 := ⟨u.size - 1, by omega⟩
          have hnl : n < u.size := by omega
          have HN := Lib.hid hn
          have i1 : (u.size : Int) - 1 = (n : Int) := by omega
          have i2 : (0 : Int) ≤ (n : Int) := by omega
          have i3 : (n : Int) < (u.size : Int) := by omega
          have HB := Lib.hid (rBlank u[n] w)
          clear hn
          cases hb : isBl u[n]
          · rw [hb] at HB
            have HU2 : Hid (u.data.toList = lz) := by show _ = _; rw [← HU.out, ext_init u n hnl HN.out, trimR_snoc_no hb]
            clear HU hb
            go_wp2_with (first | (go_at_call 81; refine HB.out.mono ?_; rintro e w' ⟨rfl, rfl⟩; refine Hid.out ?_) | fail)
            refine Lib.hid ?_
            go_wp2
            go_ret
            exact ⟨congrArg Ending.returned (S_eq HU2.out), rfl⟩
          · rw [hb] at HB
            have HU2 : Hid (trimR (u.extract 0 n).data.toList = lz) := by show _ = _; rw [← HU.out, ext_init u n hnl HN.out, trimR_snoc_yes hb]
            have HZ := Lib.hid (ext_size0 u n (by omega))
            clear HU hb
            go_wp2_with (first | (go_at_call 81; refine HB.out.mono ?_; rintro e w' ⟨rfl, rfl⟩; refine Hid.out ?_) | fail)
            refine Lib.hid ?_
            go_wp2
            go_round
            case rel => exact ⟨_, rfl, by rw [HZ.out]; omega, HU2⟩
            case measure => simp; omega
        · have i0 : ¬ (0 : Int) < (u.size : Int) := by omega
          have HU2 : Hid (u.data.toList = lz) := by
            show _ = _
            have e : u.data.toList = [] := List.eq_nil_of_length_eq_zero (by rw [str_len]; omega)
            rw [← HU.out, e]; rfl
          clear HU
          go_wp2
          go_ret
          exact ⟨congrArg Ending.returned (S_eq HU2.out), rfl⟩
end Go.Proofs.YtnehgbpfgehhiaaGreatDoor.Table
/-
  TABLE: small letters, on both sides.
-/
namespace Go.Proofs.YtnehgbpfgehhiaaGreatDoor.Table
open Go.RowKit Base
/-- A block of bytes of the call's own. -/
def BytesAt (w : World) (g c : Nat) (l : List UInt8) : Prop :=
  ∃ cs : Array Value, w.heap[g]? = some (.cells cs 5 (cs.size, cs.size + 1)) ∧ l.length ≤ cs.size ∧ l.length ≤ c ∧ ∀ i, i < l.length → cs[i]? = some (.int .u8 ((l.getD i 0).toNat : Int))
theorem BytesAt.new (w : World) (s : ByteArray) (cap : Nat) (h : s.size ≤ cap) : BytesAt (w.drew.alloc (.cells (bytesRow s cap) 5 ((bytesRow s cap).size, (bytesRow s cap).size + 1))) w.heap.size cap s.data.toList := by
  refine ⟨bytesRow s cap, (MapKept.heap_alloc w.drew _).1, ?_, by rw [str_len]; exact h, fun i hi => ?_⟩
  · rw [str_len]; unfold bytesRow; simp
  · have hi2 : i < s.data.size := by rw [str_len] at hi; exact hi
    rw [bytesRow, Array.getElem?_append_left (by simpa using hi2), Array.getElem?_map, Array.getElem?_eq_getElem hi2]
    simp [List.getD, Array.getElem?_eq_getElem hi2]
theorem BytesAt.cell {w : World} {g c : Nat} {l : List UInt8} (h : BytesAt w g c l) {k : Nat} (hk : k < l.length) : w.cell? ⟨g, k, none⟩ = some (.int .u8 ((l.getD k 0).toNat : Int)) ∧ w.frozen? ⟨g, k, none⟩ = false := by
  obtain ⟨cs, h1, h2, _, h3⟩ := h
  refine ⟨by unfold World.cell?; rw [h1]; exact h3 k hk, ?_⟩
  simp [World.frozen?, h1]; omega
theorem BytesAt.set {w : World} {g c : Nat} {l : List UInt8} (h : BytesAt w g c l) (k : Nat) (x : UInt8) : BytesAt (w.setCell ⟨g, k, none⟩ (.int .u8 (x.toNat : Int))) g c (l.set k x) := by
  obtain ⟨cs, h1, h2, h2c, h3⟩ := h
  refine ⟨cs.setIfInBounds k (.int .u8 (x.toNat : Int)), by rw [heap_setCell_any w g k _ _ _ _ h1]; simp, by simpa using h2, by simpa using h2c, fun i hi => ?_⟩
  rw [List.length_set] at hi
  rw [Array.getElem?_setIfInBounds]
  by_cases e : k = i
  · subst e
    rw [if_pos rfl, if_pos (by omega)]
    simp [List.getD, hi]
  · rw [if_neg e, h3 i hi]
    simp [List.getD, e]
theorem BytesAt.reads {w : World} {g c : Nat} {l : List UInt8} (h : BytesAt w g c l) {n : Nat} (hn : n = l.length) : Reads w (.slice (some ⟨g, 0, none⟩) n c) l := by
  subst hn
  obtain ⟨cs, h1, h2, h2c, h3⟩ := h
  refine Or.inr ⟨g, 0, c, rfl, h2c, fun i hi => ?_⟩
  rw [Nat.zero_add]
  unfold World.cell?; rw [h1]; exact h3 i hi
theorem BytesAt.drew {w : World} {g c : Nat} {l : List UInt8} (h : BytesAt w g c l) : BytesAt w.drew g c l := h
/-- The first k letters small. -/
def lowK (l : List UInt8) (k : Nat) : List UInt8 := lower (l.take k) ++ l.drop k
theorem lowK_len (l : List UInt8) (k : Nat) : (lowK l k).length = l.length := by unfold lowK; rw [List.length_append, lower_len, List.length_take, List.length_drop]; omega
theorem lowK_at (l : List UInt8) (k : Nat) (h : k < l.length) : (lowK l k).getD k 0 = l.getD k 0 := by
  unfold lowK
  rw [List.getD_eq_getElem?_getD, List.getElem?_append_right (by rw [lower_len, List.length_take]; omega), List.getElem?_drop, lower_len, List.length_take, List.getD_eq_getElem?_getD]
  congr 2; omega
theorem lowK_succ (l : List UInt8) (k : Nat) (h : k < l.length) : lowK l (k + 1) = (lowK l k).set k (low1 (l.getD k 0)) := by
  unfold lowK
  rw [List.set_append_right _ _ (by rw [lower_len, List.length_take]; omega)]
  rw [lower_len, List.length_take, show k - min k l.length = 0 by omega]
  rw [List.drop_eq_getElem_cons h, List.set_cons_zero, List.take_succ_eq_append_getElem h]
  unfold lower
  rw [List.map_append]
  simp [List.getD, List.getElem?_eq_getElem h]
theorem lowK_same (l : List UInt8) (k : Nat) (h : k < l.length) (he : low1 (l.getD k 0) = l.getD k 0) : lowK l (k + 1) = lowK l k := by
  rw [lowK_succ l k h, he, ← lowK_at l k h]
  have hl : k < (lowK l k).length := by rw [lowK_len]; exact h
  rw [List.getD_eq_getElem?_getD, List.getElem?_eq_getElem hl]
  simp
theorem lowK_zero (l : List UInt8) : lowK l 0 = l := by simp [lowK, lower]
theorem lowK_all (l : List UInt8) : lowK l l.length = lower l := by simp [lowK]
theorem low1_up {c : UInt8} (h1 : 65 ≤ c.toNat) (h2 : c.toNat ≤ 90) : ((low1 c).toNat : Int) = (c.toNat : Int) + 32 := by
  unfold low1
  rw [if_pos ⟨h1, h2⟩, UInt8.toNat_add]
  have : (32 : UInt8).toNat = 32 := rfl
  omega
theorem low1_no {c : UInt8} (h : ¬ (65 ≤ c.toNat ∧ c.toNat ≤ 90)) : low1 c = c := by unfold low1; rw [if_neg h]
/-- A text in small letters. -/
def LowEnd (s : ByteArray) (w : World) (e : Ending) (w' : World) : Prop := e = .returned (S (lower s.data.toList)) ∧ Below w.heap.size w w'
set_option maxHeartbeats 4000000 in
set_option maxRecDepth 100000 in
theorem rLower (s : ByteArray) (w : World) (hs : s.size ≤ 9223372036854775807) : Calls Tryz.prog 26 #[.string s] w (LowEnd s w) := by
  obtain ⟨cap, hcap, hconv⟩ := ref_bytes w s
  have H0 := Lib.hid (BytesAt.new w s cap hcap)
  have HB0 : Hid (Below w.heap.size w (w.drew.alloc (.cells (bytesRow s cap) 5 ((bytesRow s cap).size, (bytesRow s cap).size + 1)))) := ((Below.refl _ _).drew).alloc (Nat.le_refl _) _
  obtain ⟨w0, hw0⟩ : ∃ w0, w0 = w.drew.alloc (.cells (bytesRow s cap) 5 ((bytesRow s cap).size, (bytesRow s cap).size + 1)) := ⟨_, rfl⟩
  rw [← hw0] at hconv H0 HB0
  clear hw0
  go_enter Tryz.func26, Tryz.ntmps26
  go_wp2
  go_loopw [4] (fun i wr => ∃ k : Nat, k ≤ s.size ∧ i = .int .i64 k ∧ Hid (BytesAt wr w.heap.size cap (lowK s.data.toList k)) ∧ Hid (Below w.heap.size w wr)) (fun i _ => s.size - (intOf i).toNat)
  case atStart => exact ⟨0, by omega, rfl, by rw [lowK_zero]; exact H0, HB0⟩
  case round =>
    obtain ⟨k, hk, rfl, HAT, HBW⟩ := hrel
    by_cases hlt : k < s.size
    · have hkl : k < s.data.toList.length := by rw [str_len]; exact hlt
      have i0 : (0 : Int) ≤ (k : Int) := by omega
      have i1 : (k : Int) < (s.size : Int) := by omega
      obtain ⟨c1, c2⟩ := HAT.out.cell (k := k) (by rw [lowK_len]; exact hkl)
      rw [lowK_at _ _ hkl] at c1
      have HS := Lib.hid (lowK_succ s.data.toList k hkl)
      have HM := Lib.hid (lowK_same s.data.toList k hkl)
      have hx := (s.data.toList.getD k 0).toNat_lt
      generalize s.data.toList.getD k 0 = x at c1 HS HM hx
      by_cases h1 : 65 ≤ x.toNat
      · have j1 : (65 : Int) ≤ (x.toNat : Int) := by omega
        by_cases h2 : x.toNat ≤ 90
        · have j2 : (x.toNat : Int) ≤ 90 := by omega
          have HN : Hid (BytesAt (wr.setCell ⟨w.heap.size, k, none⟩ (.int .u8 ((x.toNat : Int) + 32))) w.heap.size cap (lowK s.data.toList (k + 1))) := by
            have := HAT.out.set k (low1 x)
            rw [low1_up h1 h2] at this
            rw [HS.out]; exact this
          have HB2 : Hid (Below w.heap.size w (wr.setCell ⟨w.heap.size, k, none⟩ (.int .u8 ((x.toNat : Int) + 32)))) := HBW.out.setCell (Nat.le_refl _) _
          clear h1 h2
          go_wp2
          go_roundw
          case rel => exact ⟨k + 1, by omega, by go_num, HN, HB2⟩
          case measure => simp [intOf]; omega
        · have j2 : ¬ (x.toNat : Int) ≤ 90 := by omega
          have HN : Hid (BytesAt wr w.heap.size cap (lowK s.data.toList (k + 1))) := by
            show BytesAt _ _ _ _
            rw [HM.out (low1_no (fun h => h2 h.2))]; exact HAT.out
          clear h1 h2
          go_wp2
          go_roundw
          case rel => exact ⟨k + 1, by omega, by go_num, HN, HBW⟩
          case measure => simp [intOf]; omega
      · have j1 : ¬ (65 : Int) ≤ (x.toNat : Int) := by omega
        have HN : Hid (BytesAt wr w.heap.size cap (lowK s.data.toList (k + 1))) := by
          show BytesAt _ _ _ _
          rw [HM.out (low1_no (fun h => h1 h.1))]; exact HAT.out
        clear h1
        go_wp2
        go_roundw
        case rel => exact ⟨k + 1, by omega, by go_num, HN, HBW⟩
        case measure => simp [intOf]; omega
    · have i1 : ¬ (k : Int) < (s.size : Int) := by omega
      have hk2 : k = s.data.toList.length := by rw [str_len]; omega
      have hcv := conv_reads (HAT.out.reads (n := s.size) (by rw [lowK_len, str_len]))
      rw [hk2, lowK_all] at hcv
      clear hk2
      go_wp2
      go_ret
      exact ⟨rfl, HBW.out⟩
set_option maxHeartbeats 4000000 in
set_option maxRecDepth 100000 in
theorem pLower (s : ByteArray) (w : World) (hs : s.size ≤ 9223372036854775807) : Calls Tryz.prog 73 #[.string s] w (LowEnd s w) := by
  obtain ⟨cap, hcap, hconv⟩ := ref_bytes w s
  have H0 := Lib.hid (BytesAt.new w s cap hcap)
  have HB0 : Hid (Below w.heap.size w (w.drew.alloc (.cells (bytesRow s cap) 5 ((bytesRow s cap).size, (bytesRow s cap).size + 1)))) := ((Below.refl _ _).drew).alloc (Nat.le_refl _) _
  obtain ⟨w0, hw0⟩ : ∃ w0, w0 = w.drew.alloc (.cells (bytesRow s cap) 5 ((bytesRow s cap).size, (bytesRow s cap).size + 1)) := ⟨_, rfl⟩
  rw [← hw0] at hconv H0 HB0
  clear hw0
  go_enter Tryz.func73, Tryz.ntmps73
  go_wp2
  go_loopw [10] (fun i wr => ∃ k : Nat, k ≤ s.size ∧ i = .int .i64 k ∧ Hid (BytesAt wr w.heap.size cap (lowK s.data.toList k)) ∧ Hid (Below w.heap.size w wr)) (fun i _ => s.size - (intOf i).toNat)
  case atStart => exact ⟨0, by omega, rfl, by rw [lowK_zero]; exact H0, HB0⟩
  case round =>
    obtain ⟨k, hk, rfl, HAT, HBW⟩ := hrel
    by_cases hlt : k < s.size
    · have hkl : k < s.data.toList.length := by rw [str_len]; exact hlt
      have i0 : (0 : Int) ≤ (k : Int) := by omega
      have i1 : (k : Int) < (s.size : Int) := by omega
      obtain ⟨c1, c2⟩ := HAT.out.cell (k := k) (by rw [lowK_len]; exact hkl)
      rw [lowK_at _ _ hkl] at c1
      have HS := Lib.hid (lowK_succ s.data.toList k hkl)
      have HM := Lib.hid (lowK_same s.data.toList k hkl)
      have hx := (s.data.toList.getD k 0).toNat_lt
      generalize s.data.toList.getD k 0 = x at c1 HS HM hx
      by_cases h1 : 65 ≤ x.toNat
      · have j1 : (65 : Int) ≤ (x.toNat : Int) := by omega
        by_cases h2 : x.toNat ≤ 90
        · have j2 : (x.toNat : Int) ≤ 90 := by omega
          have HN : Hid (BytesAt (wr.setCell ⟨w.heap.size, k, none⟩ (.int .u8 ((x.toNat : Int) - 65 + 97))) w.heap.size cap (lowK s.data.toList (k + 1))) := by
            have := HAT.out.set k (low1 x)
            rw [low1_up h1 h2] at this
            rw [HS.out, show (x.toNat : Int) - 65 + 97 = (x.toNat : Int) + 32 by omega]; exact this
          have HB2 : Hid (Below w.heap.size w (wr.setCell ⟨w.heap.size, k, none⟩ (.int .u8 ((x.toNat : Int) - 65 + 97)))) := HBW.out.setCell (Nat.le_refl _) _
          clear h1 h2
          go_wp2
          go_roundw
          case rel => exact ⟨k + 1, by omega, by go_num, HN, HB2⟩
          case measure => simp [intOf]; omega
        · have j2 : ¬ (x.toNat : Int) ≤ 90 := by omega
          have HN : Hid (BytesAt wr w.heap.size cap (lowK s.data.toList (k + 1))) := by
            show BytesAt _ _ _ _
            rw [HM.out (low1_no (fun h => h2 h.2))]; exact HAT.out
          clear h1 h2
          go_wp2
          go_roundw
          case rel => exact ⟨k + 1, by omega, by go_num, HN, HBW⟩
          case measure => simp [intOf]; omega
      · have j1 : ¬ (65 : Int) ≤ (x.toNat : Int) := by omega
        have HN : Hid (BytesAt wr w.heap.size cap (lowK s.data.toList (k + 1))) := by
          show BytesAt _ _ _ _
          rw [HM.out (low1_no (fun h => h1 h.1))]; exact HAT.out
        clear h1
        go_wp2
        go_roundw
        case rel => exact ⟨k + 1, by omega, by go_num, HN, HBW⟩
        case measure => simp [intOf]; omega
    · have i1 : ¬ (k : Int) < (s.size : Int) := by omega
      have hk2 : k = s.data.toList.length := by rw [str_len]; omega
      have hcv := conv_reads (HAT.out.reads (n := s.size) (by rw [lowK_len, str_len]))
      rw [hk2, lowK_all] at hcv
      clear hk2
      go_wp2
      go_ret
      exact ⟨rfl, HBW.out⟩
end Go.Proofs.YtnehgbpfgehhiaaGreatDoor.Table
