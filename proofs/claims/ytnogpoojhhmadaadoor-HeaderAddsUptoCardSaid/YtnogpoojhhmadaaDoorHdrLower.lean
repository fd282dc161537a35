/-
  HEADER, the given answers: small letters; names that are the same.
-/
import Derived.Test.YtnogpoojhhmadaaDoorHdrWords
namespace Go.Proofs.YtnogpoojhhmadaaDoor.Header
open Go.RowKit Base
/-- A block of bytes of the call's own. -/
def BytesAt (w : World) (g c : Nat) (l : List UInt8) : Prop :=
  ∃ cs : Array Value, w.heap[g]? = some (.cells cs 5 (cs.size, cs.size + 1)) ∧ l.length ≤ cs.size ∧ l.length ≤ c ∧ ∀ i, i < l.length → cs[i]? = some (.int .u8 ((l.getD i 0).toNat : Int))
theorem BytesAt.new (w : World) (s : ByteArray) (cap : Nat) (h : s.size ≤ cap) : BytesAt (w.drew.alloc (.cells (bytesRow s cap) 5 ((bytesRow s cap).size, (bytesRow s cap).size + 1))) w.heap.size cap s.data.toList := by
  refine ⟨bytesRow s cap, (MapKept.heap_alloc w.drew _).1, ?_, by rw [str_len]; exact h, fun i hi => ?_⟩
  · rw [str_len]; unfold bytesRow; simp
  · have hi2 : i < s.data.size := by rw [str_len] at hi; exact hi
    rw [bytesRow, Array.getElem?_append_left (by simpa using hi2), Array.getElem?_map, Array.getElem?_eq_getElem hi2]
    simp [List.getD, Array.getElem?_eq_getElem hi2]
theorem BytesAt.cell {w : World} {g c : Nat} {l : List UInt8} (h : BytesAt w g c l) {k : Nat} (hk : k < l.length) : w.cell? ⟨g, k, none⟩ = some (.int .u8 ((l.getD k 0).toNat : Int)) ∧ w.frozen? ⟨g, k, none⟩ = false := by
  obtain ⟨cs, h1, h2, _, h3⟩ := h
  refine ⟨by unfold World.cell?; rw [h1]; exact h3 k hk, ?_⟩
  simp [World.frozen?, h1]; omega
theorem BytesAt.set {w : World} {g c : Nat} {l : List UInt8} (h : BytesAt w g c l) (k : Nat) (x : UInt8) : BytesAt (w.setCell ⟨g, k, none⟩ (.int .u8 (x.toNat : Int))) g c (l.set k x) := by
  obtain ⟨cs, h1, h2, h2c, h3⟩ := h
  refine ⟨cs.setIfInBounds k (.int .u8 (x.toNat : Int)), by rw [heap_setCell_any w g k _ _ _ _ h1]; simp, by simpa using h2, by simpa using h2c, fun i hi => ?_⟩
  rw [List.length_set] at hi
  rw [Array.getElem?_setIfInBounds]
  by_cases e : k = i
  · subst e
    rw [if_pos rfl, if_pos (by omega)]
    simp [List.getD, hi]
  · rw [if_neg e, h3 i hi]
    simp [List.getD, e]
theorem BytesAt.reads {w : World} {g c : Nat} {l : List UInt8} (h : BytesAt w g c l) {n : Nat} (hn : n = l.length) : Reads w (.slice (some ⟨g, 0, none⟩) n c) l := by
  subst hn
  obtain ⟨cs, h1, h2, h2c, h3⟩ := h
  refine Or.inr ⟨g, 0, c, rfl, h2c, fun i hi => ?_⟩
  rw [Nat.zero_add]
  unfold World.cell?; rw [h1]; exact h3 i hi
theorem BytesAt.drew {w : World} {g c : Nat} {l : List UInt8} (h : BytesAt w g c l) : BytesAt w.drew g c l := h
/-- The first k letters small. -/
def lowK (l : List UInt8) (k : Nat) : List UInt8 := lower (l.take k) ++ l.drop k
theorem lowK_len (l : List UInt8) (k : Nat) : (lowK l k).length = l.length := by unfold lowK; rw [List.length_append, lower_len, List.length_take, List.length_drop]; omega
theorem lowK_at (l : List UInt8) (k : Nat) (h : k < l.length) : (lowK l k).getD k 0 = l.getD k 0 := by
  unfold lowK
  rw [List.getD_eq_getElem?_getD, List.getElem?_append_right (by rw [lower_len, List.length_take]; omega), List.getElem?_drop, lower_len, List.length_take, List.getD_eq_getElem?_getD]
  congr 2; omega
theorem lowK_succ (l : List UInt8) (k : Nat) (h : k < l.length) : lowK l (k + 1) = (lowK l k).set k (low1 (l.getD k 0)) := by
  unfold lowK
  rw [List.set_append_right _ _ (by rw [lower_len, List.length_take]; omega)]
  rw [lower_len, List.length_take, show k - min k l.length = 0 by omega]
  rw [List.drop_eq_getElem_cons h, List.set_cons_zero, List.take_succ_eq_append_getElem h]
  unfold lower
  rw [List.map_append]
  simp [List.getD, List.getElem?_eq_getElem h]
theorem lowK_same (l : List UInt8) (k : Nat) (h : k < l.length) (he : low1 (l.getD k 0) = l.getD k 0) : lowK l (k + 1) = lowK l k := by
  rw [lowK_succ l k h, he, ← lowK_at l k h]
  have hl : k < (lowK l k).length := by rw [lowK_len]; exact h
  rw [List.getD_eq_getElem?_getD, List.getElem?_eq_getElem hl]
  simp
theorem lowK_zero (l : List UInt8) : lowK l 0 = l := by simp [lowK, lower]
theorem lowK_all (l : List UInt8) : lowK l l.length = lower l := by simp [lowK]
theorem low1_up {c : UInt8} (h1 : 65 ≤ c.toNat) (h2 : c.toNat ≤ 90) : ((low1 c).toNat : Int) = (c.toNat : Int) + 32 := by
  unfold low1
  rw [if_pos ⟨h1, h2⟩, UInt8.toNat_add]
  have : (32 : UInt8).toNat = 32 := rfl
  omega
theorem low1_no {c : UInt8} (h : ¬ (65 ≤ c.toNat ∧ c.toNat ≤ 90)) : low1 c = c := by unfold low1; rw [if_neg h]
/-- A text in small letters. -/
def LowEnd (s : ByteArray) (w : World) (e : Ending) (w' : World) : Prop := e = .returned (S (lower s.data.toList)) ∧ Below w.heap.size w w'
set_option maxHeartbeats 4000000 in
set_option maxRecDepth 100000 in
theorem rLower (s : ByteArray) (w : World) (hs : s.size ≤ 9223372036854775807) : Calls Tryd.prog 47 #[.string s] w (LowEnd s w) := by
  obtain ⟨cap, hcap, hconv⟩ := ref_bytes w s
  have H0 := Lib.hid (BytesAt.new w s cap hcap)
  have HB0 : Hid (Below w.heap.size w (w.drew.alloc (.cells (bytesRow s cap) 5 ((bytesRow s cap).size, (bytesRow s cap).size + 1)))) := ((Below.refl _ _).drew).alloc (Nat.le_refl _) _
  obtain ⟨w0, hw0⟩ : ∃ w0, w0 = w.drew.alloc (.cells (bytesRow s cap) 5 ((bytesRow s cap).size, (bytesRow s cap).size + 1)) := ⟨_, rfl⟩
  rw [← hw0] at hconv H0 HB0
  clear hw0
  go_enter Tryd.func47, Tryd.ntmps47
  go_wp2
  go_loopw [4] (fun i wr => ∃ k : Nat, k ≤ s.size ∧ i = .int .i64 k ∧ Hid (BytesAt wr w.heap.size cap (lowK s.data.toList k)) ∧ Hid (Below w.heap.size w wr)) (fun i _ => s.size - (intOf i).toNat)
  case atStart => exact ⟨0, by omega, rfl, by rw [lowK_zero]; exact H0, HB0⟩
  case round =>
    obtain ⟨k, hk, rfl, HAT, HBW⟩ := hrel
    by_cases hlt : k < s.size
    · have hkl : k < s.data.toList.length := by rw [str_len]; exact hlt
      have i0 : (0 : Int) ≤ (k : Int) := by omega
      have i1 : (k : Int) < (s.size : Int) := by omega
      obtain ⟨c1, c2⟩ := HAT.out.cell (k := k) (by rw [lowK_len]; exact hkl)
      rw [lowK_at _ _ hkl] at c1
      have HS := Lib.hid (lowK_succ s.data.toList k hkl)
      have HM := Lib.hid (lowK_same s.data.toList k hkl)
      have hx := (s.data.toList.getD k 0).toNat_lt
      generalize s.data.toList.getD k 0 = x at c1 HS HM hx
      by_cases h1 : 65 ≤ x.toNat
      · have j1 : (65 : Int) ≤ (x.toNat : Int) := by omega
        by_cases h2 : x.toNat ≤ 90
        · have j2 : (x.toNat : Int) ≤ 90 := by omega
          have HN : Hid (BytesAt (wr.setCell ⟨w.heap.size, k, none⟩ (.int .u8 ((x.toNat : Int) + 32))) w.heap.size cap (lowK s.data.toList (k + 1))) := by
            have := HAT.out.set k (low1 x)
            rw [low1_up h1 h2] at this
            rw [HS.out]; exact this
          have HB2 : Hid (Below w.heap.size w (wr.setCell ⟨w.heap.size, k, none⟩ (.int .u8 ((x.toNat : Int) + 32)))) := HBW.out.setCell (Nat.le_refl _) _
          clear h1 h2
          go_wp2
          go_roundw
          case rel => exact ⟨k + 1, by omega, by go_num, HN, HB2⟩
          case measure => simp [intOf]; omega
        · have j2 : ¬ (x.toNat : Int) ≤ 90 := by omega
          have HN : Hid (BytesAt wr w.heap.size cap (lowK s.data.toList (k + 1))) := by
            show BytesAt _ _ _ _
            rw [HM.out (low1_no (fun h => h2 h.2))]; exact HAT.out
          clear h1 h2
          go_wp2
          go_roundw
          case rel => exact ⟨k + 1, by omega, by go_num, HN, HBW⟩
          case measure => simp [intOf]; omega
      · have j1 : ¬ (65 : Int) ≤ (x.toNat : Int) := by omega
        have HN : Hid (BytesAt wr w.heap.size cap (lowK s.data.toList (k + 1))) := by
          show BytesAt _ _ _ _
          rw [HM.out (low1_no (fun h => h1 h.1))]; exact HAT.out
        clear h1
        go_wp2
        go_roundw
        case rel => exact ⟨k + 1, by omega, by go_num, HN, HBW⟩
        case measure => simp [intOf]; omega
    · have i1 : ¬ (k : Int) < (s.size : Int) := by omega
      have hk2 : k = s.data.toList.length := by rw [str_len]; omega
      have hcv := conv_reads (HAT.out.reads (n := s.size) (by rw [lowK_len, str_len]))
      rw [hk2, lowK_all] at hcv
      clear hk2
      go_wp2
      go_ret
      exact ⟨rfl, HBW.out⟩
/-- Whether two names are the same. -/
def sameB (a b : List UInt8) : Bool := lower a == lower b
set_option maxHeartbeats 4000000 in
set_option maxRecDepth 100000 in
theorem rSame (a b : ByteArray) (w : World) (ha : a.size ≤ 140737488355328) (hb : b.size ≤ 140737488355328) : Calls Tryd.prog 30 #[.string a, .string b] w fun e w' => e = .returned (.bool (sameB a.data.toList b.data.toList)) ∧ Below w.heap.size w w' := by
  obtain ⟨lw, hlw⟩ : ∃ lw : ByteArray → List UInt8, lw = fun s => lower s.data.toList := ⟨_, rfl⟩
  have HLX : Hid (∀ (w1 : World) (s : ByteArray), Hid (s.size ≤ 9223372036854775807) → Calls Tryd.prog 47 #[.string s] w1 fun e' w' => e' = .returned (S (lw s)) ∧ Below w1.heap.size w1 w') := fun w1 s hs => by rw [hlw]; exact rLower s w1 hs
  have HZ1 : Hid (a.size ≤ 9223372036854775807) := by show _ ≤ _; omega
  have HZ2 : Hid (b.size ≤ 9223372036854775807) := by show _ ≤ _; omega
  have HE : Hid (sameB a.data.toList b.data.toList = (lw a == lw b)) := by show _ = _; rw [hlw]; rfl
  clear hlw ha hb
  cases hq : lw a == lw b
  all_goals
    rw [hq] at HE
    go_enter Tryd.func30, Tryd.ntmps30
    go_wp2_with (first | (go_at_call 47; refine (HLX.out _ _ (by first | exact HZ1 | exact HZ2)).mono ?_; rintro e w1 ⟨rfl, hb1⟩; refine Hid.out ?_) | fail)
    refine Lib.hid ?_
    have HB1 := Lib.hid hb1
    clear hb1
    go_wp2_with (first | (go_at_call 47; refine (HLX.out _ _ (by first | exact HZ1 | exact HZ2)).mono ?_; rintro e w2 ⟨rfl, hb2⟩; refine Hid.out ?_) | fail)
    refine Lib.hid ?_
    have HB2 := Lib.hid (HB1.out.trans (hb2.mono HB1.out.size))
    clear hb2
    go_wp2
    go_ret
    exact ⟨by rw [HE.out]; rfl, HB2.out⟩
end Go.Proofs.YtnogpoojhhmadaaDoor.Header
