/-
  DATE, the given answers: words, small letters.
-/
import Derived.Test.YtklhgaioolamfaaDoorDatCal
import Derived.Test.YtklhgaioolamfaaDoorRowBase
namespace Go.Proofs.YtklhgaioolamfaaDoor.Date
open Go.RowKit Base
abbrev low1 := lowB
abbrev lower := lowL
theorem lower_len (l : List UInt8) : (lower l).length = l.length := by simp [lower, lowL]
/-- A block of bytes of the call's own. -/
def BytesAt (w : World) (g c : Nat) (l : List UInt8) : Prop :=
  ∃ cs : Array Value, w.heap[g]? = some (.cells cs 5 (cs.size, cs.size + 1)) ∧ l.length ≤ cs.size ∧ l.length ≤ c ∧ ∀ i, i < l.length → cs[i]? = some (.int .u8 ((l.getD i 0).toNat : Int))
theorem BytesAt.new (w : World) (s : ByteArray) (cap : Nat) (h : s.size ≤ cap) : BytesAt (w.drew.alloc (.cells (bytesRow s cap) 5 ((bytesRow s cap).size, (bytesRow s cap).size + 1))) w.heap.size cap s.data.toList := by
  refine ⟨bytesRow s cap, (MapKept.heap_alloc w.drew _).1, ?_, by rw [str_len]; exact h, fun i hi => ?_⟩
  · rw [str_len]; unfold bytesRow; simp
  · have hi2 : i < s.data.size := by rw [str_len] at hi; exact hi
    rw [bytesRow, Array.getElem?_append_left (by simpa using hi2), Array.getElem?_map, Array.getElem?_eq_getElem hi2]
    simp [List.getD, Array.getElem?_eq_getElem hi2]
theorem BytesAt.cell {w : World} {g c : Nat} {l : List UInt8} (h : BytesAt w g c l) {k : Nat} (hk : k < l.length) : w.cell? ⟨g, k, none⟩ = some (.int .u8 ((l.getD k 0).toNat : Int)) ∧ w.frozen? ⟨g, k, none⟩ = false := by
  obtain ⟨cs, h1, h2, _, h3⟩ := h
  refine ⟨by unfold World.cell?; rw [h1]; exact h3 k hk, ?_⟩
  simp [World.frozen?, h1]; omega
theorem BytesAt.set {w : World} {g c : Nat} {l : List UInt8} (h : BytesAt w g c l) (k : Nat) (x : UInt8) : BytesAt (w.setCell ⟨g, k, none⟩ (.int .u8 (x.toNat : Int))) g c (l.set k x) := by
  obtain ⟨cs, h1, h2, h2c, h3⟩ := h
  refine ⟨cs.setIfInBounds k (.int .u8 (x.toNat : Int)), by rw [heap_setCell_any w g k _ _ _ _ h1]; simp, by simpa using h2, by simpa using h2c, fun i hi => ?_⟩
  rw [List.length_set] at hi
  rw [Array.getElem?_setIfInBounds]
  by_cases e : k = i
  · subst e
    rw [if_pos rfl, if_pos (by omega)]
    simp [List.getD, hi]
  · rw [if_neg e, h3 i hi]
    simp [List.getD, e]
theorem BytesAt.reads {w : World} {g c : Nat} {l : List UInt8} (h : BytesAt w g c l) {n : Nat} (hn : n = l.length) : Reads w (.slice (some ⟨g, 0, none⟩) n c) l := by
  subst hn
  obtain ⟨cs, h1, h2, h2c, h3⟩ := h
  refine Or.inr ⟨g, 0, c, rfl, h2c, fun i hi => ?_⟩
  rw [Nat.zero_add]
  unfold World.cell?; rw [h1]; exact h3 i hi
theorem BytesAt.drew {w : World} {g c : Nat} {l : List UInt8} (h : BytesAt w g c l) : BytesAt w.drew g c l := h
/-- The first k letters small. -/
def lowK (l : List UInt8) (k : Nat) : List UInt8 := lower (l.take k) ++ l.drop k
theorem lowK_len (l : List UInt8) (k : Nat) : (lowK l k).length = l.length := by unfold lowK; rw [List.length_append, lower_len, List.length_take, List.length_drop]; omega
theorem lowK_at (l : List UInt8) (k : Nat) (h : k < l.length) : (lowK l k).getD k 0 = l.getD k 0 := by
  unfold lowK
  rw [List.getD_eq_getElem?_getD, List.getElem?_append_right (by rw [lower_len, List.length_take]; omega), List.getElem?_drop, lower_len, List.length_take, List.getD_eq_getElem?_getD]
  congr 2; omega
theorem lowK_succ (l : List UInt8) (k : Nat) (h : k < l.length) : lowK l (k + 1) = (lowK l k).set k (low1 (l.getD k 0)) := by
  unfold lowK
  rw [List.set_append_right _ _ (by rw [lower_len, List.length_take]; omega)]
  rw [lower_len, List.length_take, show k - min k l.length = 0 by omega]
  rw [List.drop_eq_getElem_cons h, List.set_cons_zero, List.take_succ_eq_append_getElem h]
  unfold lower lowL
  rw [List.map_append]
  simp [List.getD, List.getElem?_eq_getElem h]
theorem lowK_same (l : List UInt8) (k : Nat) (h : k < l.length) (he : low1 (l.getD k 0) = l.getD k 0) : lowK l (k + 1) = lowK l k := by
  rw [lowK_succ l k h, he, ← lowK_at l k h]
  have hl : k < (lowK l k).length := by rw [lowK_len]; exact h
  rw [List.getD_eq_getElem?_getD, List.getElem?_eq_getElem hl]
  simp
theorem lowK_zero (l : List UInt8) : lowK l 0 = l := by simp [lowK, lower, lowL]
theorem lowK_all (l : List UInt8) : lowK l l.length = lower l := by simp [lowK]
theorem low1_up {c : UInt8} (h1 : 65 ≤ c.toNat) (h2 : c.toNat ≤ 90) : ((low1 c).toNat : Int) = (c.toNat : Int) + 32 := by
  unfold low1 lowB
  rw [if_pos ⟨h1, h2⟩, UInt8.toNat_add]
  have : (32 : UInt8).toNat = 32 := rfl
  omega
theorem low1_no {c : UInt8} (h : ¬ (65 ≤ c.toNat ∧ c.toNat ≤ 90)) : low1 c = c := by unfold low1 lowB; rw [if_neg h]
/-- A text in small letters. -/
def LowEnd (s : ByteArray) (w : World) (e : Ending) (w' : World) : Prop := e = .returned (S (lower s.data.toList)) ∧ Below w.heap.size w w'
set_option maxHeartbeats 4000000 in
set_option maxRecDepth 100000 in
theorem rLower (s : ByteArray) (w : World) (hs : s.size ≤ 9223372036854775807) : Calls Tryd.prog 47 #[.string s] w (LowEnd s w) := by
  obtain ⟨cap, hcap, hconv⟩ := ref_bytes w s
  have H0 := Lib.hid (BytesAt.new w s cap hcap)
  have HB0 : Hid (Below w.heap.size w (w.drew.alloc (.cells (bytesRow s cap) 5 ((bytesRow s cap).size, (bytesRow s cap).size + 1)))) := ((Below.refl _ _).drew).alloc (Nat.le_refl _) _
  obtain ⟨w0, hw0⟩ : ∃ w0, w0 = w.drew.alloc (.cells (bytesRow s cap) 5 ((bytesRow s cap).size, (bytesRow s cap).size + 1)) := ⟨_, rfl⟩
  rw [← hw0] at hconv H0 HB0
  clear hw0
  go_enter Tryd.func47, Tryd.ntmps47
  go_wp2
  go_loopw [4] (fun i wr => ∃ k : Nat, k ≤ s.size ∧ i = .int .i64 k ∧ Hid (BytesAt wr w.heap.size cap (lowK s.data.toList k)) ∧ Hid (Below w.heap.size w wr)) (fun i _ => s.size - (intOf i).toNat)
  case atStart => exact ⟨0, by omega, rfl, by rw [lowK_zero]; exact H0, HB0⟩
  case round =>
    obtain ⟨k, hk, rfl, HAT, HBW⟩ := hrel
    by_cases hlt : k < s.size
    · have hkl : k < s.data.toList.length := by rw [str_len]; exact hlt
      have i0 : (0 : Int) ≤ (k : Int) := by omega
      have i1 : (k : Int) < (s.size : Int) := by omega
      obtain ⟨c1, c2⟩ := HAT.out.cell (k := k) (by rw [lowK_len]; exact hkl)
      rw [lowK_at _ _ hkl] at c1
      have HS := Lib.hid (lowK_succ s.data.toList k hkl)
      have HM := Lib.hid (lowK_same s.data.toList k hkl)
      have hx := (s.data.toList.getD k 0).toNat_lt
      generalize s.data.toList.getD k 0 = x at c1 HS HM hx
      by_cases h1 : 65 ≤ x.toNat
      · have j1 : (65 : Int) ≤ (x.toNat : Int) := by omega
        by_cases h2 : x.toNat ≤ 90
        · have j2 : (x.toNat : Int) ≤ 90 := by omega
          have HN : Hid (BytesAt (wr.setCell ⟨w.heap.size, k, none⟩ (.int .u8 ((x.toNat : Int) + 32))) w.heap.size cap (lowK s.data.toList (k + 1))) := by
            have := HAT.out.set k (low1 x)
            rw [low1_up h1 h2] at this
            rw [HS.out]; exact this
          have HB2 : Hid (Below w.heap.size w (wr.setCell ⟨w.heap.size, k, none⟩ (.int .u8 ((x.toNat : Int) + 32)))) := HBW.out.setCell (Nat.le_refl _) _
          clear h1 h2
          go_wp2
          go_roundw
          case rel => exact ⟨k + 1, by omega, by go_num, HN, HB2⟩
          case measure => simp [intOf]; omega
        · have j2 : ¬ (x.toNat : Int) ≤ 90 := by omega
          have HN : Hid (BytesAt wr w.heap.size cap (lowK s.data.toList (k + 1))) := by
            show BytesAt _ _ _ _
            rw [HM.out (low1_no (fun h => h2 h.2))]; exact HAT.out
          clear h1 h2
          go_wp2
          go_roundw
          case rel => exact ⟨k + 1, by omega, by go_num, HN, HBW⟩
          case measure => simp [intOf]; omega
      · have j1 : ¬ (65 : Int) ≤ (x.toNat : Int) := by omega
        have HN : Hid (BytesAt wr w.heap.size cap (lowK s.data.toList (k + 1))) := by
          show BytesAt _ _ _ _
          rw [HM.out (low1_no (fun h => h1 h.1))]; exact HAT.out
        clear h1
        go_wp2
        go_roundw
        case rel => exact ⟨k + 1, by omega, by go_num, HN, HBW⟩
        case measure => simp [intOf]; omega
    · have i1 : ¬ (k : Int) < (s.size : Int) := by omega
      have hk2 : k = s.data.toList.length := by rw [str_len]; omega
      have hcv := conv_reads (HAT.out.reads (n := s.size) (by rw [lowK_len, str_len]))
      rw [hk2, lowK_all] at hcv
      clear hk2
      go_wp2
      go_ret
      exact ⟨rfl, HBW.out⟩
def sumW (ws : List (List UInt8)) : Nat := (ws.map fun x => x.length + 1).sum
theorem words_sum : ∀ (l cur : List UInt8), sumW (wordsG l cur) ≤ l.length + cur.length + 1
  | [], cur => by
    unfold wordsG
    split <;> simp [sumW]
  | c :: r, cur => by
    unfold wordsG
    split
    · split
      · have := words_sum r []
        simp at this ⊢; omega
      · have := words_sum r []
        simp only [sumW, List.map_cons, List.sum_cons, List.length_nil, List.length_cons] at this ⊢
        omega
    · have := words_sum r (cur ++ [c])
      simp at this ⊢; omega
/-- Strings laid to a row of the call's own. -/
theorem wp_addW {wr : World} {B : Nat} {v : Value} {ws : List (List UInt8)} {ops : Array Oper} {rest : List Oper} {o : Oper} {a : Act} {Q : Exit → Act → World → Prop} (hgd : o.guard = none) (s y : Operand) (ho : o.op = .call { callee := .builtin .append, args := #[s, y], argTypes := #[44, 44] })
    (h : OwnsS wr B v ws) (hn : ws.length ≤ 1000000000001) (hB : B ≤ wr.heap.size) (p : ByteArray) (hs : a.eval s = v) (hx : a.eval y = .slice (some ⟨wr.heap.size, 0, none⟩) 1 1)
    (hK : ∀ v' w', OwnsS w' B v' (ws ++ [p.data.toList]) → Below B wr w' → wpList Tryd.prog ops Q rest (a.put o.dst v') w') :
    wpList Tryd.prog ops Q (o :: rest) a (wr.alloc (.cells #[.string p] 9)) := by
  obtain ⟨i0, hi, hz0, hz1, hz2⟩ := info_parts info9
  have h1 := h.on (Below.alloc1 wr (.cells #[.string p] 9))
  have hB1 : B ≤ (wr.alloc (.cells #[.string p] 9)).heap.size := Nat.le_trans hB (Below.alloc1 wr _).size
  refine wpList_append_row _ hgd s y 44 ho B 9 i0 (.string ⟨#[]⟩) 16 Tryd.underlying44 hi hz0 hz1 hz2 rfl v _ ws.length (ws.map S) [.string p] hs hx h1 (vreads_one _ _ _) (one_str _) (by rw [List.length_singleton]; omega) (by rw [List.length_singleton]; omega) hB1 (fun v' w' o2 g2 a2 => ?_)
  refine hK v' w' ?_ (((Below.alloc1 wr _).mono hB).trans ((Below.refl _ _).grown g2 hB1 (fun k hk => (World.ownsRow.lt h1 k hk).1)))
  unfold OwnsS
  rw [List.length_append, List.map_append]
  exact o2
/-- Where a word began. -/
def From (l : List UInt8) (i : Nat) (fv : Int) (cur : List UInt8) : Prop := (fv = -1 ∧ cur = []) ∨ ∃ f : Nat, fv = (f : Int) ∧ f < i ∧ cur = (l.take i).drop f
theorem from_ne {l : List UInt8} {i f : Nat} (hi : i ≤ l.length) (hf : f < i) : (l.take i).drop f ≠ [] := by
  intro e
  have := congrArg List.length e
  rw [List.length_drop, List.length_take] at this
  simp at this; omega
theorem from_next {l : List UInt8} {i f : Nat} (hi : i < l.length) (hf : f ≤ i) : (l.take (i + 1)).drop f = (l.take i).drop f ++ [l.getD i 0] := by
  rw [List.take_succ_eq_append_getElem hi, List.drop_append_of_le_length (by rw [List.length_take]; omega)]
  simp [List.getD, List.getElem?_eq_getElem hi]
theorem drop_cons {l : List UInt8} {i : Nat} (hi : i < l.length) : l.drop i = l.getD i 0 :: l.drop (i + 1) := by
  rw [List.drop_eq_getElem_cons hi]
  simp [List.getD, List.getElem?_eq_getElem hi]
def WordsEnd (l : List UInt8) (w : World) (e : Ending) (w' : World) : Prop := ∃ v, e = .returned v ∧ OwnsS w' w.heap.size v (wordsD l) ∧ Below w.heap.size w w'
set_option maxHeartbeats 8000000 in
set_option maxRecDepth 100000 in
theorem rWords (s : ByteArray) (w : World) (hs : s.size ≤ 1000000000000) : Calls Tryd.prog 27 #[.string s] w (WordsEnd s.data.toList w) := by
  obtain ⟨l, hl⟩ : ∃ l, l = s.data.toList := ⟨_, rfl⟩
  have hlen : l.length = s.size := by rw [hl, str_len]
  obtain ⟨fin, hfin⟩ : ∃ fin, fin = wordsD l := ⟨_, rfl⟩
  have HF0 : Hid ([] ++ wordsG (l.drop 0) [] = fin) := by show _ = _; rw [hfin]; rfl
  have HFN : Hid (wordsD s.data.toList = fin) := by show _ = _; rw [hfin, hl]
  have HO0 : Hid (OwnsS w w.heap.size (.slice none 0 0) []) := World.ownsRow_nil _ _ _ _
  have HLS : Hid (∀ k (h : k < s.size), l.getD k 0 = s[k]) := fun k h => by rw [hl]; exact str_get s k h
  have HSX : Hid (∀ f i : Nat, (s.extract f i).data.toList = (l.take i).drop f) := fun f i => by rw [hl, extract_bytes]
  have HSUM : Hid (∀ (ws : List (List UInt8)) (r : List (List UInt8)), ws ++ r = fin → ws.length ≤ 1000000000001) := fun ws r h => by
    have h1 := words_sum l []
    have h2 : sumW (ws ++ r) ≤ l.length + 0 + 1 := by rw [h, hfin]; exact h1
    have h3 : ∀ (x : List (List UInt8)), x.length ≤ sumW x := fun x => by
      induction x with
      | nil => simp
      | cons a t ih => simp only [sumW, List.map_cons, List.sum_cons, List.length_cons] at ih ⊢; omega
    have h4 := h3 (ws ++ r)
    rw [List.length_append] at h4
    omega
  clear hfin hl
  go_enter Tryd.func27, Tryd.ntmps27
  go_wp2
  go_loopw [3, 4, 5, 6] (fun ov fv iv _ wr => ∃ (i : Nat) (v : Value) (fi : Int) (ws : List (List UInt8)) (cur : List UInt8), i ≤ s.size + 1 ∧ iv = .int .i64 (i : Int) ∧ ov = v ∧ fv = .int .i64 fi ∧ Hid (OwnsS wr w.heap.size v ws) ∧ Hid (Below w.heap.size w wr) ∧ Hid ((i ≤ s.size ∧ From l i fi cur ∧ ws ++ wordsG (l.drop i) cur = fin) ∨ (i = s.size + 1 ∧ ws = fin))) (fun _ _ iv _ _ => s.size + 1 - (intOf iv).toNat)
  case atStart => exact ⟨0, _, -1, [], [], by omega, rfl, rfl, rfl, HO0, Below.refl _ _, Or.inl ⟨Nat.zero_le _, Or.inl ⟨rfl, rfl⟩, HF0.out⟩⟩
  case round =>
    clear HF0 HO0
    obtain ⟨i, v, fi, ws, cur, hi, rfl, hov, rfl, HO, HB, HC⟩ := hrel
    obtain rfl : v = _ := hov.symm
    have HSZ : Hid (w.heap.size ≤ wr.heap.size) := HB.out.size
    rcases HC.out with ⟨hi2, hfrom, heq⟩ | ⟨hi2, hws⟩
    · have i1 : (i : Int) ≤ (s.size : Int) := by omega
      have i0 : (0 : Int) ≤ (i : Int) := by omega
      have hwl := HSUM.out ws _ heq
      by_cases hend : i = s.size
      · have e1 : ((i : Int) == (s.size : Int)) = true := by rw [beq_iff_eq]; omega
        rw [List.drop_eq_nil_of_le (by omega)] at heq
        rcases hfrom with ⟨hfi, hcur⟩ | ⟨f, hfi, hf, hcur⟩
        · subst hfi hcur
          have HW2 : Hid (ws = fin) := by show _ = _; rw [← heq]; simp [wordsG]
          clear heq HC hi2
          have HEND := Lib.hid hend
          clear hend
          go_wp2
          go_roundw
          case rel => exact ⟨i + 1, v, -1, ws, [], by have := HEND.out; omega, by go_num, rfl, rfl, HO, HB, Or.inr ⟨by have := HEND.out; omega, HW2.out⟩⟩
          case measure => have := HEND.out; simp [intOf]; omega
        · subst hfi
          have hne : cur ≠ [] := by rw [hcur]; exact from_ne (by omega) hf
          have HW2 : Hid (ws ++ [cur] = fin) := by show _ = _; rw [← heq, wordsG, if_neg hne]
          have HCU : Hid ((s.extract f i).data.toList = cur) := by show _ = _; rw [HSX.out, ← hcur]
          have f0 : (0 : Int) ≤ (f : Int) := by omega
          have f1 : (f : Int) ≤ (i : Int) := by omega
          have HEND := Lib.hid hend
          clear heq HC hi2 hne hcur hend
          go_wp2_with (at_builtin; go_must (refine wp_addW rfl _ _ rfl HO.out hwl HSZ.out (s.extract f i) rfl rfl ?_); intro v2 w2 own2 b2; refine Hid.out ?_)
          refine Lib.hid ?_
          have HO2 : Hid (OwnsS w2 w.heap.size v2 (ws ++ [cur])) := by have := own2; rw [HCU.out] at this; exact this
          have HB2 : Hid (Below w.heap.size w w2) := HB.out.trans b2
          clear own2 b2 HO HB
          go_wp2
          go_roundw
          case rel => exact ⟨i + 1, v2, -1, ws ++ [cur], [], by have := HEND.out; omega, by go_num, rfl, rfl, HO2, HB2, Or.inr ⟨by have := HEND.out; omega, HW2.out⟩⟩
          case measure => have := HEND.out; simp [intOf]; omega
      · have e1 : ((i : Int) == (s.size : Int)) = false := by rw [beq_eq_false_iff_ne]; omega
        have hlt : i < s.size := by omega
        have i2 : (i : Int) < (s.size : Int) := by omega
        rw [drop_cons (show i < l.length by omega), HLS.out i hlt, wordsG] at heq
        by_cases hb : s[i].toNat = 32
        case' neg => have h32 : ((s[i].toNat : Int) == 32) = false := by rw [beq_eq_false_iff_ne]; omega
        case' pos => have h32 : ((s[i].toNat : Int) == 32) = true := by rw [hb]; rfl
        case neg =>
          rw [if_neg hb] at heq
          have HEQ := Lib.hid heq
          clear heq HC
          rcases hfrom with ⟨hfi, hcur⟩ | ⟨f, hfi, hf, hcur⟩
          · subst hfi hcur
            have HN : Hid (From l (i + 1) (i : Int) ([] ++ [s[i]])) := Or.inr ⟨i, rfl, by omega, by rw [from_next (by omega) (Nat.le_refl _), HLS.out i hlt, List.drop_eq_nil_of_le (by rw [List.length_take]; omega)]⟩
            clear hend hb
            go_wp2
            go_roundw
            case rel => exact ⟨i + 1, v, i, ws, [] ++ [s[i]], by omega, by go_num, rfl, rfl, HO, HB, Or.inl ⟨by omega, HN.out, HEQ.out⟩⟩
            case measure => simp [intOf]; omega
          · subst hfi
            have HN : Hid (From l (i + 1) (f : Int) (cur ++ [s[i]])) := Or.inr ⟨f, rfl, by omega, by rw [from_next (by omega) (by omega), HLS.out i hlt, hcur]⟩
            have f0 : (0 : Int) ≤ (f : Int) := by omega
            have f1 : ¬ (f : Int) < 0 := by omega
            clear hend hb hcur
            go_wp2
            go_roundw
            case rel => exact ⟨i + 1, v, f, ws, cur ++ [s[i]], by omega, by go_num, rfl, rfl, HO, HB, Or.inl ⟨by omega, HN.out, HEQ.out⟩⟩
            case measure => simp [intOf]; omega
        case pos =>
          rw [if_pos hb] at heq
          clear HC
          rcases hfrom with ⟨hfi, hcur⟩ | ⟨f, hfi, hf, hcur⟩
          · subst hfi hcur
            rw [if_pos rfl] at heq
            have HEQ := Lib.hid heq
            clear heq hend hb
            go_wp2
            go_roundw
            case rel => exact ⟨i + 1, v, -1, ws, [], by omega, by go_num, rfl, rfl, HO, HB, Or.inl ⟨by omega, Or.inl ⟨rfl, rfl⟩, HEQ.out⟩⟩
            case measure => simp [intOf]; omega
          · subst hfi
            have hne : cur ≠ [] := by rw [hcur]; exact from_ne (by omega) hf
            rw [if_neg hne] at heq
            have HEQ : Hid ((ws ++ [cur]) ++ wordsG (l.drop (i + 1)) [] = fin) := by show _ = _; rw [← heq]; simp
            have HCU : Hid ((s.extract f i).data.toList = cur) := by show _ = _; rw [HSX.out, ← hcur]
            have f0 : (0 : Int) ≤ (f : Int) := by omega
            have f1 : (f : Int) ≤ (i : Int) := by omega
            clear heq hend hb hne hcur
            go_wp2_with (at_builtin; go_must (refine wp_addW rfl _ _ rfl HO.out hwl HSZ.out (s.extract f i) rfl rfl ?_); intro v2 w2 own2 b2; refine Hid.out ?_)
            refine Lib.hid ?_
            have HO2 : Hid (OwnsS w2 w.heap.size v2 (ws ++ [cur])) := by have := own2; rw [HCU.out] at this; exact this
            have HB2 : Hid (Below w.heap.size w w2) := HB.out.trans b2
            clear own2 b2 HO HB
            go_wp2
            go_roundw
            case rel => exact ⟨i + 1, v2, -1, ws ++ [cur], [], by omega, by go_num, rfl, rfl, HO2, HB2, Or.inl ⟨by omega, Or.inl ⟨rfl, rfl⟩, HEQ.out⟩⟩
            case measure => simp [intOf]; omega
    · have i1 : ¬ (i : Int) ≤ (s.size : Int) := by omega
      have HE : Hid (WordsEnd s.data.toList w (.returned v) wr) := ⟨v, rfl, by rw [HFN.out, ← hws]; exact HO.out, HB.out⟩
      clear HC hi2 hws
      go_wp2
      go_ret
      exact HE.out
end Go.Proofs.YtklhgaioolamfaaDoor.Date
