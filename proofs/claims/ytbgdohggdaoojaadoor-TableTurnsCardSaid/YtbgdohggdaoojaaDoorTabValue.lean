/-
  TABLE, the given answers: a value put together; an entry of a line.
-/
import Derived.Test.YtbgdohggdaoojaaDoorTabLower
namespace Go.Proofs.YtbgdohggdaoojaaDoor.Table
open Go.RowKit Base
theorem S_app (a b : ByteArray) : Value.string (a ++ b) = S (a.data.toList ++ b.data.toList) := by
  congr 1
def sumL (ls : List (List UInt8)) : Nat := (ls.map (fun l => l.length + 1)).sum
theorem joinP_len (s p : List UInt8) : (joinP s p).length ≤ s.length + 1 + p.length := by
  unfold joinP
  split <;> simp <;> omega
theorem foldP_len : ∀ (ls : List (List UInt8)) (s : List UInt8), (ls.foldl joinP s).length ≤ s.length + sumL ls
  | [], s => by simp [sumL]
  | p :: r, s => by
    rw [List.foldl_cons]
    have h1 := foldP_len r (joinP s p)
    have h2 := joinP_len s p
    have : sumL (p :: r) = p.length + 1 + sumL r := by simp [sumL]
    omega
theorem sumL_take : ∀ (ls : List (List UInt8)) (k : Nat), sumL (ls.take k) ≤ sumL ls
  | [], k => by simp
  | p :: r, 0 => by simp [sumL]
  | p :: r, k + 1 => by
    have := sumL_take r k
    simp only [sumL, List.take_succ_cons, List.map_cons, List.sum_cons] at *
    omega
theorem fold_take {ls : List (List UInt8)} {s p : List UInt8} {k : Nat} (h : ls[k]? = some p) : (ls.take (k + 1)).foldl joinP s = joinP ((ls.take k).foldl joinP s) p := by
  have hk := (List.getElem?_eq_some_iff.1 h).1
  rw [List.take_succ_eq_append_getElem hk, List.foldl_append, (List.getElem?_eq_some_iff.1 h).2]; rfl
theorem S_ne {l : List UInt8} (h : l ≠ []) : (⟨l.toArray⟩ : ByteArray).toList.isEmpty = false ∧ ¬ (⟨l.toArray⟩ : ByteArray).toList = [] := by
  refine str_ne ?_
  show l.toArray.size ≠ 0
  simpa using h
set_option maxHeartbeats 4000000 in
set_option maxRecDepth 100000 in
theorem rValue (s : ByteArray) (v : Value) (ls : List (List UInt8)) (w : World) (hv : VReads w v (ls.map S)) (hb : s.size + sumL ls ≤ 1000000000) (hn : ls.length ≤ 1000000000) : Calls Tryd.prog 41 #[.string s, v] w fun e w' => e = .returned (S (valueOf s.data.toList ls)) ∧ w = w' := by
  have HT := Lib.hid (rTrim s w (by omega))
  obtain ⟨a, c, rfl, hc⟩ := hv.form
  rw [List.length_map] at hc
  have HV := Lib.hid hv
  have htl := trim_len s.data.toList
  rw [str_len] at htl
  have HTL := Lib.hid htl
  obtain ⟨t, ht⟩ : ∃ t, t = trim s.data.toList := ⟨_, rfl⟩
  unfold valueOf
  rw [← ht] at HT HTL ⊢
  clear hv htl ht
  rw [List.length_map]
  go_enter Tryd.func41, Tryd.ntmps41
  go_wp2_with (first | (go_at_call 46; refine HT.out.mono ?_; rintro e w' ⟨rfl, rfl⟩; refine Hid.out ?_) | fail)
  refine Lib.hid ?_
  go_wp2
  go_loop [5, 6] (fun o i => ∃ k : Nat, k ≤ ls.length ∧ i = .int .i64 k ∧ o = S ((ls.take k).foldl joinP t)) (fun _ i => ls.length - (intOf i).toNat)
  case atStart => exact ⟨0, by omega, rfl, rfl⟩
  case round =>
    obtain ⟨k, hk, rfl, rfl⟩ := hrel
    by_cases hlt : k < ls.length
    · obtain ⟨p, hp⟩ : ∃ p, ls[k]? = some p := ⟨ls[k], List.getElem?_eq_getElem hlt⟩
      obtain ⟨gb, go_, rfl, c1⟩ := HV.out.cell (i := k) (x := S p) (by rw [List.getElem?_map, hp]; rfl)
      have HF := Lib.hid (fold_take (s := t) hp)
      have hfl := foldP_len (ls.take k) t
      have hst := sumL_take ls k
      have hpl : p.length + 1 ≤ sumL ls := by
        have h1 := sumL_take ls (k + 1)
        have h2 : sumL (ls.take (k + 1)) = sumL (ls.take k) + (p.length + 1) := by
          rw [List.take_succ_eq_append_getElem hlt, (List.getElem?_eq_some_iff.1 hp).2]
          simp [sumL]
        omega
      have htl := HTL.out
      have i0 : (0 : Int) ≤ (k : Int) := by omega
      have i1 : (k : Int) < (ls.length : Int) := by omega
      clear hp
      have hq : ((ls.take k).foldl joinP t).length ≤ 1000000000 := by omega
      generalize (ls.take k).foldl joinP t = q at HF hq
      by_cases h0 : q = []
      · subst h0
        have HJ : Hid (Value.string ((⟨#[]⟩ : ByteArray) ++ ⟨p.toArray⟩) = S ((ls.take (k + 1)).foldl joinP t)) := by
          show _ = _
          rw [HF.out, S_app]; simp [joinP]
        clear HF
        go_wp2
        go_round
        case rel => exact ⟨k + 1, by omega, by go_num, HJ.out⟩
        case measure => simp [intOf]; omega
      · have e1 : q.isEmpty = false := by simpa using h0
        have HJ : Hid (Value.string ((⟨q.toArray⟩ : ByteArray) ++ ⟨#[32]⟩ ++ ⟨p.toArray⟩) = S ((ls.take (k + 1)).foldl joinP t)) := by
          show _ = _
          rw [HF.out, S_app]
          simp [joinP, h0]
        clear HF h0
        go_wp2
        go_round
        case rel => exact ⟨k + 1, by omega, by go_num, HJ.out⟩
        case measure => simp [intOf]; omega
    · have i1 : ¬ (k : Int) < (ls.length : Int) := by omega
      have HJ : Hid ((ls.take k).foldl joinP t = ls.foldl joinP t) := by show _ = _; rw [List.take_of_length_le (by omega)]
      go_wp2
      go_ret
      exact ⟨by rw [HJ.out]; rfl, rfl⟩
/-- An entry's line, with those that continue it. -/
structure Ent where
  pos : Nat
  text : List UInt8
  more : List (List UInt8)
abbrev KV := List UInt8 × List UInt8
def noBl (c : UInt8) : Bool := !isBl c
def keyOf (l : List UInt8) : List UInt8 := l.takeWhile noBl
def kvOf (e : Ent) : KV := (lower (keyOf e.text), valueOf (e.text.dropWhile noBl) e.more)
theorem tw_at {p : UInt8 → Bool} : ∀ (l : List UInt8) (k : Nat), k ≤ l.length → (∀ j, j < k → p (l.getD j 0) = true) → (k < l.length → p (l.getD k 0) = false) → l.takeWhile p = l.take k ∧ l.dropWhile p = l.drop k
  | [], k, hk, _, _ => by
    obtain rfl : k = 0 := by simpa using hk
    exact ⟨rfl, rfl⟩
  | c :: r, 0, _, _, h2 => by
    have := h2 (by simp)
    rw [List.getD_cons_zero] at this
    simp [this]
  | c :: r, k + 1, hk, h1, h2 => by
    have hc := h1 0 (by omega)
    rw [List.getD_cons_zero] at hc
    obtain ⟨e1, e2⟩ := tw_at r k (by simpa using hk) (fun j hj => by have := h1 (j + 1) (by omega); rwa [List.getD_cons_succ] at this) (fun h => by have := h2 (by simpa using h); rwa [List.getD_cons_succ] at this)
    simp [hc, e1, e2]
theorem ext_to (t : ByteArray) (k : Nat) : Value.string (t.extract 0 k) = S (t.data.toList.take k) := by
  congr 1
  rw [extract_bytes]; simp
theorem ext_from (t : ByteArray) (k : Nat) : Value.string (t.extract k t.size) = S (t.data.toList.drop k) := by
  congr 1
  rw [extract_bytes, List.take_of_length_le (by rw [str_len]; omega)]
theorem bel_drewN {B : Nat} (n : Nat) (w : World) (_h : B ≤ w.heap.size) : Below B w (w.drewN n) := ⟨rfl, rfl, rfl, Nat.le_refl _, fun _ _ => rfl⟩
def EntryEnd (e : Ent) (w : World) (en : Ending) (w' : World) : Prop := en = .returned (.agg #[S (kvOf e).1, S (kvOf e).2]) ∧ Below w.heap.size w w'
set_option maxHeartbeats 4000000 in
set_option maxRecDepth 100000 in
theorem rEntry (at_ : Int) (s : ByteArray) (pos : Nat) (v : Value) (ls : List (List UInt8)) (w : World) (hv : VReads w v (ls.map S)) (hb : s.size + sumL ls ≤ 1000000000) (hn : ls.length ≤ 1000000000) : Calls Tryd.prog 23 #[.agg #[.int .i64 at_, .string s, v]] w (EntryEnd ⟨pos, s.data.toList, ls⟩ w) := by
  obtain ⟨w0, hw0⟩ : ∃ w0, w0 = (w.alloc (.cells #[.int .i64 at_, .string s, v] 63)).alloc (.cells #[.string ⟨#[]⟩, .string ⟨#[]⟩] 40) := ⟨_, rfl⟩
  have HB0 : Hid (Below w.heap.size w w0) := by rw [hw0]; exact ((Below.refl _ _).alloc (Nat.le_refl _) _).alloc (by simp) _
  have HV := Lib.hid (hv.kept (w' := w0) fun b _ hb => HB0.out.block b hb)
  have h1 : w0.heap[w.heap.size]? = some (.cells #[.int .i64 at_, .string s, v] 63 (0, 0)) := by rw [hw0]; exact ((MapKept.heap_alloc _ _).2 _ (by simp)).trans (MapKept.heap_alloc w _).1
  have h2 : w0.heap[w.heap.size + 1]? = some (.cells #[.string ⟨#[]⟩, .string ⟨#[]⟩] 40 (0, 0)) := by
    rw [hw0]
    have := (MapKept.heap_alloc (w.alloc (.cells #[.int .i64 at_, .string s, v] 63)) (.cells #[.string ⟨#[]⟩, .string ⟨#[]⟩] 40)).1
    simpa using this
  have c1 := cell_of_row w0 w.heap.size 1 _ _ _ h1
  have c2 := cell_of_row w0 w.heap.size 2 _ _ _ h1
  have HRB : Hid (∀ (n : Nat) (w1 : World), Below (w0.drewN n).heap.size (w0.drewN n) w1 → w1.heap[w.heap.size + 1]? = some (.cells #[.string ⟨#[]⟩, .string ⟨#[]⟩] 40 (0, 0))) := fun n w1 hb => by
    rw [hb.block _ (heap_lt (w := w0.drewN n) h2)]; exact h2
  have HW := Lib.hid hw0
  clear hv hw0 h1 h2
  go_enter Tryd.func23, Tryd.ntmps23
  go_wp2
  rw [← HW.out]
  go_loop [3] (fun i => ∃ k : Nat, k ≤ s.size ∧ i = .int .i64 k ∧ Hid (∀ j, j < k → noBl (s.data.toList.getD j 0) = true)) (fun i => s.size - (intOf i).toNat)
  case atStart => exact ⟨0, by omega, rfl, fun j hj => by omega⟩
  case round =>
    obtain ⟨k, hk, rfl, HN⟩ := hrel
    have HEND : (k < s.size → noBl (s.data.toList.getD k 0) = false) → keyOf s.data.toList = s.data.toList.take k ∧ s.data.toList.dropWhile noBl = s.data.toList.drop k := fun h => tw_at _ k (by rw [str_len]; exact hk) HN.out (fun h2 => h (by rw [str_len] at h2; exact h2))
    have i0 : (0 : Int) ≤ (k : Int) := by omega
    have i2 : (k : Int) ≤ (s.size : Int) := by omega
    have HX1 := Lib.hid (ext_to s k)
    have HX2 := Lib.hid (ext_from s k)
    have HVL : Hid (∀ n, Calls Tryd.prog 41 #[.string (s.extract k s.size), v] (w0.drewN n) fun e w' => e = .returned (S (valueOf (s.data.toList.drop k) ls)) ∧ w0.drewN n = w') := fun n => by
      have hsz : (s.extract k s.size).size ≤ s.size := by simp
      have := rValue (s.extract k s.size) v ls (w0.drewN n) (HV.out.kept fun _ _ _ => rfl) (by omega) hn
      have e : (s.extract k s.size).data.toList = s.data.toList.drop k := by rw [extract_bytes, List.take_of_length_le (by rw [str_len]; omega)]
      rw [e] at this
      exact this
    have HLW : Hid (∀ n, Calls Tryd.prog 18 #[.string (s.extract 0 k)] (w0.drewN n) fun e w' => e = .returned (S (lower (s.data.toList.take k))) ∧ Below (w0.drewN n).heap.size (w0.drewN n) w') := fun n => by
      have hsz : (s.extract 0 k).size ≤ s.size := by simp; omega
      have := rLower (s.extract 0 k) (w0.drewN n) (by omega)
      unfold LowEnd at this
      have e : (s.extract 0 k).data.toList = s.data.toList.take k := by rw [extract_bytes]; simp
      rw [e] at this
      exact this
    by_cases hlt : k < s.size
    · have i1 : (k : Int) < (s.size : Int) := by omega
      have HG := Lib.hid (str_get s k hlt)
      have HB := Lib.hid (rBlank s[k] w0)
      cases hb : isBl s[k]
      · rw [hb] at HB
        have HN2 : Hid (∀ j, j < k + 1 → noBl (s.data.toList.getD j 0) = true) := fun j hj => by
          rcases Nat.lt_or_ge j k with h | h
          · exact HN.out j h
          · obtain rfl : j = k := by omega
            rw [HG.out]; unfold noBl; rw [hb]; rfl
        clear HEND hb HVL HLW HX1 HX2
        go_wp2_with (first | (go_at_call 47; refine HB.out.mono ?_; rintro e w' ⟨rfl, rfl⟩; refine Hid.out ?_) | fail)
        refine Lib.hid ?_
        go_wp2
        go_round
        case rel => exact ⟨k + 1, by omega, by go_num, HN2⟩
        case measure => simp [intOf]; omega
      · rw [hb] at HB
        have HE := Lib.hid (HEND (fun _ => by rw [HG.out]; unfold noBl; rw [hb]; rfl))
        clear HEND hb
        go_wp2_with (first | (go_at_call 47; refine HB.out.mono ?_; rintro e w' ⟨rfl, rfl⟩; refine Hid.out ?_) | fail)
        refine Lib.hid ?_
        go_wp2
        go_quiet ((go_at_call 41; exact Calls.quiet_of_same ((HVL.out _).mono fun _ _ h => ⟨h.1, h.2.symm⟩)))
        go_wp2_with (first | (go_at_call 18; refine (HLW.out _).mono ?_; rintro e w1 ⟨rfl, hb1⟩; refine Hid.out ?_) | fail)
        refine Lib.hid ?_
        have HR := Lib.hid (HRB.out _ _ hb1)
        obtain ⟨z1, z2, z3, z4⟩ := two_cells HR.out
        have HB1 := Lib.hid hb1
        clear hb1
        go_wp2
        obtain ⟨y1, y2, _, _⟩ := two_cells (set_two HR.out (S (lower (s.data.toList.take k))) (S (valueOf (s.data.toList.drop k) ls)))
        exact bodyPost_ret (v := .agg #[S (lower (s.data.toList.take k)), S (valueOf (s.data.toList.drop k) ls)]) (by simp [results, Tryd.results23, go_sem, y1, y2]) rfl ⟨by unfold kvOf; rw [HE.out.1, HE.out.2], (((HB0.out.trans (bel_drewN _ _ HB0.out.size)).trans (HB1.out.mono HB0.out.size)).setCell (by show _ ≤ w.heap.size + 1; omega) _).setCell (by show _ ≤ w.heap.size + 1; omega) _⟩
    · have i1 : ¬ (k : Int) < (s.size : Int) := by omega
      have HE := Lib.hid (HEND (fun h => absurd h hlt))
      clear HEND
      go_wp2
      go_quiet ((go_at_call 41; exact Calls.quiet_of_same ((HVL.out _).mono fun _ _ h => ⟨h.1, h.2.symm⟩)))
      go_wp2_with (first | (go_at_call 18; refine (HLW.out _).mono ?_; rintro e w1 ⟨rfl, hb1⟩; refine Hid.out ?_) | fail)
      refine Lib.hid ?_
      have HR := Lib.hid (HRB.out _ _ hb1)
      obtain ⟨z1, z2, z3, z4⟩ := two_cells HR.out
      have HB1 := Lib.hid hb1
      clear hb1
      go_wp2
      obtain ⟨y1, y2, _, _⟩ := two_cells (set_two HR.out (S (lower (s.data.toList.take k))) (S (valueOf (s.data.toList.drop k) ls)))
      exact bodyPost_ret (v := .agg #[S (lower (s.data.toList.take k)), S (valueOf (s.data.toList.drop k) ls)]) (by simp [results, Tryd.results23, go_sem, y1, y2]) rfl ⟨by unfold kvOf; rw [HE.out.1, HE.out.2], (((HB0.out.trans (bel_drewN _ _ HB0.out.size)).trans (HB1.out.mono HB0.out.size)).setCell (by show _ ≤ w.heap.size + 1; omega) _).setCell (by show _ ≤ w.heap.size + 1; omega) _⟩
end Go.Proofs.YtbgdohggdaoojaaDoor.Table
