/-
  REPLY: is one right? The given answers, the program.
-/
import Derived.Test.YthkabehojmncmaaDoorRepText
namespace Go.Proofs.YthkabehojmncmaaDoor.Reply
open Go.RowKit Base
/-- The slice reads as these texts. -/
def RowS (w : World) (b o : Nat) (ls : List (List UInt8)) : Prop := ∀ i, i < ls.length → w.cell? ⟨b, o + i, none⟩ = some (S (ls.getD i []))
theorem RowS.on {w w' : World} {b o : Nat} {ls : List (List UInt8)} (h : RowS w b o ls) (hb : Below w.heap.size w w') : RowS w' b o ls := fun i hi => by
  rw [hb.cell (p := ⟨b, o + i, none⟩) (cell_lt (h i hi)), h i hi]
theorem rows_of {w : World} {lv : Value} {ls : List (List UInt8)} (h : VReads w lv (ls.map S)) : (ls = [] ∧ ∃ a c, lv = .slice a 0 c) ∨ (0 < ls.length ∧ ∃ b o c, lv = .slice (some ⟨b, o, none⟩) ls.length c ∧ ls.length ≤ c ∧ RowS w b o ls) := by
  rcases h with ⟨h0, a, c, e, _⟩ | ⟨b, o, c, e, hc, hx⟩
  · left
    have : ls.length = 0 := by have := congrArg List.length h0; simpa using this
    exact ⟨List.eq_nil_of_length_eq_zero this, a, c, e⟩
  · by_cases h0 : ls = []
    · subst h0
      exact Or.inl ⟨rfl, _, c, e⟩
    · right
      rw [List.length_map] at e hc
      refine ⟨by cases ls with | nil => exact (h0 rfl).elim | cons => simp, b, o, c, e, hc, fun i hi => ?_⟩
      refine hx i _ ?_
      rw [List.getElem?_map, List.getElem?_eq_getElem hi]
      simp [List.getD, List.getElem?_eq_getElem hi]
theorem right_no {c : Int} {ls : List (List UInt8)} {k : Nat} (h : textB (ls.getD k []) = false) : rightB c ls = false := by
  cases hr : rightB c ls with
  | false => rfl
  | true =>
    have := all_get (right_parts hr).2.2.2 k
    rw [h] at this; cases this
theorem right_len {c : Int} {ls : List (List UInt8)} (h : ¬ (1 ≤ ls.length ∧ ls.length ≤ 50)) : rightB c ls = false := by
  cases hr : rightB c ls with
  | false => rfl
  | true => exact (h ⟨(right_parts hr).2.1, (right_parts hr).2.2.1⟩).elim
theorem right_code {c : Int} {ls : List (List UInt8)} (h : codeB c = false) : rightB c ls = false := by unfold rightB; rw [h]; rfl
theorem right_yes {c : Int} {ls : List (List UInt8)} (h1 : codeB c = true) (h2 : 1 ≤ ls.length) (h3 : ls.length ≤ 50) (h4 : ls.all textB = true) : rightB c ls = true := by
  unfold rightB; rw [h1, h4, decide_eq_true ⟨h2, h3⟩]; rfl
theorem all_takeT {ls : List (List UInt8)} {k : Nat} (h : k < ls.length) : (ls.take (k + 1)).all textB = ((ls.take k).all textB && textB (ls.getD k [])) := by
  rw [List.take_succ_eq_append_getElem h]; simp [List.getD, List.getElem?_eq_getElem h, -List.take_append_getElem]
abbrev replyV (c : Int) (lv : Value) : Value := .agg #[.int .i64 c, lv]
set_option maxHeartbeats 8000000 in
set_option maxRecDepth 100000 in
theorem rRight (c : Int) (lv : Value) (ls : List (List UInt8)) (w : World) (hr : VReads w lv (ls.map S)) (hn : ls.length ≤ 9223372036854775000) (hl : ∀ k, (ls.getD k []).length ≤ 9223372036854775000) :
    Calls Tryd.prog 11 #[replyV c lv] w fun e w' => e = .returned (.bool (rightB c ls)) ∧ Below w.heap.size w w' := by
  obtain ⟨out, hout⟩ : ∃ out, out = rightB c ls := ⟨_, rfl⟩
  have HO := Lib.hid hout
  rw [← hout]
  clear hout
  have HC := Lib.hid (fun w1 => rCode c w1)
  have HBA : Hid (Below w.heap.size w (w.alloc (.cells #[.int .i64 c, lv] 24))) := (Below.refl _ _).alloc (Nat.le_refl _) _
  cases hcd : codeB c with
  | false =>
    have HT : Hid (out = false) := by show _ = _; rw [HO.out]; exact right_code hcd
    rw [hcd] at HC
    rcases rows_of hr with ⟨_, a, cc, rfl⟩ | ⟨_, b, o, cc, rfl, _, _⟩
    · clear hcd hr
      go_enter Tryd.func11, Tryd.ntmps11
      go_wp2_with (first | (go_at_call 23; refine (HC.out _).mono ?_; rintro ee w1 ⟨rfl, rfl⟩; refine Hid.out ?_) | fail)
      refine Lib.hid ?_
      go_wp2
      go_ret
      exact ⟨ret_bool HT.out.symm, HBA.out⟩
    · clear hcd hr
      go_enter Tryd.func11, Tryd.ntmps11
      go_wp2_with (first | (go_at_call 23; refine (HC.out _).mono ?_; rintro ee w1 ⟨rfl, rfl⟩; refine Hid.out ?_) | fail)
      refine Lib.hid ?_
      go_wp2
      go_ret
      exact ⟨ret_bool HT.out.symm, HBA.out⟩
  | true =>
    rw [hcd] at HC
    rcases rows_of hr with ⟨rfl, a, cc, rfl⟩ | ⟨h0, b, o, cc, rfl, hcap, hrow⟩
    · have HT : Hid (out = false) := by show _ = _; rw [HO.out]; exact right_len (by simp)
      clear hcd hr
      go_enter Tryd.func11, Tryd.ntmps11
      go_wp2_with (first | (go_at_call 23; refine (HC.out _).mono ?_; rintro ee w1 ⟨rfl, rfl⟩; refine Hid.out ?_) | fail)
      refine Lib.hid ?_
      go_wp2
      go_ret
      exact ⟨ret_bool HT.out.symm, HBA.out⟩
    · obtain ⟨n, hnn⟩ : ∃ n, n = ls.length := ⟨_, rfl⟩
      have HN := Lib.hid hnn
      rw [← hnn] at h0 hcap hn HBA ⊢
      have q1 : ¬ (n : Int) < 1 := by omega
      by_cases h50 : 50 < n
      · have q2 : (50 : Int) < (n : Int) := by omega
        have HT : Hid (out = false) := by show _ = _; rw [HO.out]; exact right_len (by omega)
        clear hcd hr hnn hrow
        go_enter Tryd.func11, Tryd.ntmps11
        go_wp2_with (first | (go_at_call 23; refine (HC.out _).mono ?_; rintro ee w1 ⟨rfl, rfl⟩; refine Hid.out ?_) | fail)
        refine Lib.hid ?_
        go_wp2
        go_ret
        exact ⟨ret_bool HT.out.symm, HBA.out⟩
      · have q2 : ¬ (50 : Int) < (n : Int) := by omega
        have HCD := Lib.hid hcd
        have HR : Hid (RowS (w.alloc (.cells #[.int .i64 c, .slice (some ⟨b, o, none⟩) n cc] 24)) b o ls) := hrow.on HBA.out
        have HTX : Hid (∀ k w1, Calls Tryd.prog 24 #[S (ls.getD k [])] w1 (AskEnd (textB (ls.getD k [])) w1)) := fun k w1 => rText ⟨(ls.getD k []).toArray⟩ w1 (by rw [← str_len]; exact Nat.le_trans (hl k) (by omega))
        clear hcd hr hnn hrow hl
        obtain ⟨w0, hw0⟩ : ∃ w0, w0 = w.alloc (.cells #[.int .i64 c, .slice (some ⟨b, o, none⟩) n cc] 24) := ⟨_, rfl⟩
        go_enter Tryd.func11, Tryd.ntmps11
        go_wp2_with (first | (go_at_call 23; refine (HC.out _).mono ?_; rintro ee w1 ⟨rfl, rfl⟩; refine Hid.out ?_) | fail)
        refine Lib.hid ?_
        clear hw0
        go_wp2
        go_loop [4, 5] (fun i _ => ∃ k : Nat, k ≤ n ∧ i = .int .i64 (k : Int) ∧ Hid ((ls.take k).all textB = true)) (fun i _ => n - (intOf i).toNat)
        case atStart => exact ⟨0, by omega, rfl, rfl⟩
        case round =>
          obtain ⟨k, hk, rfl, hp⟩ := hrel
          by_cases hlt : k < n
          · have i0 : (0 : Int) ≤ (k : Int) := by omega
            have i1 : (k : Int) < (n : Int) := by omega
            have hcell := HR.out k (by rw [← HN.out]; exact hlt)
            have HK : Hid (k < ls.length) := by show _ < _; rw [← HN.out]; exact hlt
            have HT0 := Lib.hid (fun w1 => HTX.out k w1)
            have HNO : Hid (textB (ls.getD k []) = false → out = false) := fun h => by rw [HO.out]; exact right_no h
            have HYE : Hid (textB (ls.getD k []) = true → (ls.take (k + 1)).all textB = true) := fun h => by rw [all_takeT HK.out, hp.out, h]; rfl
            generalize textB (ls.getD k []) = tb at HT0 HNO HYE
            generalize ls.getD k [] = x at hcell HT0
            cases tb with
            | false =>
              have HT : Hid (out = false) := HNO.out rfl
              clear HNO HYE hp
              go_wp2_with (first | (go_at_call 24; refine (HT0.out _).mono ?_; rintro ee w1 ⟨rfl, rfl⟩; refine Hid.out ?_) | fail)
              refine Lib.hid ?_
              go_wp2
              go_ret
              exact ⟨ret_bool HT.out.symm, HBA.out⟩
            | true =>
              have HX : Hid ((ls.take (k + 1)).all textB = true) := HYE.out rfl
              clear HNO HYE hp
              go_wp2_with (first | (go_at_call 24; refine (HT0.out _).mono ?_; rintro ee w1 ⟨rfl, rfl⟩; refine Hid.out ?_) | fail)
              refine Lib.hid ?_
              go_wp2
              go_round
              case rel => exact ⟨k + 1, by omega, by go_num, HX⟩
              case measure => simp [intOf]; omega
          · have i1 : ¬ (k : Int) < (n : Int) := by omega
            have HT : Hid (out = true) := by
              show _ = _
              rw [HO.out]
              have := hp.out
              have hnl := HN.out
              rw [List.take_of_length_le (by omega)] at this
              exact right_yes HCD.out (by omega) (by omega) this
            clear hp
            go_wp2
            go_ret
            exact ⟨ret_bool HT.out.symm, HBA.out⟩
set_option maxHeartbeats 8000000 in
set_option maxRecDepth 100000 in
theorem pRight (c : Int) (lv : Value) (ls : List (List UInt8)) (w : World) (hr : VReads w lv (ls.map S)) (hn : ls.length ≤ 9223372036854775000) (hl : ∀ k, (ls.getD k []).length ≤ 9223372036854775000) :
    Calls Tryd.prog 10 #[replyV c lv] w fun e w' => e = .returned (.bool (rightB c ls)) ∧ Below w.heap.size w w' := by
  obtain ⟨out, hout⟩ : ∃ out, out = rightB c ls := ⟨_, rfl⟩
  have HO := Lib.hid hout
  rw [← hout]
  clear hout
  have HC := Lib.hid (fun w1 => pCode c w1)
  have HBA : Hid (Below w.heap.size w (w.alloc (.cells #[.int .i64 c, lv] 24))) := (Below.refl _ _).alloc (Nat.le_refl _) _
  cases hcd : codeB c with
  | false =>
    have HT : Hid (out = false) := by show _ = _; rw [HO.out]; exact right_code hcd
    rw [hcd] at HC
    rcases rows_of hr with ⟨_, a, cc, rfl⟩ | ⟨_, b, o, cc, rfl, _, _⟩
    · clear hcd hr
      go_enter Tryd.func10, Tryd.ntmps10
      go_wp2_with (first | (go_at_call 21; refine (HC.out _).mono ?_; rintro ee w1 ⟨rfl, rfl⟩; refine Hid.out ?_) | fail)
      refine Lib.hid ?_
      go_wp2
      go_ret
      exact ⟨ret_bool HT.out.symm, HBA.out⟩
    · clear hcd hr
      go_enter Tryd.func10, Tryd.ntmps10
      go_wp2_with (first | (go_at_call 21; refine (HC.out _).mono ?_; rintro ee w1 ⟨rfl, rfl⟩; refine Hid.out ?_) | fail)
      refine Lib.hid ?_
      go_wp2
      go_ret
      exact ⟨ret_bool HT.out.symm, HBA.out⟩
  | true =>
    rw [hcd] at HC
    rcases rows_of hr with ⟨rfl, a, cc, rfl⟩ | ⟨h0, b, o, cc, rfl, hcap, hrow⟩
    · have HT : Hid (out = false) := by show _ = _; rw [HO.out]; exact right_len (by simp)
      clear hcd hr
      go_enter Tryd.func10, Tryd.ntmps10
      go_wp2_with (first | (go_at_call 21; refine (HC.out _).mono ?_; rintro ee w1 ⟨rfl, rfl⟩; refine Hid.out ?_) | fail)
      refine Lib.hid ?_
      go_wp2
      go_ret
      exact ⟨ret_bool HT.out.symm, HBA.out⟩
    · obtain ⟨n, hnn⟩ : ∃ n, n = ls.length := ⟨_, rfl⟩
      have HN := Lib.hid hnn
      rw [← hnn] at h0 hcap hn HBA ⊢
      have q1 : ((n : Int) == 0) = false := by rw [beq_eq_false_iff_ne]; omega
      by_cases h50 : 50 < n
      · have q2 : (50 : Int) < (n : Int) := by omega
        have HT : Hid (out = false) := by show _ = _; rw [HO.out]; exact right_len (by omega)
        clear hcd hr hnn hrow
        go_enter Tryd.func10, Tryd.ntmps10
        go_wp2_with (first | (go_at_call 21; refine (HC.out _).mono ?_; rintro ee w1 ⟨rfl, rfl⟩; refine Hid.out ?_) | fail)
        refine Lib.hid ?_
        go_wp2
        go_ret
        exact ⟨ret_bool HT.out.symm, HBA.out⟩
      · have q2 : ¬ (50 : Int) < (n : Int) := by omega
        have HCD := Lib.hid hcd
        have HR : Hid (RowS (w.alloc (.cells #[.int .i64 c, .slice (some ⟨b, o, none⟩) n cc] 24)) b o ls) := hrow.on HBA.out
        have HTX : Hid (∀ k w1, Calls Tryd.prog 22 #[S (ls.getD k [])] w1 fun e w' => e = .returned (.bool (textB (ls.getD k []))) ∧ Below w1.heap.size w1 w') := fun k w1 => pText ⟨(ls.getD k []).toArray⟩ w1 (by rw [← str_len]; exact Nat.le_trans (hl k) (by omega))
        clear hcd hr hnn hrow hl
        obtain ⟨w0, hw0⟩ : ∃ w0, w0 = w.alloc (.cells #[.int .i64 c, .slice (some ⟨b, o, none⟩) n cc] 24) := ⟨_, rfl⟩
        go_enter Tryd.func10, Tryd.ntmps10
        go_wp2_with (first | (go_at_call 21; refine (HC.out _).mono ?_; rintro ee w1 ⟨rfl, rfl⟩; refine Hid.out ?_) | fail)
        refine Lib.hid ?_
        clear hw0
        go_wp2
        go_loopw [4, 24] (fun _ i wr => ∃ k : Nat, k ≤ n ∧ i = .int .i64 (k : Int) ∧ Hid ((ls.take k).all textB = true) ∧ Hid (RowS wr b o ls) ∧ Hid (Below w.heap.size w wr)) (fun _ i _ => n - (intOf i).toNat)
        case atStart => exact ⟨0, by omega, rfl, rfl, HR, HBA⟩
        case round =>
          obtain ⟨k, hk, rfl, hp, HRW, HBW⟩ := hrel
          by_cases hlt : k < n
          · have i0 : (0 : Int) ≤ (k : Int) := by omega
            have i1 : (k : Int) < (n : Int) := by omega
            have hcell := HRW.out k (by rw [← HN.out]; exact hlt)
            have HK : Hid (k < ls.length) := by show _ < _; rw [← HN.out]; exact hlt
            have HT0 := Lib.hid (fun w1 => HTX.out k w1)
            have HNO : Hid (textB (ls.getD k []) = false → out = false) := fun h => by rw [HO.out]; exact right_no h
            have HYE : Hid (textB (ls.getD k []) = true → (ls.take (k + 1)).all textB = true) := fun h => by rw [all_takeT HK.out, hp.out, h]; rfl
            generalize textB (ls.getD k []) = tb at HT0 HNO HYE
            generalize ls.getD k [] = x at hcell HT0
            cases tb with
            | false =>
              have HT : Hid (out = false) := HNO.out rfl
              clear HNO HYE hp
              go_wp2_with (first | (go_at_call 22; refine (HT0.out _).mono ?_; rintro ee w1 ⟨rfl, hb⟩; refine Hid.out ?_) | fail)
              refine Lib.hid ?_
              have HB2 : Hid (Below w.heap.size w w1) := HBW.out.trans (hb.mono HBW.out.size)
              have HR2 : Hid (RowS w1 b o ls) := HRW.out.on hb
              clear hb
              go_wp2
              go_ret
              exact ⟨ret_bool HT.out.symm, HB2.out⟩
            | true =>
              have HX : Hid ((ls.take (k + 1)).all textB = true) := HYE.out rfl
              clear HNO HYE hp
              go_wp2_with (first | (go_at_call 22; refine (HT0.out _).mono ?_; rintro ee w1 ⟨rfl, hb⟩; refine Hid.out ?_) | fail)
              refine Lib.hid ?_
              have HB2 : Hid (Below w.heap.size w w1) := HBW.out.trans (hb.mono HBW.out.size)
              have HR2 : Hid (RowS w1 b o ls) := HRW.out.on hb
              clear hb
              go_wp2
              go_roundw
              case rel => exact ⟨k + 1, by omega, by go_num, HX, HR2, HB2⟩
              case measure => simp [intOf]; omega
          · have i1 : ¬ (k : Int) < (n : Int) := by omega
            have HT : Hid (out = true) := by
              show _ = _
              rw [HO.out]
              have := hp.out
              have hnl := HN.out
              rw [List.take_of_length_le (by omega)] at this
              exact right_yes HCD.out (by omega) (by omega) this
            clear hp
            go_wp2
            go_ret
            exact ⟨ret_bool HT.out.symm, HBW.out⟩
end Go.Proofs.YthkabehojmncmaaDoor.Reply
