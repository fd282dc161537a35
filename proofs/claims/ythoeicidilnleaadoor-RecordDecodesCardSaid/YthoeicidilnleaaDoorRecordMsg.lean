/-
  RECORD: a message in memory; whether it may be, of the program.
-/
import Derived.Test.YthoeicidilnleaaDoorRecordSmall
import Derived.Test.YthoeicidilnleaaDoorGotoFwd
namespace Go.Proofs.YthoeicidilnleaaDoor.Codec
open Go.RowKit

def rc0 : Rc := (⟨#[]⟩, 0)
/-- A slice of recipients, at A, reads as these. -/
def RR (w : World) (A : Option Addr) (c : Nat) (rs : List Rc) : Prop :=
  rs.length ≤ c ∧ (0 < rs.length → ∃ b o, A = some ⟨b, o, none⟩ ∧ ∀ i, i < rs.length → w.cell? ⟨b, o + i * 2, none⟩ = some (.string (rs.getD i rc0).1) ∧ w.cell? ⟨b, o + i * 2 + 1, none⟩ = some (.int .u8 ((rs.getD i rc0).2.toNat : Int)))
theorem cell_lt {w : World} {b o : Nat} {v : Value} (h : w.cell? ⟨b, o, none⟩ = some v) : b < w.heap.size := by
  rcases Nat.lt_or_ge b w.heap.size with hl | hl
  · exact hl
  · rw [World.cell?, Array.getElem?_eq_none hl] at h; simp at h
theorem RR.on {w w' : World} {A : Option Addr} {c : Nat} {rs : List Rc} (h : RR w A c rs) (hb : Below w.heap.size w w') : RR w' A c rs := by
  refine ⟨h.1, fun h0 => ?_⟩
  obtain ⟨b, o, rfl, hc⟩ := h.2 h0
  refine ⟨b, o, rfl, fun i hi => ?_⟩
  have hlt := cell_lt (hc i hi).1
  rw [hb.cell (p := ⟨b, o + i * 2, none⟩) hlt, hb.cell (p := ⟨b, o + i * 2 + 1, none⟩) hlt]
  exact hc i hi
theorem Reads.form {w : World} {v : Value} {l : List UInt8} (h : Reads w v l) : ∃ A c, v = .slice A l.length c := by
  rcases h with ⟨rfl, a, c, rfl, _⟩ | ⟨b, o, c, rfl, _⟩
  · exact ⟨a, c, rfl⟩
  · exact ⟨_, c, rfl⟩
/-- A message's value: its four fields. -/
def msgV (m : Msg) (A : Option Addr) (c : Nat) (D : Option Addr) (e : Nat) : Value := .agg #[.int .i64 m.time, .string m.sender, .slice A m.rcpts.length c, .slice D m.data.length e]
def MR (w : World) (v : Value) (m : Msg) : Prop := ∃ A c D e, v = msgV m A c D e ∧ RR w A c m.rcpts ∧ Reads w (.slice D m.data.length e) m.data
theorem MR.on {w w' : World} {v : Value} {m : Msg} (h : MR w v m) (hb : Below w.heap.size w w') : MR w' v m := by
  obtain ⟨A, c, D, e, h1, h2, h3⟩ := h; exact ⟨A, c, D, e, h1, h2.on hb, h3.on hb⟩
/-- What the model can hold at all. -/
def Fits (m : Msg) : Prop := m.data.length ≤ 140737488351232 ∧ m.rcpts.length ≤ 140737488351232 ∧ m.sender.size ≤ 140737488351232 ∧ (∀ r ∈ m.rcpts, r.1.size ≤ 140737488351232) ∧ -9223372036854775808 ≤ m.time ∧ m.time ≤ 9223372036854775807
theorem getD_mem {rs : List Rc} {i : Nat} (h : i < rs.length) : rs.getD i rc0 ∈ rs := by
  simp [List.getD, List.getElem?_eq_getElem h]

set_option maxHeartbeats 400000 in
set_option maxRecDepth 100000 in
theorem cRight_long1 (m : Msg) (A : Option Addr) (c : Nat) (D : Option Addr) (e : Nat) (w : World) (hf : Fits m) (h : 1048576 < m.data.length ∨ 200 < m.rcpts.length ∨ 320 < m.sender.size) :
    Calls Tryd.prog 11 #[msgV m A c D e] w fun e w' => e = .returned (.int .i64 31) ∧ Below w.heap.size w w' := by
  unfold msgV
  obtain ⟨t, s, rs, l⟩ := m
  obtain ⟨f1, f2, f3, _, f5, f6⟩ := hf
  dsimp only at *
  generalize hn : rs.length = n at *
  generalize hd : l.length = dn at *
  clear hn hd
  by_cases h1 : 1048576 < dn
  · clear h
    go_enter Tryd.func11, Tryd.ntmps11
    go_wp2
    refine wp_scope_fwd fun F hF => ?_
    have HF := Lib.hid hF
    clear hF
    go_wp2
    go_step3
    refine ⟨_, by rw [HF.out]; rfl, ?_⟩
    clear HF
    go_wp2
    rw [Exit.noGoto_ret]
    go_ret
    exact ⟨rfl, (Below.refl _ _).alloc (Nat.le_refl _) _⟩
  by_cases h2 : 200 < n
  · clear h
    go_enter Tryd.func11, Tryd.ntmps11
    go_wp2
    refine wp_scope_fwd fun F hF => ?_
    have HF := Lib.hid hF
    clear hF
    go_wp2
    go_step3
    refine ⟨_, by rw [HF.out]; rfl, ?_⟩
    clear HF
    go_wp2
    rw [Exit.noGoto_ret]
    go_ret
    exact ⟨rfl, (Below.refl _ _).alloc (Nat.le_refl _) _⟩
  have h3 : 320 < s.size := by omega
  clear h
  go_enter Tryd.func11, Tryd.ntmps11
  go_wp2
  refine wp_scope_fwd fun F hF => ?_
  have HF := Lib.hid hF
  clear hF
  go_wp2
  go_step3
  refine ⟨_, by rw [HF.out]; rfl, ?_⟩
  clear HF
  go_wp2
  rw [Exit.noGoto_ret]
  go_ret
  exact ⟨rfl, (Below.refl _ _).alloc (Nat.le_refl _) _⟩

theorem any_take {rs : List Rc} {k : Nat} (h : k < rs.length) (p : Rc → Bool) : (rs.take (k + 1)).any p = ((rs.take k).any p || p (rs.getD k rc0)) := by
  rw [List.take_succ_eq_append_getElem h]; simp [List.getD, List.getElem?_eq_getElem h, -List.take_append_getElem]
theorem all_takeR {rs : List Rc} {k : Nat} (h : k < rs.length) (p : Rc → Bool) : (rs.take (k + 1)).all p = ((rs.take k).all p && p (rs.getD k rc0)) := by
  rw [List.take_succ_eq_append_getElem h]; simp [List.getD, List.getElem?_eq_getElem h, -List.take_append_getElem]
theorem all_notR {rs : List Rc} {k : Nat} (h : k < rs.length) (p : Rc → Bool) (hp : p (rs.getD k rc0) = false) : rs.all p = false := by
  rw [List.all_eq_false]
  refine ⟨rs[k], List.getElem_mem h, ?_⟩
  simp [List.getD, List.getElem?_eq_getElem h] at hp
  simp [hp]

set_option maxHeartbeats 400000 in
set_option maxRecDepth 100000 in
theorem cRight_long2 (m : Msg) (A : Option Addr) (c : Nat) (D : Option Addr) (e : Nat) (w : World) (hf : Fits m) (hr : RR w A c m.rcpts) (h1 : m.data.length ≤ 1048576) (h2 : m.rcpts.length ≤ 200) (h3 : m.sender.size ≤ 320) (h : m.rcpts.any (fun r => decide (320 < r.1.size)) = true) :
    Calls Tryd.prog 11 #[msgV m A c D e] w fun e w' => e = .returned (.int .i64 31) ∧ Below w.heap.size w w' := by
  unfold msgV
  obtain ⟨t, s, rs, l⟩ := m
  obtain ⟨f1, f2, f3, f4, f5, f6⟩ := hf
  dsimp only at *
  generalize hn : rs.length = n at *
  generalize hd : l.length = dn at *
  have HN := Lib.hid hn
  have HR := Lib.hid hr
  have HA := Lib.hid h
  have H4 := Lib.hid f4
  clear hn hd hr h f4
  go_enter Tryd.func11, Tryd.ntmps11
  go_wp2
  refine wp_scope_fwd fun F hF => ?_
  have HF := Lib.hid hF
  clear hF
  go_wp2
  go_loopw [26] (fun i wr => ∃ k : Nat, k ≤ n ∧ i = .int .i64 k ∧ Hid ((rs.take k).any (fun r => decide (320 < r.1.size)) = false) ∧ Below w.heap.size w wr) (fun i _ => n - (intOf i).toNat)
  case atStart => exact ⟨0, by omega, rfl, by unfold Hid; simp, (Below.refl _ _).alloc (Nat.le_refl _) _⟩
  case round =>
    obtain ⟨k, hk, rfl, hrun, hb⟩ := hrel
    by_cases hlt : k < n
    · obtain ⟨b, o, rfl, hcell⟩ := (HR.out.on hb).2 (by rw [HN.out]; omega)
      obtain ⟨hc1, hc2⟩ := hcell k (by rw [HN.out]; omega)
      have hs := H4.out _ (getD_mem (rs := rs) (i := k) (by rw [HN.out]; omega))
      have hx := any_take (rs := rs) (k := k) (by rw [HN.out]; omega) (fun r => decide (320 < r.1.size))
      rw [hrun.out, Bool.false_or] at hx
      generalize rs.getD k rc0 = r at hc1 hc2 hs hx
      obtain ⟨S, x⟩ := r
      dsimp only at *
      by_cases hL : 320 < S.size
      · clear hx hrun hcell
        go_wp2
        go_step3
        refine ⟨_, by rw [HF.out]; rfl, ?_⟩
        clear HF
        go_wp2
        rw [Exit.noGoto_ret]
        go_ret
        exact ⟨rfl, hb.alloc hb.size _⟩
      · have HX : Hid ((rs.take (k + 1)).any (fun r => decide (320 < r.1.size)) = false) := by unfold Hid; rw [hx]; simp; omega
        clear hx hrun hcell
        go_wp2
        go_roundw
        case rel => exact ⟨k + 1, by omega, by go_num, HX, hb.alloc hb.size _⟩
        case measure => simp [intOf]; omega
    · exfalso
      obtain rfl : k = n := by omega
      have := hrun.out
      rw [List.take_of_length_le (by rw [HN.out]; omega), HA.out] at this
      cases this

/-- The second loop and what stands ahead of it: behind a message that is not too long. -/
theorem right_form_long (m : Msg) (h1 : m.data.length ≤ 1048576) (h2 : m.rcpts.length ≤ 200) (h3 : m.sender.size ≤ 320) (h : m.rcpts.any (fun r => decide (320 < r.1.size)) = false) : longB m = false := by
  unfold longB; rw [h]; simp; omega
set_option maxHeartbeats 1000000 in
set_option maxRecDepth 100000 in
theorem cRight_form (m : Msg) (A : Option Addr) (c : Nat) (D : Option Addr) (e : Nat) (w : World) (hf : Fits m) (hr : RR w A c m.rcpts) (h1 : m.data.length ≤ 1048576) (h2 : m.rcpts.length ≤ 200) (h3 : m.sender.size ≤ 320) (h : m.rcpts.any (fun r => decide (320 < r.1.size)) = false) :
    Calls Tryd.prog 11 #[msgV m A c D e] w fun e w' => e = .returned (.int .i64 (if formB m then 0 else 30)) ∧ Below w.heap.size w w' := by
  unfold msgV
  obtain ⟨t, s, rs, l⟩ := m
  obtain ⟨f1, f2, f3, f4, f5, f6⟩ := hf
  dsimp only at *
  obtain ⟨out, ho⟩ : ∃ out, out = (if formB ⟨t, s, rs, l⟩ then (0 : Int) else 30) := ⟨_, rfl⟩
  rw [← ho]
  unfold formB at ho
  dsimp only at ho
  generalize hn : rs.length = n at *
  generalize hd : l.length = dn at *
  have HN := Lib.hid hn
  have HR := Lib.hid hr
  have HA := Lib.hid h
  have H4 := Lib.hid f4
  have HO := Lib.hid ho
  have HM := Lib.hid (fun w => cMayBeFrom s w (by omega))
  have HK := Lib.hid (fun w => cMayBeCount (n : Int) w)
  have HI := Lib.hid cIsAddress
  have HJ := Lib.hid cIsMark
  clear hn hd hr h f4 ho
  go_enter Tryd.func11, Tryd.ntmps11
  go_wp2
  refine wp_scope_fwd fun F hF => ?_
  have HF := Lib.hid hF
  clear hF
  go_wp2
  go_loopw [26] (fun i wr => ∃ k : Nat, k ≤ n ∧ i = .int .i64 k ∧ Below w.heap.size w wr ∧ wr.cell? ⟨w.heap.size, 0, none⟩ = some (.int .i64 t) ∧ wr.cell? ⟨w.heap.size, 1, none⟩ = some (.string s) ∧ wr.cell? ⟨w.heap.size, 2, none⟩ = some (.slice A n c) ∧ w.heap.size < wr.heap.size) (fun i _ => n - (intOf i).toNat)
  case atStart => exact ⟨0, by omega, rfl, (Below.refl _ _).alloc (Nat.le_refl _) _, by go_simp, by go_simp, by go_simp, by simp⟩
  case round =>
    obtain ⟨k, hk, rfl, hb, m0, m1, m2, hz⟩ := hrel
    by_cases hlt : k < n
    · obtain ⟨b, o, rfl, hcell⟩ := (HR.out.on hb).2 (by rw [HN.out]; omega)
      obtain ⟨hc1, hc2⟩ := hcell k (by rw [HN.out]; omega)
      have hs := H4.out _ (getD_mem (rs := rs) (i := k) (by rw [HN.out]; omega))
      have hL : ¬ 320 < (rs.getD k rc0).1.size := by
        have := HA.out
        rw [List.any_eq_false] at this
        simpa using this _ (getD_mem (rs := rs) (i := k) (by rw [HN.out]; omega))
      generalize rs.getD k rc0 = r at hc1 hc2 hs hL
      obtain ⟨S, x⟩ := r
      dsimp only at *
      clear hcell
      go_wp2
      go_roundw
      case rel => exact ⟨k + 1, by omega, by go_num, hb.alloc hb.size _, by go_simp, by go_simp, by go_simp, by simp; omega⟩
      case measure => simp [intOf]; omega
    · have hk : k = n := by omega
      clear hlt
      subst hk
      have hb9 : Below w.heap.size w wr := hb
      by_cases ht0 : t < 0
      · have HF2 : Hid (out = 30) := by unfold Hid; rw [HO.out, if_neg]; simp; intro h; omega
        go_wp2
        go_step3
        refine ⟨_, by rw [HF.out]; rfl, ?_⟩
        clear HF
        go_wp2
        rw [Exit.noGoto_ret]
        go_ret
        exact ⟨ret_int HF2.out.symm, hb⟩
      by_cases ht1 : 9007199254740992 < t
      · have HF2 : Hid (out = 30) := by unfold Hid; rw [HO.out, if_neg]; simp; intro h; omega
        go_wp2
        go_step3
        refine ⟨_, by rw [HF.out]; rfl, ?_⟩
        clear HF
        go_wp2
        rw [Exit.noGoto_ret]
        go_ret
        exact ⟨ret_int HF2.out.symm, hb⟩
      by_cases hfr : fromB s.data.toList = false
      · have HF2 : Hid (out = 30) := by unfold Hid; rw [HO.out, if_neg]; simp [hfr]
        rw [hfr] at HM
        clear hfr
        go_wp2_with (go_at_call 28; refine (HM.out _).mono ?_; rintro e w1 ⟨rfl, hb1⟩; have g1 := fun o => hb1.cell (p := ⟨w.heap.size, o, none⟩) hz)
        go_step3
        refine ⟨_, by rw [HF.out]; rfl, ?_⟩
        clear HF
        go_wp2
        rw [Exit.noGoto_ret]
        go_ret
        exact ⟨ret_int HF2.out.symm, hb.trans (hb1.mono hb.size)⟩
      have hfr' : fromB s.data.toList = true := by simpa using hfr
      rw [hfr'] at HM
      have HFr := Lib.hid hfr'
      clear hfr hfr'
      by_cases hn0 : k = 0
      · have HF2 : Hid (out = 30) := by unfold Hid; rw [HO.out, if_neg]; simp; intros; omega
        have e0 : decide (1 ≤ (k : Int) ∧ (k : Int) ≤ 200) = false := by simp; omega
        rw [e0] at HK
        clear e0 hn0
        go_wp2_with (first | (go_at_call 28; refine (HM.out _).mono ?_; rintro e w1 ⟨rfl, hb1⟩; have g1 := fun o => hb1.cell (p := ⟨w.heap.size, o, none⟩) hz) | (go_at_call 29; refine (HK.out _).mono ?_; rintro e w2 ⟨rfl, rfl⟩))
        go_step3
        refine ⟨_, by rw [HF.out]; rfl, ?_⟩
        clear HF
        go_wp2
        rw [Exit.noGoto_ret]
        go_ret
        exact ⟨ret_int HF2.out.symm, hb.trans (hb1.mono hb.size)⟩
      have e0 : decide (1 ≤ (k : Int) ∧ (k : Int) ≤ 200) = true := by simp; omega
      rw [e0] at HK
      clear e0
      have hgo : Hid (out = if rs.all rcB then (0 : Int) else 30) := by
        unfold Hid; rw [HO.out, HFr.out]
        have e1 : decide (0 ≤ t ∧ t ≤ 9007199254740992) = true := by simp; omega
        have e2 : decide (1 ≤ k ∧ k ≤ 200) = true := by simp; omega
        rw [e1, e2]; rfl
      clear HO
      go_wp2_with (first | (go_at_call 28; refine (HM.out _).mono ?_; rintro e w1 ⟨rfl, hb1⟩; have g1 := fun o => hb1.cell (p := ⟨w.heap.size, o, none⟩) hz) | (go_at_call 29; refine (HK.out _).mono ?_; rintro e w2 ⟨rfl, rfl⟩))
      have hb2 := hb.trans (hb1.mono hb.size)
      obtain ⟨w0, hw0⟩ : ∃ w0, w0 = w1 := ⟨_, rfl⟩
      rw [← hw0] at hb2 ⊢
      clear hw0 g1 hb1 HM HK
      go_loopw [59] (fun i wr => ∃ j : Nat, j ≤ k ∧ i = .int .i64 j ∧ Below w.heap.size w wr ∧ Hid ((rs.take j).all rcB = true)) (fun i _ => k - (intOf i).toNat)
      case atStart => exact ⟨0, by omega, rfl, hb2, by unfold Hid; simp⟩
      case round =>
        obtain ⟨j, hj, rfl, hbq, hall⟩ := hrel
        by_cases hlt : j < k
        · obtain ⟨b, o, rfl, hcell⟩ := (HR.out.on hbq).2 (by rw [HN.out]; omega)
          obtain ⟨hc1, hc2⟩ := hcell j (by rw [HN.out]; omega)
          have hs := H4.out _ (getD_mem (rs := rs) (i := j) (by rw [HN.out]; omega))
          have hx := all_takeR (rs := rs) (k := j) (by rw [HN.out]; omega) rcB
          rw [hall.out, Bool.true_and] at hx
          have hy := all_notR (rs := rs) (k := j) (by rw [HN.out]; omega) rcB
          generalize rs.getD j rc0 = r at hc1 hc2 hs hx hy
          obtain ⟨S, x⟩ := r
          dsimp only [rcB] at *
          have HIs := Lib.hid (fun w => HI.out S w (by omega))
          have HJs := Lib.hid (fun w => HJ.out x _ rfl w)
          obtain ⟨X, hX⟩ : ∃ X : Int, X = (x.toNat : Int) := ⟨_, rfl⟩
          rw [← hX] at HJs hc2
          clear hcell hX
          by_cases ha : addrB S.data.toList = false
          · have HF2 : Hid (out = 30) := by unfold Hid; rw [hgo.out, hy (by rw [ha]; rfl)]; rfl
            rw [ha] at HIs
            clear ha hx hy
            go_wp2_with (go_at_call 30; refine (HIs.out _).mono ?_; rintro e w2 ⟨rfl, hb3⟩)
            go_step3
            refine ⟨_, by rw [HF.out]; rfl, ?_⟩
            clear HF
            go_wp2
            rw [Exit.noGoto_ret]
            go_ret
            exact ⟨ret_int HF2.out.symm, (hbq.alloc hbq.size _).trans (hb3.mono (by simp; have := hbq.size; omega))⟩
          have ha' : addrB S.data.toList = true := by simpa using ha
          rw [ha'] at HIs
          clear ha
          by_cases hm : markB x = false
          · have HF2 : Hid (out = 30) := by unfold Hid; rw [hgo.out, hy (by rw [hm]; simp)]; rfl
            rw [hm] at HJs
            clear hm ha' hx hy
            go_wp2_with (first | (go_at_call 30; refine (HIs.out _).mono ?_; rintro e w2 ⟨rfl, hb3⟩; have g2 := fun o => hb3.cell (p := ⟨wr.heap.size, o, none⟩) (by simp)) | (go_at_call 31; refine (HJs.out _).mono ?_; rintro e w3 ⟨rfl, rfl⟩))
            go_step3
            refine ⟨_, by rw [HF.out]; rfl, ?_⟩
            clear HF
            go_wp2
            rw [Exit.noGoto_ret]
            go_ret
            exact ⟨ret_int HF2.out.symm, (hbq.alloc hbq.size _).trans (hb3.mono (by simp; have := hbq.size; omega))⟩
          have hm' : markB x = true := by simpa using hm
          have HX : Hid ((rs.take (j + 1)).all rcB = true) := by unfold Hid; rw [hx, ha', hm']; rfl
          rw [hm'] at HJs
          clear hm hm' ha' hx hy
          go_wp2_with (first | (go_at_call 30; refine (HIs.out _).mono ?_; rintro e w2 ⟨rfl, hb3⟩; have g2 := fun o => hb3.cell (p := ⟨wr.heap.size, o, none⟩) (by simp)) | (go_at_call 31; refine (HJs.out _).mono ?_; rintro e w3 ⟨rfl, rfl⟩))
          go_roundw
          case rel => exact ⟨j + 1, by omega, by go_num, (hbq.alloc hbq.size _).trans (hb3.mono (by simp; have := hbq.size; omega)), HX⟩
          case measure => simp [intOf]; omega
        · have hjk : j = k := by omega
          have HF2 : Hid (out = 0) := by
            unfold Hid; rw [hgo.out]
            have := hall.out
            rw [List.take_of_length_le (by rw [HN.out]; omega)] at this
            rw [this]; rfl
          clear hall
          go_wp2
          rw [Exit.fwd_ret]
          go_ret
          exact ⟨ret_int HF2.out.symm, hbq⟩
theorem cRight (v : Value) (m : Msg) (w : World) (hf : Fits m) (h : MR w v m) :
    Calls Tryd.prog 11 #[v] w fun e w' => e = .returned (.int .i64 (rightOf m)) ∧ Below w.heap.size w w' := by
  obtain ⟨A, c, D, e, rfl, hr, _⟩ := h
  unfold rightOf
  by_cases h1 : 1048576 < m.data.length ∨ 200 < m.rcpts.length ∨ 320 < m.sender.size
  · have : longB m = true := by simp [longB, h1]
    rw [this]
    exact cRight_long1 m A c D e w hf h1
  · by_cases h2 : m.rcpts.any (fun r => decide (320 < r.1.size)) = true
    · have : longB m = true := by unfold longB; rw [h2]; simp
      rw [this]
      exact cRight_long2 m A c D e w hf hr (by omega) (by omega) (by omega) h2
    · have h2 : m.rcpts.any (fun r => decide (320 < r.1.size)) = false := by simpa using h2
      rw [right_form_long m (by omega) (by omega) (by omega) h2]
      exact cRight_form m A c D e w hf hr (by omega) (by omega) (by omega) h2
end Go.Proofs.YthoeicidilnleaaDoor.Codec
