/-
  The document's Clear.
-/
import Derived.Test.YtfmphhcdbocgnaaRefWait
namespace Go.Proofs.Ytfmphhcdbocgnaa.Pipe
open Go.RowKit Base
section
variable {own : Nat → Tag} {w : World} {g : Nat} {rv : Value} {Rs : List (PA × RG)} {f t : ByteArray}
def clrR (s : ByteArray) (p : PA × RG) : PA × RG := if ofPort s p.1 then ({ p.1 with q := [] }, ⟨.slice none 0 0, []⟩) else p
def clrT (s : ByteArray) (Rs : List (PA × RG)) (k : Nat) : List (PA × RG) := (Rs.take k).map (clrR s) ++ Rs.drop k
theorem clrT_len (s : ByteArray) (Rs : List (PA × RG)) (k : Nat) (hk : k ≤ Rs.length) : (clrT s Rs k).length = Rs.length := by
  unfold clrT; rw [List.length_append, List.length_map, List.length_take, List.length_drop]; omega
theorem clrT_get (s : ByteArray) (Rs : List (PA × RG)) (k : Nat) (p : PA × RG) (h : Rs[k]? = some p) : (clrT s Rs k)[k]? = some p := by
  have hl := (List.getElem?_eq_some_iff.1 h).1
  unfold clrT
  rw [List.getElem?_append_right (by rw [List.length_map, List.length_take]; omega), List.length_map, List.length_take, List.getElem?_drop, show k + (k - min k Rs.length) = k by omega]
  exact h
theorem clrT_yes (s : ByteArray) (Rs : List (PA × RG)) (k : Nat) (p : PA × RG) (h : Rs[k]? = some p) (hm : ofPort s p.1 = true) : clrT s Rs (k + 1) = (clrT s Rs k).set k ({ p.1 with q := [] }, ⟨.slice none 0 0, []⟩) := by
  have hl := (List.getElem?_eq_some_iff.1 h).1
  unfold clrT
  have e1 : ((Rs.take k).map (clrR s)).length = k := by rw [List.length_map, List.length_take]; omega
  rw [List.set_append_right _ _ (by omega), e1, Nat.sub_self, List.drop_eq_getElem_cons hl, List.set_cons_zero, List.take_succ_eq_append_getElem hl, List.map_append, List.append_assoc]
  congr 1
  have : clrR s Rs[k] = ({ p.1 with q := [] }, ⟨.slice none 0 0, []⟩) := by
    rw [(List.getElem?_eq_some_iff.1 h).2]; unfold clrR; rw [if_pos hm]
  simp [this]
theorem clrT_no (s : ByteArray) (Rs : List (PA × RG)) (k : Nat) (p : PA × RG) (h : Rs[k]? = some p) (hm : ¬ ofPort s p.1 = true) : clrT s Rs (k + 1) = clrT s Rs k := by
  have hl := (List.getElem?_eq_some_iff.1 h).1
  unfold clrT
  rw [List.drop_eq_getElem_cons hl, List.take_succ_eq_append_getElem hl, List.map_append, List.append_assoc]
  congr 1
  have : clrR s Rs[k] = Rs[k] := by rw [(List.getElem?_eq_some_iff.1 h).2]; unfold clrR; rw [if_neg hm]
  simp [this]
theorem clrT_all (s : ByteArray) (Rs : List (PA × RG)) : (clrT s Rs Rs.length).map Prod.fst = (Rs.map Prod.fst).map (clrA s) := by
  unfold clrT
  rw [List.take_length, List.drop_length, List.append_nil, List.map_map, List.map_map]
  refine List.map_congr_left fun p _ => ?_
  show (clrR s p).1 = clrA s p.1
  unfold clrR clrA
  split <;> rfl
def RClearEnd (own : Nat → Tag) (w : World) (g : Nat) (Rs : List (PA × RG)) (s : ByteArray) (e : Ending) (w' : World) : Prop :=
  ∃ own' rv' Rs', e = .returned (.int .i64 (clearN s (Rs.map Prod.fst) : Int)) ∧ RHolds own' w' g rv' Rs' ∧ Rs'.map Prod.fst = (Rs.map Prod.fst).map (clrA s) ∧ StepR own w own' w'
set_option maxHeartbeats 2000000 in
theorem rClear (h : RHolds own w g rv Rs) (hn : Rs.length ≤ 1000000) (hq64 : ∀ p ∈ Rs, p.1.q.length ≤ 64) (s : ByteArray) : Calls Try.prog 19 #[.pointer (some ⟨g, 0, none⟩), .string s] w (RClearEnd own w g Rs s) := by
  have H := Lib.hid h
  have HQ64 := Lib.hid hq64
  obtain ⟨ra, rc, hrv, hrc⟩ := h.form
  subst hrv
  clear h hq64
  obtain ⟨R, hR⟩ : ∃ R : Value → Value → World → Prop, R = fun v i wr => ∃ k : Nat, k ≤ Rs.length ∧ i = .int .i64 k ∧ v = .int .i64 (clearN s ((Rs.map Prod.fst).take k) : Int) ∧ RHolds own wr g (.slice ra Rs.length rc) (clrT s Rs k) ∧ StepR own w own wr := ⟨_, rfl⟩
  have HR := Lib.hid hR
  clear hR
  go_enter Try.func19, Try.ntmps19
  go_wp2
  go_loopw [5, 6] (fun v i wr => R v i wr) (fun _ i _ => Rs.length - (intOf i).toNat)
  case atStart =>
    rw [HR.out]
    exact ⟨0, Nat.zero_le _, rfl, rfl, H.out, StepR.refl _ _⟩
  case round =>
    rw [HR.out] at hrel
    obtain ⟨k, hkk, rfl, rfl, hh, hst⟩ := hrel
    have hlenT := clrT_len s Rs k hkk
    have HH := Lib.hid hh
    have HST := Lib.hid hst
    obtain ⟨hc, _⟩ := hh.cell
    by_cases hlt : k < Rs.length
    · obtain ⟨q, hq⟩ : ∃ q, Rs[k]? = some q := ⟨Rs[k], List.getElem?_eq_getElem hlt⟩
      have hqT := clrT_get s Rs k q hq
      obtain ⟨rb, c2, he, hkl, hcc, d0, d1, _, d3, dz, drb, drlt⟩ := hh.at hqT
      rw [hlenT] at he
      cases he
      obtain ⟨la, lc, hlv, _⟩ := row_form (hh.pipes k q hqT).row
      rw [hlv] at d3
      have hz := dz (k * 4 + 3)
      have HZ := Lib.hid hz
      have HQ := Lib.hid hq
      have HQT := Lib.hid hqT
      have hq2 : q.1.q.length ≤ 64 := HQ64.out q (List.mem_of_getElem? hq)
      have hcb : clearN s ((Rs.map Prod.fst).take k) ≤ 64000000 := by
        have h1 := clearN_le s ((Rs.map Prod.fst).take k) (fun x hx => by
          obtain ⟨p, hp, rfl⟩ := List.mem_map.1 (List.mem_of_mem_take hx)
          exact HQ64.out p hp)
        rw [List.length_take, List.length_map] at h1
        omega
      have hsn : clearN s ((Rs.map Prod.fst).take (k + 1)) = clearN s ((Rs.map Prod.fst).take k) + if ofPort s q.1 then q.1.q.length else 0 := by
        rw [← List.map_take, ← List.map_take, List.take_succ_eq_append_getElem hlt, List.map_append, (List.getElem?_eq_some_iff.1 hq).2]
        exact clearN_snoc s _ q.1
      have HSN := Lib.hid hsn
      have hyes : ∀ (_ : ofPort s q.1 = true) (w3 : World), w3 = wr.setCell ⟨rb, k * 4 + 3, none⟩ (.slice none 0 0) → ∀ v i, v = .int .i64 ((clearN s ((Rs.map Prod.fst).take k) : Int) + (q.1.q.length : Int)) → i = .int .i64 ((k + 1 : Nat) : Int) → R v i w3 := fun hm w3 hw3 v i hv hi => by
        have h0 : RHolds own wr g (.slice (some ⟨rb, 0, none⟩) (clrT s Rs k).length rc) (clrT s Rs k) := by rw [hlenT]; exact HH.out
        have h1 := h0.turned HQT.out (own' := own) (w1 := wr) (q := []) (lv := .slice none 0 0) (vs := []) (fun b t ht _ => ⟨ht, rfl⟩) h0.fresh ⟨rfl, Or.inl ⟨rfl, rfl⟩⟩ (fun b hb => by cases hb) rfl (fun j v l hj => by simp at hj)
        rw [List.length_set, hlenT, ← hw3] at h1
        rw [HR.out]
        have hkx : KeepX rb wr w3 := by rw [hw3]; exact KeepX.set _ _ _ _
        refine ⟨k + 1, by omega, hi, ?_, ?_, HST.out.trans ⟨hkx.os, hkx.tape, hkx.output, hkx.size, fun b hb hn => hkx.block b hb (fun e => hn .row (by rw [e]; exact drb)), fun _ _ _ => rfl⟩⟩
        · rw [hv, HSN.out, if_pos hm, Int.natCast_add]
        · rw [clrT_yes s Rs k q HQ.out hm]; exact h1
      have HY := Lib.hid hyes
      have hno : ∀ (_ : ¬ ofPort s q.1 = true) i, i = .int .i64 ((k + 1 : Nat) : Int) → R (.int .i64 (clearN s ((Rs.map Prod.fst).take k) : Int)) i wr := fun hm i hi => by
        rw [HR.out]
        refine ⟨k + 1, by omega, hi, ?_, ?_, HST.out⟩
        · rw [HSN.out, if_neg hm, Nat.add_zero]
        · rw [clrT_no s Rs k q HQ.out hm]; exact HH.out
      have HN := Lib.hid hno
      have hc0 : (0 : Int) ≤ (clearN s ((Rs.map Prod.fst).take k) : Int) := by omega
      have hc1 : (clearN s ((Rs.map Prod.fst).take k) : Int) ≤ 64000000 := by omega
      have hq3 : (q.1.q.length : Int) ≤ 64 := by omega
      clear hyes hno hsn hlenT hq hqT hlv dz hh hst hz drb
      have hz := HZ.out
      by_cases h1 : q.1.f = s
      · have e1 := str_eq_b h1
        have HM : Hid (ofPort s q.1 = true) := by show _ = _; unfold ofPort; rw [decide_eq_true h1]; rfl
        clear h1
        go_wp2
        go_roundw
        case rel => exact HY.out HM.out _ rfl _ _ rfl (by go_num)
        case measure => simp [intOf]; omega
      · have e1 := str_ne_b h1
        by_cases h2 : q.1.t = s
        · have e2 := str_eq_b h2
          have HM : Hid (ofPort s q.1 = true) := by show _ = _; unfold ofPort; rw [decide_eq_true h2, Bool.or_true]
          clear h1 h2
          go_wp2
          go_roundw
          case rel => exact HY.out HM.out _ rfl _ _ rfl (by go_num)
          case measure => simp [intOf]; omega
        · have e2 := str_ne_b h2
          have HM : Hid (¬ ofPort s q.1 = true) := by show ¬ _ = _; unfold ofPort; rw [decide_eq_false h1, decide_eq_false h2]; simp
          clear h1 h2
          go_wp2
          go_roundw
          case rel => exact HN.out HM.out _ (by go_num)
          case measure => simp [intOf]; omega
    · have hke : k = Rs.length := by omega
      subst hke
      clear hlenT hh hst
      go_wp2
      go_ret
      exact ⟨own, _, _, ret_int (by rw [← List.map_take, List.take_length]), HH.out, clrT_all s Rs, HST.out⟩
end
end Go.Proofs.Ytfmphhcdbocgnaa.Pipe
