/-
  The document's Waiting and Clear.
-/
import Derived.Test.YtfmphhcdbocgnaaRefSend
namespace Go.Proofs.Ytfmphhcdbocgnaa.Pipe
open Go.RowKit Base
open Go.Proofs (encStr)
section
variable {own : Nat → Tag} {w : World} {g : Nat} {rv : Value} {Rs : List (PA × RG)} {f t : ByteArray}
/-- The ports of pipes that hold something, in the pipes' order. -/
def waitA (L : List PA) : List (List UInt8) := (L.filter fun p => !p.q.isEmpty).map fun p => p.t.data.toList
theorem waitL_eq (Ps : List (PA × PG)) : waitL Ps = waitA (Ps.map Prod.fst) := by
  unfold waitL waitA
  rw [List.filter_map, List.map_map]; rfl
theorem waitA_len (L : List PA) : (waitA L).length ≤ L.length := by
  unfold waitA; rw [List.length_map]; exact List.length_filter_le _ _
theorem waitA_take (Rs : List (PA × RG)) (k : Nat) (p : PA × RG) (h : Rs[k]? = some p) : waitA ((Rs.take (k + 1)).map Prod.fst) = waitA ((Rs.take k).map Prod.fst) ++ if 0 < p.1.q.length then [p.1.t.data.toList] else [] := by
  have hl := (List.getElem?_eq_some_iff.1 h).1
  rw [List.take_succ_eq_append_getElem hl, List.map_append, (List.getElem?_eq_some_iff.1 h).2]
  unfold waitA
  rw [List.filter_append, List.map_append]
  congr 1
  cases hq : p.1.q with
  | nil => simp [hq]
  | cons x r => simp [hq]
theorem rWaiting (h : RHolds own w g rv Rs) (hn : Rs.length ≤ 1000000) : Calls Try.prog 21 #[.pointer (some ⟨g, 0, none⟩)] w (WaitEnd (waitA (Rs.map Prod.fst)) w) := by
  have H := Lib.hid h
  obtain ⟨ra, rc, hrv, hrc⟩ := h.form
  subst hrv
  clear h
  obtain ⟨R, hR⟩ : ∃ R : Value → Value → World → Prop, R = fun v i wr => ∃ (k : Nat) (a : Option Addr) (c : Nat) (ws : List (List UInt8)), k ≤ Rs.length ∧ i = .int .i64 k ∧ v = .slice a ws.length c ∧ wr.ownsRow w.heap.size 9 1 (.slice a ws.length c) ws.length (ws.map encStr) ∧
    ws.length ≤ k ∧ Hid (ws = (waitA ((Rs.take k).map Prod.fst)).foldl putIn []) ∧ Below w.heap.size w wr := ⟨_, rfl⟩
  have HR := Lib.hid hR
  clear hR
  go_enter Try.func21, Try.ntmps21
  go_wp2
  go_loopw [3, 4] (fun v i wr => R v i wr) (fun _ i _ => Rs.length - (intOf i).toNat)
  case atStart =>
    rw [HR.out]
    exact ⟨0, none, 0, [], Nat.zero_le _, rfl, rfl, ⟨rfl, Or.inl ⟨rfl, rfl⟩⟩, Nat.le_refl _, rfl, Below.refl _ _⟩
  case round =>
    rw [HR.out] at hrel
    obtain ⟨k, a, c, ws, hkk, rfl, rfl, hown, hws, hwe, hbel⟩ := hrel
    have hh : Hid (RHolds own wr g (.slice ra Rs.length rc) Rs) := H.out.on hbel
    obtain ⟨hc, _⟩ := hh.out.cell
    by_cases hlt : k < Rs.length
    · obtain ⟨q, hq⟩ : ∃ q, Rs[k]? = some q := ⟨Rs[k], List.getElem?_eq_getElem hlt⟩
      obtain ⟨rb, c2, he, hkl, hcc, _, d1, _, d3, _⟩ := hh.out.at hq
      cases he
      obtain ⟨la, lc, hlv, _⟩ := row_form (hh.out.pipes k q hq).row
      rw [hlv] at d3
      have HQ := Lib.hid hq
      clear hq hlv
      by_cases hq0 : 0 < q.1.q.length
      · have q1 : (0 : Int) < (q.1.q.length : Int) := by omega
        go_wp2_with (go_at_call 28; refine (cWith _ w.heap.size a c ws q.1.t hown hbel.size (by omega)).mono ?_; rintro e w1 ⟨a1, c1, rfl, o1, b1⟩; refine Hid.out ?_)
        refine Lib.hid ?_
        have hbel1 := hbel.trans (b1.mono hbel.size)
        have hl1 := putIn_len ws q.1.t.data.toList
        clear hc d1 d3 hown b1 hbel
        go_wp2
        go_roundw
        case rel =>
          rw [HR.out]
          refine ⟨k + 1, a1, c1, _, by omega, by go_num, rfl, o1, by omega, ?_, hbel1⟩
          show _ = _
          rw [waitA_take Rs k q HQ.out, if_pos hq0, List.foldl_append, ← hwe.out]; rfl
        case measure => simp [intOf]; omega
      · have q1 : ¬ (0 : Int) < (q.1.q.length : Int) := by omega
        go_wp2
        go_roundw
        case rel =>
          rw [HR.out]
          refine ⟨k + 1, a, c, ws, by omega, by go_num, rfl, hown, by omega, ?_, hbel⟩
          show _ = _
          rw [waitA_take Rs k q HQ.out, if_neg hq0, List.append_nil]; exact hwe.out
        case measure => simp [intOf]; omega
    · have hke : k = Rs.length := by omega
      have hfin : Hid (ws = onceL (waitA (Rs.map Prod.fst))) := by
        have := hwe.out
        rw [hke, List.take_length, once_eq] at this
        exact this
      clear hwe
      go_wp2
      go_ret
      exact ⟨_, rfl, by rw [← hfin.out]; exact hown, hbel⟩
end
end Go.Proofs.Ytfmphhcdbocgnaa.Pipe
