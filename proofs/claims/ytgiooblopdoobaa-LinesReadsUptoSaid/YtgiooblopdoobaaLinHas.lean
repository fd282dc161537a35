/-
  LINES, the given answers: has a line a byte?
-/
import Derived.Test.YtgiooblopdoobaaStrBase
namespace Go.Proofs.Ytgiooblopdoobaa.Lines
open Go.RowKit Base
theorem any_take {l : List UInt8} {k : Nat} (h : k < l.length) (p : UInt8 → Bool) : (l.take (k + 1)).any p = ((l.take k).any p || p (l.getD k 0)) := by
  rw [List.take_succ_eq_append_getElem h, List.any_append]
  simp [List.getD, List.getElem?_eq_getElem h]
theorem any_at {l : List UInt8} {k : Nat} (h : k < l.length) (p : UInt8 → Bool) (hp : p (l.getD k 0) = true) : l.any p = true := by
  rw [List.any_eq_true]
  refine ⟨l[k], List.getElem_mem h, ?_⟩
  simpa [List.getD, List.getElem?_eq_getElem h] using hp
def hasB (d : UInt8) (l : List UInt8) : Bool := l.any (fun c => decide (c.toNat = d.toNat))
set_option maxHeartbeats 1600000 in
set_option maxRecDepth 100000 in
theorem rHasA (b o cap : Nat) (l : List UInt8) (d : UInt8) (w : World) (hl : l.length ≤ 200000000000000)
    (hc : ∀ i, i < l.length → w.cell? ⟨b, o + i, none⟩ = some (.int .u8 ((l.getD i 0).toNat : Int))) :
    Calls Try.prog 26 #[.slice (some ⟨b, o, none⟩) l.length cap, .int .u8 (d.toNat : Int)] w (AskEnd (hasB d l) w) := by
  obtain ⟨out, hout⟩ : ∃ out, out = hasB d l := ⟨_, rfl⟩
  have HO := Lib.hid hout
  rw [← hout]
  clear hout
  obtain ⟨dn, hdn⟩ : ∃ dn, dn = d.toNat := ⟨_, rfl⟩
  have hdb : dn ≤ 255 := by rw [hdn]; have := d.toNat_lt; omega
  have HD := Lib.hid hdn
  rw [← hdn]
  clear hdn
  go_enter Try.func26, Try.ntmps26
  go_wp2
  go_loop [5] (fun i => ∃ k : Nat, k ≤ l.length ∧ i = .int .i64 k ∧ Hid (hasB d (l.take k) = false)) (fun i => l.length - (intOf i).toNat)
  case atStart => exact ⟨0, by omega, rfl, rfl⟩
  case round =>
    obtain ⟨k, hk, rfl, hn⟩ := hrel
    by_cases hlt : k < l.length
    · have hcell := hc k hlt
      obtain ⟨c, hce⟩ : ∃ c : Nat, c = (l.getD k 0).toNat := ⟨_, rfl⟩
      rw [← hce] at hcell
      have hcb : c ≤ 255 := by rw [hce]; have := (l.getD k 0).toNat_lt; omega
      by_cases heq : c = dn
      · have HT : Hid (out = true) := by
          show _ = _
          rw [HO.out, hasB, any_at hlt]; rw [← hce, heq, HD.out]; simp
        clear hc hce hn
        subst heq
        go_wp2
        go_ret
        exact ⟨ret_bool HT.out.symm, rfl⟩
      · have j1 : ¬ (c : Int) = (dn : Int) := by omega
        have HN : Hid (hasB d (l.take (k + 1)) = false) := by
          show _ = _
          have := hn.out
          unfold hasB at this ⊢
          rw [any_take hlt, this, Bool.false_or, ← hce, ← HD.out]; simp [heq]
        clear hc hce hn heq
        go_wp2
        go_round
        case rel => exact ⟨k + 1, by omega, by go_num, HN⟩
        case measure => simp [intOf]; omega
    · have HF : Hid (out = false) := by
        show _ = _
        have := hn.out
        rw [List.take_of_length_le (by omega)] at this
        rw [HO.out, this]
      clear hc hn
      go_wp2
      go_ret
      exact ⟨ret_bool HF.out.symm, rfl⟩
set_option maxHeartbeats 400000 in
theorem rHas {v : Value} {l : List UInt8} {w : World} (hr : Reads w v l) (d : UInt8) (hl : l.length ≤ 200000000000000) : Calls Try.prog 26 #[v, .int .u8 (d.toNat : Int)] w (AskEnd (hasB d l) w) := by
  rcases hr with ⟨rfl, a, c, rfl, _⟩ | ⟨b, o, c, rfl, _, hcell⟩
  · go_enter Try.func26, Try.ntmps26
    go_wp2
    go_loop [5] (fun i => i = .int .i64 0) (fun _ => 0)
    case atStart => rfl
    case round =>
      obtain rfl := hrel
      go_wp2
      go_ret
      exact ⟨rfl, rfl⟩
  · exact rHasA b o c l d w hl hcell
end Go.Proofs.Ytgiooblopdoobaa.Lines
