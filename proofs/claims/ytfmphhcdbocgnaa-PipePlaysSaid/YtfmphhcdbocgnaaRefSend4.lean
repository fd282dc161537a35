/-
  The document's Send: what is refused.
-/
import Derived.Test.YtfmphhcdbocgnaaRefSend
namespace Go.Proofs.Ytfmphhcdbocgnaa.Pipe
open Go.RowKit Base
section
variable {own : Nat → Tag} {w : World} {g : Nat} {rv : Value} {Rs : List (PA × RG)} {f t : ByteArray}
theorem rSendNo (h : RHolds own w g rv Rs) (f t : ByteArray) (hno : ∀ q ∈ Rs, ¬ (q.1.f = f ∧ q.1.t = t)) (hn : Rs.length ≤ 1000000) (v : Value) :
    Calls Try.prog 16 #[.pointer (some ⟨g, 0, none⟩), .string f, .string t, v] w (AnsEnd 52 w) := by
  have HPL := Lib.hid (cPlaceNo h f t hno hn)
  clear h hno
  go_enter Try.func16, Try.ntmps16
  go_wp2_with (go_at_call 30; refine HPL.out.mono ?_; rintro e w1 ⟨rfl, rfl⟩)
  go_ret
  exact ⟨rfl, Below.refl _ _⟩
theorem rSendLong (h : RHolds own w g rv Rs) (hk : KeysApart (Rs.map Prod.fst)) (hn : Rs.length ≤ 1000000) {i : Nat} {p : PA × RG} (hp : Rs[i]? = some p) {v : Value} {l : List UInt8} (hr : Reads w v l) (hl : 65536 < l.length) :
    Calls Try.prog 16 #[.pointer (some ⟨g, 0, none⟩), .string p.1.f, .string p.1.t, v] w (AnsEnd 53 w) := by
  have HPL := Lib.hid (cPlace h hp (apart_first hk hp) hn)
  obtain ⟨va, vc, hv⟩ := hr.form
  subst hv
  have h0 : (0 : Int) ≤ (i : Int) := by omega
  have h1 : (65536 : Int) < (l.length : Int) := by omega
  clear h hk hp hr
  go_enter Try.func16, Try.ntmps16
  go_wp2_with (go_at_call 30; refine HPL.out.mono ?_; rintro e w1 ⟨rfl, rfl⟩)
  go_ret
  exact ⟨rfl, Below.refl _ _⟩
theorem rSendFull (h : RHolds own w g rv Rs) (hk : KeysApart (Rs.map Prod.fst)) (hn : Rs.length ≤ 1000000) {i : Nat} {p : PA × RG} (hp : Rs[i]? = some p) {v : Value} {l : List UInt8} (hr : Reads w v l) (hl : l.length ≤ 65536) (_ : p.1.most ≤ 64) (hroom : p.1.most ≤ p.1.q.length) :
    Calls Try.prog 16 #[.pointer (some ⟨g, 0, none⟩), .string p.1.f, .string p.1.t, v] w (AnsEnd 51 w) := by
  have HPL := Lib.hid (cPlace h hp (apart_first hk hp) hn)
  obtain ⟨hc, _⟩ := h.cell
  obtain ⟨rb, c, hrv, hil, hlc, d0, d1, d2, d3, _⟩ := h.at hp
  obtain ⟨la, lc, hlv, _⟩ := row_form (h.pipes i p hp).row
  subst hrv
  rw [hlv] at d3
  obtain ⟨va, vc, hv⟩ := hr.form
  subst hv
  have h0 : (0 : Int) ≤ (i : Int) := by omega
  have h1 : (i : Int) < (Rs.length : Int) := by omega
  have h2 : (l.length : Int) ≤ 65536 := by omega
  have h3 : (p.1.most : Int) ≤ (p.1.q.length : Int) := by omega
  clear h hk hp hr hlv
  go_enter Try.func16, Try.ntmps16
  go_wp2_with (go_at_call 30; refine HPL.out.mono ?_; rintro e w1 ⟨rfl, rfl⟩)
  go_quiet (fail)
  go_wp2
  go_ret
  exact ⟨rfl, below_drewN _ _ _⟩
end
end Go.Proofs.Ytfmphhcdbocgnaa.Pipe
