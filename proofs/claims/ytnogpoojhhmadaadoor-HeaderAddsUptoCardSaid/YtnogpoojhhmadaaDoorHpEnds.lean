/-
  HEADER, the program: how many bytes a line has; where the fields end.
-/
import Derived.Test.YtnogpoojhhmadaaDoorHpLib
namespace Go.Proofs.YtnogpoojhhmadaaDoor.Header
open Go.RowKit Base
def SizeEnd (l : List UInt8) (w : World) (e : Ending) (w' : World) : Prop := e = .returned (.int .i64 ((lineL l).2 : Int)) ∧ Below w.heap.size w w'
set_option maxHeartbeats 4000000 in
set_option maxRecDepth 100000 in
theorem pLsz (A : Option Addr) (n c : Nat) (l : List UInt8) (w : World) (hr : Reads w (.slice A n c) l) (hl : l.length ≤ 4000000000) (he : Env w) : Calls Tryd.prog 41 #[.slice A n c] w (SizeEnd l w) := by
  have hn := (reads_len hr).1
  subst hn
  have hb := Below.alloc1 w crlfO
  have hcv := conv_crlf w
  have HB := Lib.hid hb
  have HI := Lib.hid (pIndex (hr.on hb) (crlf_reads w) (by simp) hl (by simp) (he.on hb))
  rcases index_line l with ⟨h1, h2⟩ | ⟨i, h1, h2, h3⟩
  · rw [h1] at HI
    have HE : Hid (lineL l = (l.length, l.length)) := h2
    clear h1 h2 hr he hb
    go_enter Tryd.func41, Tryd.ntmps41
    go_wp2_with (first | (go_at_call 62; refine HI.out.mono ?_; rintro e w1 ⟨rfl, hb1⟩; refine Hid.out ?_) | fail)
    refine Lib.hid ?_
    go_wp2
    go_ret
    exact ⟨by rw [HE.out]; rfl, HB.out.trans (hb1.mono HB.out.size)⟩
  · rw [h1] at HI
    have HE : Hid (lineL l = (i, i + 2)) := h2
    have i0 : (0 : Int) ≤ (i : Int) := by omega
    clear h1 h2 hr he hb
    go_enter Tryd.func41, Tryd.ntmps41
    go_wp2_with (first | (go_at_call 62; refine HI.out.mono ?_; rintro e w1 ⟨rfl, hb1⟩; refine Hid.out ?_) | fail)
    refine Lib.hid ?_
    go_wp2
    go_ret
    exact ⟨by rw [HE.out]; first | rfl | (congr 2; go_num), HB.out.trans (hb1.mono HB.out.size)⟩
end Go.Proofs.YtnogpoojhhmadaaDoor.Header
