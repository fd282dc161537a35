/-
  HEADER, the program: a field put ahead of all others.
-/
import Derived.Test.YtnogpoojhhmadaaDoorHpWrite
import Derived.Test.YtnogpoojhhmadaaDoorHdrAdd
namespace Go.Proofs.YtnogpoojhhmadaaDoor.Header
open Go.RowKit Base
set_option maxHeartbeats 8000000 in
set_option maxRecDepth 100000 in
theorem pAdd (v : Value) (d : List UInt8) (nm bd : ByteArray) (w : World) (hd : Reads w v d) (hdl : d.length ≤ 100000000000000) (hn : nm.size ≤ 500000000) (hs : bd.size ≤ 500000000) (he : Env w) : Calls Tryd.prog 18 #[v, .string nm, .string bd] w (AddEnd (writeOf nm.data.toList bd.data.toList) d w) := by
  have HW := Lib.hid (pWrite nm bd w hn hs he)
  have HD := Lib.hid hd
  have hfl := field_len nm.data.toList bd.data.toList
  rw [str_len, str_len] at hfl
  rcases write_code nm.data.toList bd.data.toList with ⟨code, hc, hc0⟩ | ⟨l, hc, hcl⟩
  · rw [hc] at HW ⊢
    have HC2 : Hid (Calls Tryd.prog 16 #[.string nm, .string bd] w fun e w' => e = .returned (.tuple #[.slice none 0 0, .int .i64 (code : Int)]) ∧ Below w.heap.size w w') := HW.out.mono fun e w' h => ⟨h.2, h.1⟩
    have j1 : ((code : Int) != 0) = true := by rw [bne_iff_ne]; omega
    clear HW hc hd hfl hc0 he
    go_enter Tryd.func18, Tryd.ntmps18
    go_wp2_with (first | (go_at_call 16; refine HC2.out.mono ?_; rintro ee w1 ⟨rfl, hb1⟩; refine Hid.out ?_) | fail)
    refine Lib.hid ?_
    have HB1 := Lib.hid hb1
    clear hb1
    go_wp2
    go_ret2
    exact ⟨HB1.out, rfl⟩
  · rw [hc] at HW ⊢
    rw [← hcl] at hfl
    have HC2 : Hid (Calls Tryd.prog 16 #[.string nm, .string bd] w fun e w' => ∃ g c, e = .returned (.tuple #[.slice (some ⟨g, 0, none⟩) l.length c, .int .i64 0]) ∧ w.heap.size ≤ g ∧ BytesAt w' g c l ∧ (∃ cs : Array Value, w'.heap[g]? = some (.cells cs 5 (c, c + 1)) ∧ cs.size = c) ∧ Below w.heap.size w w') := HW.out.mono fun e w' h => by
      obtain ⟨h1, g, c, h2, h3, h4, h5⟩ := h
      exact ⟨g, c, h2, h3, h4, h5, h1⟩
    clear HW hc hd hcl he
    go_enter Tryd.func18, Tryd.ntmps18
    go_wp2_with (first | (go_at_call 16; refine HC2.out.mono ?_; rintro ee w1 ⟨g, c, rfl, hg, hat, ⟨cs, h1, h2⟩, hb1⟩; refine Hid.out ?_) | fail)
    refine Lib.hid ?_
    have HB1 := Lib.hid hb1
    have HAT := Lib.hid hat
    have HG := Lib.hid hg
    have HH := Lib.hid h1
    have HH2 := Lib.hid h2
    clear hb1 hat hg h1 h2
    go_wp2_with (at_builtin; go_must (refine wp_append_conv rfl _ _ rfl (B := w.heap.size) rfl rfl HH.out HH2.out HAT.out (HD.out.on HB1.out) (by omega) HG.out HB1.out.size ?_); intro v2 w2 rd2 b2 sf2; refine Hid.out ?_)
    refine Lib.hid ?_
    have HR2 := Lib.hid rd2
    have HS2 := Lib.hid sf2
    have HB2 : Hid (Below w.heap.size w w2) := HB1.out.trans b2
    clear rd2 b2 sf2
    go_wp2
    go_ret2
    exact ⟨HB2.out, _, rfl, HR2.out, HS2.out⟩
end Go.Proofs.YtnogpoojhhmadaaDoor.Header
