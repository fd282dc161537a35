/-
  HEADER, the statements' own: the document's examples.
-/
import Derived.Test.YtnogpoojhhmadaaDoorHpAdd
import Derived.Test.YtnogpoojhhmadaaDoorHpUnf
import Derived.Test.YtnogpoojhhmadaaDoorHpSplit
import Derived.Test.YtnogpoojhhmadaaDoorHpHops
namespace Go.Proofs.YtnogpoojhhmadaaDoor.Header
open Go.RowKit Base
abbrev litA : List UInt8 := [65, 58, 32, 120, 13, 10, 32, 121, 13, 10, 82, 101, 99, 101, 105, 118, 101, 100, 58, 122, 13, 10, 13, 10, 66, 58, 32, 119, 13, 10]
abbrev litB : List UInt8 := [110, 111, 32, 102, 105, 101, 108, 100, 13, 10]
abbrev fA : Fld := ⟨[65], [32, 120, 13, 10, 32, 121], 0, 10⟩
abbrev fR : Fld := ⟨[82, 101, 99, 101, 105, 118, 101, 100], [122], 10, 22⟩
set_option maxRecDepth 100000 in
theorem shown_a : splitOf litA = ([fA, fR], 24) := by kernel_rfl
set_option maxRecDepth 100000 in
theorem shown_b : splitOf litB = ([], 0) := by kernel_rfl
set_option maxRecDepth 100000 in
theorem shown_w : writeOf [84, 111] [97, 32, 32, 98] = .inr [84, 111, 58, 32, 97, 32, 98, 13, 10] := by kernel_rfl
theorem shown_x : writeOf [84, 32, 111] [] = .inl 110 := by kernel_rfl
theorem shown_u : unfoldOf [32, 120, 13, 10, 32, 121] = [120, 32, 121] := by
  have : dropCr [32, 120, 13, 10, 32, 121] = [32, 120, 32, 121] := by simp [dropCr, isBl]
  unfold unfoldOf
  rw [this]
  rfl
theorem shown_h : hopsF [fA, fR] = 1 := by kernel_rfl
theorem pSplitYes {v : Value} {l : List UInt8} {w : World} {T : List Fld} {b : Nat} (hr : Reads w v l) (hl : l.length ≤ 4000000000) (he : Env w) (hs : splitOf l = (T, b)) (hc : codeF T = 0) :
    Calls Tryd.prog 9 #[v] w fun e w' => ∃ a c, e = .returned (.tuple #[.slice a T.length c, .int .i64 (b : Int), .int .i64 0]) ∧ FReads w' (.slice a T.length c) T ∧ Below w.heap.size w w' := by
  refine (pSplit v l w hr hl he).mono fun e w' h => ?_
  obtain ⟨h1, h2⟩ := h
  rw [hs] at h2
  rcases h2 with ⟨_, u, h3, h4⟩ | ⟨h3, _⟩
  · obtain ⟨a, c, rfl⟩ := h4.form
    exact ⟨a, c, h3, h4, h1⟩
  · exact absurd hc h3
theorem conv_lit (w : World) (C : Array Value) (n : Nat) : (convert 22 22 (.slice (some ⟨w.heap.size, 0, none⟩) n n)).run Tryd.prog (w.alloc (.cells C 5)) = .ok (.slice (some ⟨w.heap.size, 0, none⟩) n n) (w.alloc (.cells C 5 (C.size, C.size + 1))) :=
  Lib.run_convert_bytes_const (P := Tryd.prog) w 22 5 C n n Tryd.underlying22 Tryd.underlying5
abbrev cellsA : Array Value := #[.int .u8 65, .int .u8 58, .int .u8 32, .int .u8 120, .int .u8 13, .int .u8 10, .int .u8 32, .int .u8 121, .int .u8 13, .int .u8 10, .int .u8 82, .int .u8 101, .int .u8 99, .int .u8 101, .int .u8 105, .int .u8 118, .int .u8 101, .int .u8 100, .int .u8 58, .int .u8 122, .int .u8 13, .int .u8 10, .int .u8 13, .int .u8 10, .int .u8 66, .int .u8 58, .int .u8 32, .int .u8 119, .int .u8 13, .int .u8 10]
abbrev cellsB : Array Value := #[.int .u8 110, .int .u8 111, .int .u8 32, .int .u8 102, .int .u8 105, .int .u8 101, .int .u8 108, .int .u8 100, .int .u8 13, .int .u8 10]
set_option maxHeartbeats 8000000 in
set_option maxRecDepth 100000 in
theorem pShown (w : World) (he : Env w) : Calls Tryd.prog 7 #[] w fun e w' => e = .returned (.bool true) ∧ Below w.heap.size w w' := by
  obtain ⟨wA, hwA⟩ : ∃ wA, wA = w.alloc (.cells cellsA 5 (30, 31)) := ⟨_, rfl⟩
  have hcA : (convert 22 22 (.slice (some ⟨w.heap.size, 0, none⟩) 30 30)).run Tryd.prog (w.alloc (.cells cellsA 5)) = .ok (.slice (some ⟨w.heap.size, 0, none⟩) 30 30) wA := by rw [hwA]; exact conv_lit w cellsA 30
  have hbA : Below w.heap.size w wA := by rw [hwA]; exact Below.alloc1 _ _
  have hrA : Reads wA (.slice (some ⟨w.heap.size, 0, none⟩) 30 30) litA := by rw [hwA]; exact reads_lit w 5 cellsA litA 30 rfl rfl (30, 31)
  have HS1 := Lib.hid (pSplitYes hrA (by decide) (he.on hbA) shown_a (by decide))
  have HV : Hid (∀ w1, Below w.heap.size w w1 → Env w1) := fun w1 h => he.on h
  have HBA := Lib.hid hbA
  clear hwA hbA hrA he
  go_enter Tryd.func7, Tryd.ntmps7
  go_wp2_with (first | (go_at_call 9; refine HS1.out.mono ?_; rintro e w1 ⟨a1, c1, rfl, hf1, hb1⟩; refine Hid.out ?_) | fail)
  refine Lib.hid ?_
  have HF1 := Lib.hid hf1
  have HB1 : Hid (Below w.heap.size w w1) := HBA.out.trans (hb1.mono HBA.out.size)
  clear hf1 hb1 HS1 hcA HBA
  obtain ⟨wB, hwB⟩ : ∃ wB, wB = w1.alloc (.cells cellsB 5 (10, 11)) := ⟨_, rfl⟩
  have hcB : (convert 22 22 (.slice (some ⟨w1.heap.size, 0, none⟩) 10 10)).run Tryd.prog (w1.alloc (.cells cellsB 5)) = .ok (.slice (some ⟨w1.heap.size, 0, none⟩) 10 10) wB := by rw [hwB]; exact conv_lit w1 cellsB 10
  have hbB : Below w1.heap.size w1 wB := by rw [hwB]; exact Below.alloc1 _ _
  have hrB : Reads wB (.slice (some ⟨w1.heap.size, 0, none⟩) 10 10) litB := by rw [hwB]; exact reads_lit w1 5 cellsB litB 10 rfl rfl (10, 11)
  have HBB : Hid (Below w.heap.size w wB) := HB1.out.trans (hbB.mono HB1.out.size)
  have HS2 := Lib.hid (pSplitYes hrB (by decide) (HV.out _ HBB.out) shown_b (by decide))
  have HFB := Lib.hid (HF1.out.on hbB)
  clear hwB hbB hrB HF1 HB1
  go_wp2_with (first | (go_at_call 9; refine HS2.out.mono ?_; rintro e w2 ⟨a2, c2, rfl, hf2, hb2⟩; refine Hid.out ?_) | fail)
  refine Lib.hid ?_
  have HF2 := Lib.hid (HFB.out.on hb2)
  have HB2 : Hid (Below w.heap.size w w2) := HBB.out.trans (hb2.mono HBB.out.size)
  clear hf2 hb2 HS2 hcB HBB HFB
  have HW1 : Hid (Calls Tryd.prog 16 #[.string ⟨#[84, 111]⟩, .string ⟨#[97, 32, 32, 98]⟩] w2 (WriteEnd (.inr [84, 111, 58, 32, 97, 32, 98, 13, 10]) w2)) := by
    have := pWrite ⟨#[84, 111]⟩ ⟨#[97, 32, 32, 98]⟩ w2 (by decide) (by decide) (HV.out _ HB2.out)
    rw [show writeOf (⟨#[84, 111]⟩ : ByteArray).data.toList (⟨#[97, 32, 32, 98]⟩ : ByteArray).data.toList = _ from shown_w] at this
    exact this
  go_wp2_with (first | (go_at_call 16; refine HW1.out.mono ?_; rintro e w3 ⟨hb3, g, cg, rfl, hg, hat, _⟩; refine Hid.out ?_) | fail)
  refine Lib.hid ?_
  have HF3 := Lib.hid (HF2.out.on hb3)
  have HB3 : Hid (Below w.heap.size w w3) := HB2.out.trans (hb3.mono HB2.out.size)
  have HR3 : Hid (Reads w3 (.slice (some ⟨g, 0, none⟩) 9 cg) [84, 111, 58, 32, 97, 32, 98, 13, 10]) := hat.reads rfl
  clear hb3 hg hat HW1 HF2 HB2
  have HW2 : Hid (Calls Tryd.prog 16 #[.string ⟨#[84, 32, 111]⟩, .string ⟨#[]⟩] w3 (WriteEnd (.inl 110) w3)) := by
    have := pWrite ⟨#[84, 32, 111]⟩ ⟨#[]⟩ w3 (by decide) (by decide) (HV.out _ HB3.out)
    rw [show writeOf (⟨#[84, 32, 111]⟩ : ByteArray).data.toList (⟨#[]⟩ : ByteArray).data.toList = _ from shown_x] at this
    exact this
  go_wp2_with (first | (go_at_call 16; refine HW2.out.mono ?_; rintro e w4 ⟨hb4, rfl⟩; refine Hid.out ?_) | fail)
  refine Lib.hid ?_
  have HF4 := Lib.hid (HF3.out.on hb4)
  have HB4 : Hid (Below w.heap.size w w4) := HB3.out.trans (hb4.mono HB3.out.size)
  have HR4 := Lib.hid (HR3.out.on hb4)
  clear hb4 HW2 HF3 HB3 HR3
  have HUN : Hid (Calls Tryd.prog 19 #[S [32, 120, 13, 10, 32, 121]] w4 fun e w' => e = .returned (S [120, 32, 121]) ∧ Below w4.heap.size w4 w') := by
    have := pUnfold ⟨#[32, 120, 13, 10, 32, 121]⟩ w4 (by decide) (HV.out _ HB4.out)
    rw [show unfoldOf (⟨#[32, 120, 13, 10, 32, 121]⟩ : ByteArray).data.toList = _ from shown_u] at this
    exact this
  obtain ⟨b1, o1, hA1, p0, p1, p2, p3⟩ := HF4.out.cell (i := 0) (p := fA) rfl
  subst hA1
  have q1 : w4.cell? ⟨b1, o1 + 1, none⟩ = some (S [32, 120, 13, 10, 32, 121]) := p1
  clear p0 p1 p2 p3
  go_wp2_with (first | (go_at_call 19; refine HUN.out.mono ?_; rintro e w5 ⟨rfl, hb5⟩; refine Hid.out ?_) | fail)
  refine Lib.hid ?_
  have HF5 := Lib.hid (HF4.out.on hb5)
  have HB5 : Hid (Below w.heap.size w w5) := HB4.out.trans (hb5.mono HB4.out.size)
  have HR5 := Lib.hid (HR4.out.on hb5)
  clear hb5 HUN HF4 HB4 HR4 q1
  have HHO : Hid (Calls Tryd.prog 13 #[.slice (some ⟨b1, o1, none⟩) 2 c1] w5 fun e w' => e = .returned (.int .i64 1) ∧ Below w5.heap.size w5 w') := pHops _ _ w5 HF5.out (by decide) (by decide)
  obtain ⟨b2, o2, hA2, p0, p1, p2, p3⟩ := HF5.out.cell (i := 0) (p := fA) rfl
  cases hA2
  have q0 : w5.cell? ⟨b1, o1, none⟩ = some (S [65]) := p0
  have q1 : w5.cell? ⟨b1, o1 + 1, none⟩ = some (S [32, 120, 13, 10, 32, 121]) := p1
  have q2 : w5.cell? ⟨b1, o1 + 2, none⟩ = some (.int .i64 0) := p2
  have q3 : w5.cell? ⟨b1, o1 + 3, none⟩ = some (.int .i64 10) := p3
  have hcv := conv_reads HR5.out
  clear p0 p1 p2 p3
  go_wp2_with (first | (go_at_call 13; refine HHO.out.mono ?_; rintro e w6 ⟨rfl, hb6⟩; refine Hid.out ?_) | fail)
  refine Lib.hid ?_
  have HB6 : Hid (Below w.heap.size w w6) := HB5.out.trans (hb6.mono HB5.out.size)
  clear hb6
  go_wp2
  go_ret
  exact ⟨rfl, HB6.out⟩
end Go.Proofs.YtnogpoojhhmadaaDoor.Header
