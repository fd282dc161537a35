/-
  RECORD: what was decoded reads as its message.
-/
import Derived.Test.YthoeicidilnleaaDoorRecordBackP
import Derived.Test.YthoeicidilnleaaDoorRecordSame
import Derived.Test.YthoeicidilnleaaDoorRecordShown
namespace Go.Proofs.YthoeicidilnleaaDoor.Codec
open Go.RowKit

theorem Got.mr {w : World} {B : Nat} {V : Value} {m : Msg} (h : Got w B V m) : MR w V m := by
  obtain ⟨RV, b, cap, S, rfl, hr, hd, hc, hb, _⟩ := h
  obtain ⟨A, q, rfl⟩ := hr.form'
  have hs : S.size = m.data.length := by rw [← hd, Array.length_toList]; rfl
  refine ⟨A, q, some ⟨b, 0, none⟩, cap, by rw [hs]; rfl, hr.rr, Or.inr ⟨b, 0, cap, rfl, by omega, fun i hi => ?_⟩⟩
  have hi2 : i < S.data.size := by rw [← hs] at hi; exact hi
  unfold World.cell?
  rw [hb]
  show (bytesRow S cap)[0 + i]? = _
  rw [Nat.zero_add, bytesRow, Array.getElem?_append_left (by simpa using hi2)]
  rw [Array.getElem?_map, Array.getElem?_eq_getElem hi2, ← hd]
  simp [List.getD_eq_getElem?_getD, Array.getElem?_eq_getElem hi2]
theorem Got.on {w w' : World} {B : Nat} {V : Value} {m : Msg} (h : Got w B V m) (hb : Below w.heap.size w w') : Got w' B V m := by
  obtain ⟨RV, b, cap, S, h1, h2, h3, h4, h5, h6⟩ := h
  exact ⟨RV, b, cap, S, h1, h2.on hb, h3, h4, by rw [hb.block b (heap_lt h5)]; exact h5, h6⟩
theorem heap_setCell_any (w : World) (g i : Nat) (cs : Array Value) (t : TypeId) (fz : Nat × Nat) (v : Value) (hg : w.heap[g]? = some (.cells cs t fz)) :
    (w.setCell ⟨g, i, none⟩ v).heap[g]? = some (.cells (cs.setIfInBounds i v) t fz) := by
  simp [World.setCell, Array.getElem?_modify, hg]
theorem BoxAt.set {w : World} {H g : Nat} {t : Int} {s : ByteArray} {V D : Value} (h : BoxAt w H t s V D) (hne : H ≠ g) (i : Nat) (u : Value) : BoxAt (w.setCell ⟨g, i, none⟩ u) H t s V D := by
  have e := Below.heap_setCell w ⟨g, i, none⟩ u H hne
  unfold BoxAt World.cell? at *
  dsimp only at *
  rw [e]; exact h

set_option maxHeartbeats 1000000 in
set_option maxRecDepth 100000 in
theorem cSpoil (V : Value) (m : Msg) (B : Nat) (w : World) (hB : B ≤ w.heap.size) (hf : Fits m) (h : Got w B V m) :
    Calls Tryd.prog 18 #[V] w fun e w' => (∃ r, e = .returned r) ∧ Below B w w' := by
  obtain ⟨f1, f2, _⟩ := hf
  obtain ⟨RV, b, cap, S, rfl, hr, hd, hc, hb, hBb⟩ := h
  obtain ⟨A, q, rfl⟩ := hr.form'
  have hs : S.size = m.data.length := by rw [← hd, Array.length_toList]; rfl
  obtain ⟨w0, hw0⟩ : ∃ w0, w0 = w.alloc (.cells #[.int .i64 m.time, .string m.sender, .slice A m.rcpts.length q, .slice (some ⟨b, 0, none⟩) S.size cap] 25) := ⟨_, rfl⟩
  have hb0 : Below w.heap.size w w0 := by rw [hw0]; exact Below.alloc1 _ _
  have bm0 : Hid (BoxAt w0 w.heap.size m.time m.sender (.slice A m.rcpts.length q) (.slice (some ⟨b, 0, none⟩) S.size cap)) := by unfold Hid; rw [hw0]; exact BoxAt.new ..
  have hg0 := flatR_len m.rcpts
  have R0 := Lib.hid (hr.on hb0)
  have hG : 0 < m.rcpts.length → ∃ g, A = some ⟨g, 0, none⟩ ∧ B ≤ g ∧ g < w.heap.size := fun h0 => by
    rcases hr.2 with ⟨_, hn⟩ | ⟨g, c', cur, he, h1, h2, _⟩
    · omega
    · simp only [Value.slice.injEq, true_and] at he
      exact ⟨g, he.1, h1, heap_lt h2⟩
  have hbw := heap_lt hb
  have HG := Lib.hid hG
  have HB0 := Lib.hid (show w0.heap[b]? = some _ by rw [hb0.block b (heap_lt hb)]; exact hb)
  have Q0 := Lib.hid (hb0.mono hB)
  have HW := Lib.hid hw0
  generalize flatR m.rcpts = xs at *
  generalize m.rcpts.length = n at *
  have hsz : S.size ≤ (bytesRow S cap).size := by unfold bytesRow; simp
  have hdb : S.size ≤ 140737488351232 := by omega
  generalize S.size = d at *
  generalize bytesRow S cap = row at *
  clear hw0 hb0 hr hd hs hG
  go_enter Tryd.func18, Tryd.ntmps18
  go_wp2_with fail
  rw [← HW.out]
  go_loopw [2] (fun i wr => ∃ k : Nat, k ≤ n ∧ i = .int .i64 k ∧ Hid (BoxAt wr w.heap.size m.time m.sender (.slice A n q) (.slice (some ⟨b, 0, none⟩) d cap)) ∧ (∃ xs, xs.length = n * 2 ∧ Hid (ORow wr B (.slice A n q) n xs)) ∧ Hid (wr.heap[b]? = some (.cells row 5 (row.size, row.size + 1))) ∧ Below B w wr) (fun i _ => n - (intOf i).toNat)
  case atStart => exact ⟨0, by omega, rfl, bm0, ⟨xs, hg0, R0⟩, HB0, Q0.out⟩
  case round =>
    obtain ⟨k, hk, rfl, hbx, ⟨ys, hys, hro⟩, hbb, hqb⟩ := hrel
    by_cases hlt : k < n
    · obtain ⟨g, rfl, hg1, hg2⟩ := HG.out (by omega)
      obtain ⟨p0, p1, p2, p3⟩ := hbx.out
      have z1 := World.ownsRow.frozenAt hro.out (k * 2)
      have z2 := World.ownsRow.frozenAt hro.out (k * 2 + 1)
      obtain ⟨u1, hu1⟩ : ∃ u, wr.cell? ⟨g, k * 2, none⟩ = some u := by rw [World.ownsRow.cellAt hro.out (k * 2) (by omega)]; exact ⟨_, List.getElem?_eq_getElem (by omega)⟩
      obtain ⟨u2, hu2⟩ : ∃ u, wr.cell? ⟨g, k * 2 + 1, none⟩ = some u := by rw [World.ownsRow.cellAt hro.out (k * 2 + 1) (by omega)]; exact ⟨_, List.getElem?_eq_getElem (by omega)⟩
      have t1 := (World.ownsRow.stored hro.out (k * 2) (.string ⟨#[55, 55]⟩)).1
      have t2 := Lib.hid (World.ownsRow.stored t1 (k * 2 + 1) (.int .u8 0)).1
      have hne : b ≠ g := fun e => by
        have := ORow.apart hro.out hbb.out (by decide)
        exact this (by rw [e]; rfl)
      have X1 := Lib.hid ((hbx.out.set (g := g) (by omega) (k * 2) (.string ⟨#[55, 55]⟩)).set (g := g) (by omega) (k * 2 + 1) (.int .u8 0))
      have X2 : Hid (((wr.setCell ⟨g, k * 2, none⟩ (.string ⟨#[55, 55]⟩)).setCell ⟨g, k * 2 + 1, none⟩ (.int .u8 0)).heap[b]? = some (.cells row 5 (row.size, row.size + 1))) := by
        unfold Hid
        rw [Below.heap_setCell _ _ _ _ hne, Below.heap_setCell _ _ _ _ hne]; exact hbb.out
      have X3 : Hid (Below B w ((wr.setCell ⟨g, k * 2, none⟩ (.string ⟨#[55, 55]⟩)).setCell ⟨g, k * 2 + 1, none⟩ (.int .u8 0))) := (hqb.setCell hg1 _).setCell hg1 _
      have b0 : (0 : Int) ≤ (k : Int) := by omega
      have b1 : (k : Int) < (n : Int) := by omega
      clear t1 hne
      go_wp2_with fail
      go_roundw
      case rel => exact ⟨k + 1, by omega, by go_num, X1, ⟨_, by simp [hys], t2⟩, X2, X3.out⟩
      case measure => simp [intOf]; omega
    · obtain rfl : k = n := by omega
      clear hlt
      obtain ⟨p0, p1, p2, p3⟩ := hbx.out
      have Q1 := Lib.hid hqb
      clear hqb
      go_wp2_with fail
      go_loopw [3] (fun i wx => ∃ j : Nat, j ≤ d ∧ i = .int .i64 j ∧ Hid (BoxAt wx w.heap.size m.time m.sender (.slice A k q) (.slice (some ⟨b, 0, none⟩) d cap)) ∧ (∃ cs : Array Value, cs.size = row.size ∧ Hid (wx.heap[b]? = some (.cells cs 5 (row.size, row.size + 1)))) ∧ Below B w wx) (fun i _ => d - (intOf i).toNat)
      case atStart => exact ⟨0, by omega, rfl, hbx, ⟨row, rfl, hbb⟩, Q1.out⟩
      case round =>
        clear p0 p1 p2 p3
        obtain ⟨j, hj, rfl, hbx2, ⟨cs, hcs, hbb2⟩, hqb⟩ := hrel
        by_cases hlt : j < d
        · obtain ⟨p0, p1, p2, p3⟩ := hbx2.out
          have hjc : j < cs.size := by omega
          obtain ⟨u1, hu1⟩ : ∃ u, wr.cell? ⟨b, j, none⟩ = some u := by
            rw [cell_of_row _ b j _ _ _ hbb2.out]; exact ⟨_, Array.getElem?_eq_getElem hjc⟩
          have z1 : wr.frozen? ⟨b, j, none⟩ = false := by
            simp [World.frozen?, hbb2.out]; omega
          have X1 := Lib.hid (hbx2.out.set (g := b) (by omega) j (.int .u8 77))
          have X2 : Hid ((wr.setCell ⟨b, j, none⟩ (.int .u8 77)).heap[b]? = some (.cells (cs.setIfInBounds j (.int .u8 77)) 5 (row.size, row.size + 1))) := heap_setCell_any wr b j _ _ _ _ hbb2.out
          have X3 : Hid (Below B w (wr.setCell ⟨b, j, none⟩ (.int .u8 77))) := hqb.setCell hBb _
          have b0 : (0 : Int) ≤ (j : Int) := by omega
          have b1 : (j : Int) < (d : Int) := by omega
          clear hjc
          go_wp2_with fail
          go_roundw
          case rel => exact ⟨j + 1, by omega, by go_num, X1, ⟨_, by simp [hcs], X2⟩, X3.out⟩
          case measure => simp [intOf]; omega
        · obtain rfl : j = d := by omega
          clear hlt
          obtain ⟨p0, p1, p2, p3⟩ := hbx2.out
          have Q2 := Lib.hid hqb
          clear hqb
          go_wp2
          exact bodyPost_end (results_none rfl _ _ _) rfl ⟨⟨_, rfl⟩, Q2.out⟩
end Go.Proofs.YthoeicidilnleaaDoor.Codec
