/-
  RECORD: a copy's rows are its own.
-/
import Derived.Test.YthoeicidilnleaaDoorRecordSpoil
namespace Go.Proofs.YthoeicidilnleaaDoor.Codec
open Go.RowKit

theorem ORow.mono {w : World} {B B' : Nat} {v : Value} {n : Nat} {xs : List Value} (h : ORow w B v n xs) (hB : B' ≤ B) : ORow w B' v n xs := by
  refine ⟨h.1, ?_⟩
  rcases h.2 with hn | ⟨g, cap, cur, rfl, h1, h2⟩
  · exact Or.inl hn
  · exact Or.inr ⟨g, cap, cur, rfl, by omega, h2⟩
set_option maxHeartbeats 400000 in
set_option maxRecDepth 100000 in
theorem rCopyOwn (v : Value) (m : Msg) (w : World) (hf : Fits m) (h24 : m.rcpts.length * 24 ≤ 140737488351232) (hm : MR w v m) :
    Calls Tryd.prog 8 #[v] w fun e w' => ∃ A2 q2 A4 q4, e = .returned (msgV m A2 q2 A4 q4) ∧ ORow w' w.heap.size (.slice A2 m.rcpts.length q2) m.rcpts.length (flatR m.rcpts) ∧ Owns w' w.heap.size (.slice A4 m.data.length q4) m.data ∧ Below w.heap.size w w' := by
  obtain ⟨A, c, D, e, rfl, hr, hd⟩ := hm
  unfold msgV
  obtain ⟨f1, f2, _, f4, f5, f6⟩ := hf
  have HR := Lib.hid hr
  have HD := Lib.hid hd
  have hN : Hid (m.rcpts.length = m.rcpts.length) := rfl
  generalize hn : m.rcpts.length = n at f2 h24 ⊢
  generalize hdn : m.data.length = dn at f1 HD ⊢
  have HN := Lib.hid hn
  have HDN := Lib.hid hdn
  clear hr hd f4 hn hN hdn
  go_enter Tryd.func8, Tryd.ntmps8
  go_wp2_with (at_builtin; refine wp_append_rows _ rfl (.tmp 10) (.tmp 12) rfl (w.heap.size + 1 + 1 + 1) A c m.rcpts n HN.out.symm rfl rfl (HR.out.on ?_) ?_ ?_ ?_; (exact (((Below.alloc1 _ _).alloc (by simp) _).alloc (by simp; omega) _)); (rw [HN.out]; exact h24); (simp); intro v2 w2 own2 hb2; refine Hid.out ?_)
  refine Lib.hid ?_
  have e0 : (((w.alloc (.cells #[.int .i64 m.time, .string m.sender, .slice A n c, .slice D dn e] 25)).alloc (.cells #[.int .i64 0, .string ⟨#[]⟩, .slice none 0 0, .slice none 0 0] 25)).alloc (.cells #[.int .i64 m.time, .string m.sender, .slice none 0 0, .slice none 0 0] 25)).heap[w.heap.size]? = some (.cells #[.int .i64 m.time, .string m.sender, .slice A n c, .slice D dn e] 25 (0, 0)) := by
    rw [Below.heap_alloc _ _ _ (by simp; omega), Below.heap_alloc _ _ _ (by simp)]; exact heap_alloc_new w _
  have e1 : (((w.alloc (.cells #[.int .i64 m.time, .string m.sender, .slice A n c, .slice D dn e] 25)).alloc (.cells #[.int .i64 0, .string ⟨#[]⟩, .slice none 0 0, .slice none 0 0] 25)).alloc (.cells #[.int .i64 m.time, .string m.sender, .slice none 0 0, .slice none 0 0] 25)).heap[w.heap.size + 1]? = some (.cells #[.int .i64 0, .string ⟨#[]⟩, .slice none 0 0, .slice none 0 0] 25 (0, 0)) := by
    rw [Below.heap_alloc _ _ _ (by simp)]
    have := heap_alloc_new (w.alloc (.cells #[.int .i64 m.time, .string m.sender, .slice A n c, .slice D dn e] 25)) (.cells #[.int .i64 0, .string ⟨#[]⟩, .slice none 0 0, .slice none 0 0] 25)
    simpa using this
  have e2 : (((w.alloc (.cells #[.int .i64 m.time, .string m.sender, .slice A n c, .slice D dn e] 25)).alloc (.cells #[.int .i64 0, .string ⟨#[]⟩, .slice none 0 0, .slice none 0 0] 25)).alloc (.cells #[.int .i64 m.time, .string m.sender, .slice none 0 0, .slice none 0 0] 25)).heap[w.heap.size + 1 + 1]? = some (.cells #[.int .i64 m.time, .string m.sender, .slice none 0 0, .slice none 0 0] 25 (0, 0)) := by
    have := heap_alloc_new ((w.alloc (.cells #[.int .i64 m.time, .string m.sender, .slice A n c, .slice D dn e] 25)).alloc (.cells #[.int .i64 0, .string ⟨#[]⟩, .slice none 0 0, .slice none 0 0] 25)) (.cells #[.int .i64 m.time, .string m.sender, .slice none 0 0, .slice none 0 0] 25)
    simpa using this
  have hbw : Below w.heap.size w w2 := (((Below.alloc1 _ _).alloc (by simp) _).alloc (by simp; omega) _).trans (hb2.mono (by omega))
  replace e0 := (hb2.block _ (by omega)).trans e0
  replace e1 := (hb2.block _ (by omega)).trans e1
  replace e2 := (hb2.block _ (by omega)).trans e2
  obtain ⟨A2, q2, rfl⟩ := own2.form'
  rw [HN.out] at own2
  obtain ⟨x0, x1, x2, x3, _⟩ := four_cells e0
  obtain ⟨y0, y1, y2, y3, g0, g1, g2, g3⟩ := four_cells e2
  have d2 := heap_setCell_same w2 (w.heap.size + 1 + 1) 2 _ _ (.slice A2 n q2) e2
  have d1 : (w2.setCell ⟨w.heap.size + 1 + 1, 2, none⟩ (.slice A2 n q2)).heap[w.heap.size + 1]? = _ := (Below.heap_setCell w2 ⟨w.heap.size + 1 + 1, 2, none⟩ (.slice A2 n q2) _ (by show w.heap.size + 1 ≠ w.heap.size + 1 + 1; omega)).trans e1
  have row := own2.set e2 (by decide) 2 (.slice A2 n q2)
  have bw3 := hbw.setCell (p := ⟨w.heap.size + 1 + 1, 2, none⟩) (by show w.heap.size ≤ w.heap.size + 1 + 1; omega) (.slice A2 n q2)
  have D1 := Lib.hid d1
  have D2 := Lib.hid d2
  have ROW := Lib.hid row
  have hHlt : w.heap.size + 1 + 1 < w2.heap.size := heap_lt e2
  clear e0 e1 e2 d1 d2 row own2 hb2
  rw [HN.out]
  go_wp2_with (at_builtin; refine wp_append_reads _ rfl (.tmp 16) (.tmp 18) rfl w2.heap.size (.slice none 0 0) _ [] m.data rfl rfl (owns_nil _ _) (HD.out.on bw3) (by rw [HDN.out]; simp; omega) (by simp) ?_; intro v4 w4 own4 hb4; refine Hid.out ?_)
  refine Lib.hid ?_
  rw [List.nil_append] at own4
  have hb4' : Below (w2.setCell ⟨w.heap.size + 1 + 1, 2, none⟩ (.slice A2 n q2)).heap.size (w2.setCell ⟨w.heap.size + 1 + 1, 2, none⟩ (.slice A2 n q2)) w4 := hb4.mono (by simp)
  obtain ⟨A4, q4, hv4⟩ := own4.reads.form
  rw [HDN.out] at hv4
  subst hv4
  have k1 := (hb4'.block _ (heap_lt D1.out)).trans D1.out
  have k2 := (hb4'.block _ (heap_lt D2.out)).trans D2.out
  have row4 := ROW.out.on hb4'
  have bw4 := bw3.trans (hb4'.mono bw3.size)
  clear x0 x1 x2 x3 y0 y1 y2 y3 g0 g1 g2 g3 hb4
  obtain ⟨y0, y1, y2, y3, g0, g1, g2, g3⟩ := four_cells k2
  have m2 := heap_setCell_same w4 (w.heap.size + 1 + 1) 3 _ _ (.slice A4 dn q4) k2
  have m1 : (w4.setCell ⟨w.heap.size + 1 + 1, 3, none⟩ (.slice A4 dn q4)).heap[w.heap.size + 1]? = _ := (Below.heap_setCell w4 ⟨w.heap.size + 1 + 1, 3, none⟩ (.slice A4 dn q4) _ (by show w.heap.size + 1 ≠ w.heap.size + 1 + 1; omega)).trans k1
  obtain ⟨b0, b1, b2, b3, h0, h1, h2, h3⟩ := four_cells k1
  have row5 := row4.set k2 (by decide) 3 (.slice A4 dn q4)
  have rd5 : Owns (w4.setCell ⟨w.heap.size + 1 + 1, 3, none⟩ (.slice A4 dn q4)) w2.heap.size (.slice A4 dn q4) m.data := by
    have : Owns (w4.setCell ⟨w.heap.size + 1 + 1, 3, none⟩ (.slice A4 dn q4)) w2.heap.size (.slice A4 dn q4) m.data := ownsRow_setCell_other own4 (own4.apart k2 (by decide)) _
    exact this
  have bw5 := bw4.setCell (p := ⟨w.heap.size + 1 + 1, 3, none⟩) (by show w.heap.size ≤ w.heap.size + 1 + 1; omega) (.slice A4 dn q4)
  have M1 := Lib.hid m1
  have R5 := Lib.hid row5
  have RD := Lib.hid rd5
  clear m1 m2 row5 rd5 k1 k2 row4 own4 D1 D2 ROW
  go_wp2
  have hfin := set_four M1.out (.int .i64 m.time) (.string m.sender) (.slice A2 n q2) (.slice A4 dn q4)
  obtain ⟨v0, v1, v2, v3, _⟩ := four_cells hfin
  refine bodyPost_ret (v := .agg #[.int .i64 m.time, .string m.sender, .slice A2 n q2, .slice A4 dn q4]) (by simp [results, Tryd.results8, go_sem, v0, v1, v2, v3]) rfl ⟨A2, q2, A4, q4, rfl, ?_, ?_, ?_⟩
  · have s1 := R5.out.set M1.out (by decide) 0 (.int .i64 m.time)
    have e2 := heap_setCell_same _ (w.heap.size + 1) 0 _ _ (.int .i64 m.time) M1.out
    have s2 := s1.set e2 (by decide) 1 (.string m.sender)
    have e3 := heap_setCell_same _ (w.heap.size + 1) 1 _ _ (.string m.sender) e2
    have s3 := s2.set e3 (by decide) 2 (.slice A2 n q2)
    have e4 := heap_setCell_same _ (w.heap.size + 1) 2 _ _ (.slice A2 n q2) e3
    have s4 := s3.set e4 (by decide) 3 (.slice A4 dn q4)
    exact s4.mono (by omega)
  · have ap : ∀ {wx : World}, Owns wx w2.heap.size (.slice A4 dn q4) m.data → ∀ {cs : Array Value}, wx.heap[w.heap.size + 1]? = some (.cells cs 25 (0, 0)) → ∀ i u, Owns (wx.setCell ⟨w.heap.size + 1, i, none⟩ u) w2.heap.size (.slice A4 dn q4) m.data := fun ho _ hk i u => ownsRow_setCell_other ho (ho.apart hk (by decide)) u
    have s1 := ap RD.out M1.out 0 (.int .i64 m.time)
    have e2 := heap_setCell_same _ (w.heap.size + 1) 0 _ _ (.int .i64 m.time) M1.out
    have s2 := ap s1 e2 1 (.string m.sender)
    have e3 := heap_setCell_same _ (w.heap.size + 1) 1 _ _ (.string m.sender) e2
    have s3 := ap s2 e3 2 (.slice A2 n q2)
    have e4 := heap_setCell_same _ (w.heap.size + 1) 2 _ _ (.slice A2 n q2) e3
    exact (ap s3 e4 3 (.slice A4 dn q4)).mono (by omega)
  · exact (((bw5.setCell (by show w.heap.size ≤ w.heap.size + 1; omega) _).setCell (by show w.heap.size ≤ w.heap.size + 1; omega) _).setCell (by show w.heap.size ≤ w.heap.size + 1; omega) _).setCell (by show w.heap.size ≤ w.heap.size + 1; omega) _
end Go.Proofs.YthoeicidilnleaaDoor.Codec
