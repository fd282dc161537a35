/-
  RECORD: a copy; whether two messages are the same.
-/
import Derived.Test.YthoeicidilnleaaDoorRecordRefEnc
import Derived.Test.YthoeicidilnleaaDoorRecordDec
import Derived.Laws.StructEq
namespace Go.Proofs.YthoeicidilnleaaDoor.Codec
open Go.RowKit

theorem flatR_get {rs : List Rc} : ∀ {i : Nat}, i < rs.length → (flatR rs)[i * 2]? = some (.string (rs.getD i rc0).1) ∧ (flatR rs)[i * 2 + 1]? = some (.int .u8 ((rs.getD i rc0).2.toNat : Int)) := by
  induction rs with
  | nil => intro i h; simp at h
  | cons r t ih =>
    intro i h
    have e : flatR (r :: t) = .string r.1 :: .int .u8 (r.2.toNat : Int) :: flatR t := rfl
    rw [e]
    cases i with
    | zero => exact ⟨rfl, rfl⟩
    | succ i =>
      obtain ⟨a, b⟩ := ih (i := i) (by simpa using h)
      rw [show (i + 1) * 2 = i * 2 + 1 + 1 by omega]
      exact ⟨by simpa using a, by simpa using b⟩
theorem ORow.rr {w : World} {B : Nat} {A : Option Addr} {q : Nat} {rs : List Rc} (h : ORow w B (.slice A rs.length q) rs.length (flatR rs)) : RR w A q rs := by
  rcases h.2 with ⟨hv, hn⟩ | ⟨g, cap, cur, hv, h1, h2, h3, h4, h5, h6⟩
  · exact ⟨by omega, fun h0 => by omega⟩
  · simp only [Value.slice.injEq, true_and] at hv
    obtain ⟨rfl, rfl⟩ := hv
    refine ⟨h3, fun h0 => ⟨g, 0, rfl, fun i hi => ?_⟩⟩
    obtain ⟨a, b⟩ := flatR_get hi
    have hc := fun j (hj : j < rs.length * 2) => World.ownsRow.cellAt (h : w.ownsRow B 41 2 (.slice (some ⟨g, 0, none⟩) rs.length q) rs.length (flatR rs)) j hj
    rw [Nat.zero_add]
    exact ⟨(hc (i * 2) (by omega)).trans a, (hc (i * 2 + 1) (by omega)).trans b⟩
theorem ORow.rr' {w : World} {B : Nat} {A : Option Addr} {q n : Nat} {rs : List Rc} (h : ORow w B (.slice A n q) n (flatR rs)) (hn : rs.length = n) : RR w A q rs := by
  subst hn; exact h.rr
theorem flatR_one (rs : List Rc) : ∀ u ∈ flatR rs, u.oneCell' = true := by
  intro u hu
  simp only [flatR, List.mem_flatMap] at hu
  obtain ⟨r, _, hu⟩ := hu
  simp at hu
  rcases hu with rfl | rfl <;> rfl

section
variable (w : World)
theorem run_append_rows (B : Nat) (ty : TypeId) (A : Option Addr) (c : Nat) (rs : List Rc) (hr : RR w A c rs) (hlim : rs.length * 24 ≤ 140737488351232) (hB : B ≤ w.heap.size) :
    ∃ v' w', (Builtin.append_ #[22, 22] ty #[.slice none 0 0, .slice A rs.length c]).run Tryd.prog w = .ok v' w' ∧ ORow w' B v' rs.length (flatR rs) ∧ Below B w w' := by
  obtain ⟨i0, hi, hz0, hz1, hz2⟩ := info_parts info41
  have hnil : w.ownsRow B 41 2 (.slice none 0 0) 0 [] := World.ownsRow_nil w B 41 2
  cases A with
  | none =>
    have h0 : rs = [] := by
      rcases Nat.eq_zero_or_pos rs.length with h | h
      · exact List.eq_nil_of_length_eq_zero h
      · obtain ⟨b, o, he, _⟩ := hr.2 h; cases he
    subst h0
    refine ⟨.slice none 0 0, w, ?_, hnil, Below.refl _ _⟩
    simp [Builtin.append_, run_underlying Tryd.underlying22, sizeOf, typeInfo, hi, Builtin.lenOf, Builtin.firstCells]
  | some a =>
    have hcells : ∀ j u, (flatR rs)[j]? = some u → w.cell? (a.add j) = some u := by
      intro j u hu
      have hj : j < rs.length * 2 := by
        rcases Nat.lt_or_ge j (rs.length * 2) with h | h
        · exact h
        · rw [List.getElem?_eq_none (by rw [flatR_len]; exact h)] at hu; cases hu
      obtain ⟨b, o, he, hc⟩ := hr.2 (by omega)
      cases he
      obtain ⟨x, y⟩ := hc (j / 2) (by omega)
      obtain ⟨x', y'⟩ := flatR_get (rs := rs) (i := j / 2) (by omega)
      rw [Addr.add_lit]
      rcases Nat.mod_two_eq_zero_or_one j with h | h
      · rw [show j = j / 2 * 2 by omega] at hu ⊢
        rw [x'] at hu; rw [x]; exact hu
      · rw [show j = j / 2 * 2 + 1 by omega] at hu ⊢
        rw [y'] at hu; rw [← Nat.add_assoc, y]; exact hu
    obtain ⟨v', w', h1, h2, h3, _⟩ := run_append_own_wide (P := Tryd.prog) w B 22 ty 41 i0 (.agg #[.string ⟨#[]⟩, .int .u8 0]) 2 24 Tryd.underlying22 hi hz0 hz1 hz2 rfl (by decide) (.slice none 0 0) 0 [] hnil a rs.length c (flatR rs) (flatR_len rs) hcells (flatR_one rs) (by unfold maxLen; omega) (by omega) hB
    exact ⟨v', w', h1, by unfold ORow; simpa using h2, (Below.refl B w).grown h3 hB (fun k hk => by simp [Value.ownBlock] at hk)⟩
theorem wp_append_rows {ops : Array Oper} {rest : List Oper} {o : Oper} {a : Act} {Q : Exit → Act → World → Prop} (hgd : o.guard = none) (s x : Operand)
    (ho : o.op = .call { callee := .builtin .append, args := #[s, x], argTypes := #[22, 22] })
    (B : Nat) (A : Option Addr) (c : Nat) (rs : List Rc) (n : Nat) (hn : n = rs.length) (hs : a.eval s = .slice none 0 0) (hx : a.eval x = .slice A n c) (hr : RR w A c rs) (hlim : rs.length * 24 ≤ 140737488351232) (hB : B ≤ w.heap.size)
    (h : ∀ v' w', ORow w' B v' rs.length (flatR rs) → Below B w w' → wpList Tryd.prog ops Q rest (a.put o.dst v') w') : wpList Tryd.prog ops Q (o :: rest) a w := by
  subst hn
  refine wpList_plain hgd fun K hK => ?_
  obtain ⟨v', w', hr, h2, h3⟩ := run_append_rows w B o.type A c rs hr hlim hB
  unfold Oper.wp execOp
  simp only [ho, resolve, invoke, builtin, Sem.run_bind, Sem.run_pure, Result.andThen_ok, List.map_toArray, List.map_cons, List.map_nil, hs, hx, hr]
  exact hK _ _ (h v' w' h2 h3)
end

set_option maxHeartbeats 1000000 in
set_option maxRecDepth 100000 in
theorem rSame (va vb : Value) (m : Msg) (w : World) (hf : Fits m) (ha : MR w va m) (hb : MR w vb m) :
    Calls Tryd.prog 14 #[va, vb] w fun e w' => e = .returned (.bool true) ∧ Below w.heap.size w w' := by
  obtain ⟨A, c, D, e, rfl, hr, hd⟩ := ha
  obtain ⟨A', c', D', e', rfl, hr', hd'⟩ := hb
  unfold msgV
  obtain ⟨w1, hw1⟩ : ∃ w1, w1 = (w.alloc (.cells #[.int .i64 m.time, .string m.sender, .slice A m.rcpts.length c, .slice D m.data.length e] 25)).alloc (.cells #[.int .i64 m.time, .string m.sender, .slice A' m.rcpts.length c', .slice D' m.data.length e'] 25) := ⟨_, rfl⟩
  have hb1 : Below w.heap.size w w1 := by rw [hw1]; exact (Below.alloc1 _ _).alloc (by simp) _
  have g1 := conv_reads (hd.on hb1)
  have g2 := conv_reads (hd'.on hb1)
  have HR := Lib.hid (hr.on hb1)
  have HR' := Lib.hid (hr'.on hb1)
  obtain ⟨DS, hDS⟩ : ∃ DS : ByteArray, DS = ⟨m.data.toArray⟩ := ⟨_, rfl⟩
  rw [← hDS] at g1 g2
  obtain ⟨_, f2, _, f4, f5, f6⟩ := hf
  have x2 : w1.cell? ⟨w.heap.size, 2, none⟩ = some (.slice A m.rcpts.length c) := by rw [hw1]; go_simp
  have y2 : w1.cell? ⟨w.heap.size + 1, 2, none⟩ = some (.slice A' m.rcpts.length c') := by rw [hw1]; go_simp
  generalize hn : m.rcpts.length = n at *
  have HN := Lib.hid hn
  have HW := Lib.hid hw1
  rw [hw1] at g1 g2
  clear hn hr hd hr' hd' hDS hw1 f4
  go_enter Tryd.func14, Tryd.ntmps14
  go_wp2_with fail
  go_loopw [5] (fun i wr => ∃ k N : Nat, k ≤ n ∧ i = .int .i64 k ∧ wr = w1.drewN N) (fun i _ => n - (intOf i).toNat)
  case atStart => exact ⟨0, 0, by omega, rfl, HW.out.symm⟩
  case round =>
    obtain ⟨k, N, hk, rfl, rfl⟩ := hrel
    by_cases hlt : k < n
    · obtain ⟨b, o, rfl, hcell⟩ := HR.out.2 (by rw [HN.out]; omega)
      obtain ⟨b', o', rfl, hcell'⟩ := HR'.out.2 (by rw [HN.out]; omega)
      obtain ⟨hc1, hc2⟩ := hcell k (by rw [HN.out]; omega)
      obtain ⟨hd1, hd2⟩ := hcell' k (by rw [HN.out]; omega)
      generalize m.rcpts.getD k rc0 = r at hc1 hc2 hd1 hd2
      obtain ⟨S, x⟩ := r
      dsimp only at hc1 hc2 hd1 hd2
      have b0 : (0 : Int) ≤ (k : Int) := by omega
      have b1 : (k : Int) < (n : Int) := by omega
      clear hcell hcell' g1 g2
      go_wp2_with fail
      go_quiet (fail)
      go_wp2
      go_roundw
      case rel => exact ⟨k + 1, N + _, by omega, by go_num, rfl⟩
      case measure => simp [intOf]; omega
    · obtain rfl : k = n := by omega
      clear hlt
      go_wp2
      go_ret
      exact ⟨rfl, ⟨hb1.os, hb1.tape, hb1.output, hb1.size, hb1.block⟩⟩

theorem ORow.on {w w' : World} {B : Nat} {v : Value} {n : Nat} {xs : List Value} (h : ORow w B v n xs) (hb : Below w.heap.size w w') : ORow w' B v n xs := by
  refine ⟨h.1, ?_⟩
  rcases h.2 with hn | ⟨g, cap, cur, rfl, h1, h2, h3⟩
  · exact Or.inl hn
  · exact Or.inr ⟨g, cap, cur, rfl, h1, by rw [hb.block g (heap_lt h2)]; exact h2, h3⟩
theorem ORow.form' {w : World} {B : Nat} {v : Value} {n : Nat} {xs : List Value} (h : ORow w B v n xs) : ∃ A q, v = .slice A n q := by
  rcases h.2 with ⟨rfl, rfl⟩ | ⟨g, cap, cur, rfl, _⟩
  · exact ⟨none, 0, rfl⟩
  · exact ⟨_, cap, rfl⟩
set_option maxHeartbeats 400000 in
set_option maxRecDepth 100000 in
theorem rCopy (v : Value) (m : Msg) (w : World) (hf : Fits m) (h24 : m.rcpts.length * 24 ≤ 140737488351232) (hm : MR w v m) :
    Calls Tryd.prog 8 #[v] w fun e w' => ∃ V, e = .returned V ∧ MR w' V m ∧ Below w.heap.size w w' := by
  obtain ⟨A, c, D, e, rfl, hr, hd⟩ := hm
  unfold msgV
  obtain ⟨f1, f2, _, f4, f5, f6⟩ := hf
  have HR := Lib.hid hr
  have HD := Lib.hid hd
  have hN : Hid (m.rcpts.length = m.rcpts.length) := rfl
  generalize hn : m.rcpts.length = n at f2 h24 ⊢
  generalize hdn : m.data.length = dn at f1 HD ⊢
  have HN := Lib.hid hn
  have HDN := Lib.hid hdn
  clear hr hd f4 hn hN hdn
  go_enter Tryd.func8, Tryd.ntmps8
  go_wp2_with (at_builtin; refine wp_append_rows _ rfl (.tmp 10) (.tmp 12) rfl (w.heap.size + 1 + 1 + 1) A c m.rcpts n HN.out.symm rfl rfl (HR.out.on ?_) ?_ ?_ ?_; (exact (((Below.alloc1 _ _).alloc (by simp) _).alloc (by simp; omega) _)); (rw [HN.out]; exact h24); (simp); intro v2 w2 own2 hb2; refine Hid.out ?_)
  refine Lib.hid ?_
  have e0 : (((w.alloc (.cells #[.int .i64 m.time, .string m.sender, .slice A n c, .slice D dn e] 25)).alloc (.cells #[.int .i64 0, .string ⟨#[]⟩, .slice none 0 0, .slice none 0 0] 25)).alloc (.cells #[.int .i64 m.time, .string m.sender, .slice none 0 0, .slice none 0 0] 25)).heap[w.heap.size]? = some (.cells #[.int .i64 m.time, .string m.sender, .slice A n c, .slice D dn e] 25 (0, 0)) := by
    rw [Below.heap_alloc _ _ _ (by simp; omega), Below.heap_alloc _ _ _ (by simp)]; exact heap_alloc_new w _
  have e1 : (((w.alloc (.cells #[.int .i64 m.time, .string m.sender, .slice A n c, .slice D dn e] 25)).alloc (.cells #[.int .i64 0, .string ⟨#[]⟩, .slice none 0 0, .slice none 0 0] 25)).alloc (.cells #[.int .i64 m.time, .string m.sender, .slice none 0 0, .slice none 0 0] 25)).heap[w.heap.size + 1]? = some (.cells #[.int .i64 0, .string ⟨#[]⟩, .slice none 0 0, .slice none 0 0] 25 (0, 0)) := by
    rw [Below.heap_alloc _ _ _ (by simp)]
    have := heap_alloc_new (w.alloc (.cells #[.int .i64 m.time, .string m.sender, .slice A n c, .slice D dn e] 25)) (.cells #[.int .i64 0, .string ⟨#[]⟩, .slice none 0 0, .slice none 0 0] 25)
    simpa using this
  have e2 : (((w.alloc (.cells #[.int .i64 m.time, .string m.sender, .slice A n c, .slice D dn e] 25)).alloc (.cells #[.int .i64 0, .string ⟨#[]⟩, .slice none 0 0, .slice none 0 0] 25)).alloc (.cells #[.int .i64 m.time, .string m.sender, .slice none 0 0, .slice none 0 0] 25)).heap[w.heap.size + 1 + 1]? = some (.cells #[.int .i64 m.time, .string m.sender, .slice none 0 0, .slice none 0 0] 25 (0, 0)) := by
    have := heap_alloc_new ((w.alloc (.cells #[.int .i64 m.time, .string m.sender, .slice A n c, .slice D dn e] 25)).alloc (.cells #[.int .i64 0, .string ⟨#[]⟩, .slice none 0 0, .slice none 0 0] 25)) (.cells #[.int .i64 m.time, .string m.sender, .slice none 0 0, .slice none 0 0] 25)
    simpa using this
  have hbw : Below w.heap.size w w2 := (((Below.alloc1 _ _).alloc (by simp) _).alloc (by simp; omega) _).trans (hb2.mono (by omega))
  replace e0 := (hb2.block _ (by omega)).trans e0
  replace e1 := (hb2.block _ (by omega)).trans e1
  replace e2 := (hb2.block _ (by omega)).trans e2
  obtain ⟨A2, q2, rfl⟩ := own2.form'
  rw [HN.out] at own2
  obtain ⟨x0, x1, x2, x3, _⟩ := four_cells e0
  obtain ⟨y0, y1, y2, y3, g0, g1, g2, g3⟩ := four_cells e2
  have d2 := heap_setCell_same w2 (w.heap.size + 1 + 1) 2 _ _ (.slice A2 n q2) e2
  have d1 : (w2.setCell ⟨w.heap.size + 1 + 1, 2, none⟩ (.slice A2 n q2)).heap[w.heap.size + 1]? = _ := (Below.heap_setCell w2 ⟨w.heap.size + 1 + 1, 2, none⟩ (.slice A2 n q2) _ (by show w.heap.size + 1 ≠ w.heap.size + 1 + 1; omega)).trans e1
  have row := own2.set e2 (by decide) 2 (.slice A2 n q2)
  have bw3 := hbw.setCell (p := ⟨w.heap.size + 1 + 1, 2, none⟩) (by show w.heap.size ≤ w.heap.size + 1 + 1; omega) (.slice A2 n q2)
  have D1 := Lib.hid d1
  have D2 := Lib.hid d2
  have ROW := Lib.hid row
  have hHlt : w.heap.size + 1 + 1 < w2.heap.size := heap_lt e2
  clear e0 e1 e2 d1 d2 row own2 hb2
  rw [HN.out]
  go_wp2_with (at_builtin; refine wp_append_reads _ rfl (.tmp 16) (.tmp 18) rfl w2.heap.size (.slice none 0 0) _ [] m.data rfl rfl (owns_nil _ _) (HD.out.on bw3) (by rw [HDN.out]; simp; omega) (by simp) ?_; intro v4 w4 own4 hb4; refine Hid.out ?_)
  refine Lib.hid ?_
  rw [List.nil_append] at own4
  have hb4' : Below (w2.setCell ⟨w.heap.size + 1 + 1, 2, none⟩ (.slice A2 n q2)).heap.size (w2.setCell ⟨w.heap.size + 1 + 1, 2, none⟩ (.slice A2 n q2)) w4 := hb4.mono (by simp)
  obtain ⟨A4, q4, hv4⟩ := own4.reads.form
  rw [HDN.out] at hv4
  subst hv4
  have k1 := (hb4'.block _ (heap_lt D1.out)).trans D1.out
  have k2 := (hb4'.block _ (heap_lt D2.out)).trans D2.out
  have row4 := ROW.out.on hb4'
  have bw4 := bw3.trans (hb4'.mono bw3.size)
  clear x0 x1 x2 x3 y0 y1 y2 y3 g0 g1 g2 g3 hb4
  obtain ⟨y0, y1, y2, y3, g0, g1, g2, g3⟩ := four_cells k2
  have m2 := heap_setCell_same w4 (w.heap.size + 1 + 1) 3 _ _ (.slice A4 dn q4) k2
  have m1 : (w4.setCell ⟨w.heap.size + 1 + 1, 3, none⟩ (.slice A4 dn q4)).heap[w.heap.size + 1]? = _ := (Below.heap_setCell w4 ⟨w.heap.size + 1 + 1, 3, none⟩ (.slice A4 dn q4) _ (by show w.heap.size + 1 ≠ w.heap.size + 1 + 1; omega)).trans k1
  obtain ⟨b0, b1, b2, b3, h0, h1, h2, h3⟩ := four_cells k1
  have row5 := row4.set k2 (by decide) 3 (.slice A4 dn q4)
  have rd5 : Owns (w4.setCell ⟨w.heap.size + 1 + 1, 3, none⟩ (.slice A4 dn q4)) w2.heap.size (.slice A4 dn q4) m.data := by
    have : Owns (w4.setCell ⟨w.heap.size + 1 + 1, 3, none⟩ (.slice A4 dn q4)) w2.heap.size (.slice A4 dn q4) m.data := ownsRow_setCell_other own4 (own4.apart k2 (by decide)) _
    exact this
  have bw5 := bw4.setCell (p := ⟨w.heap.size + 1 + 1, 3, none⟩) (by show w.heap.size ≤ w.heap.size + 1 + 1; omega) (.slice A4 dn q4)
  have M1 := Lib.hid m1
  have R5 := Lib.hid row5
  have RD := Lib.hid rd5
  clear m1 m2 row5 rd5 k1 k2 row4 own4 D1 D2 ROW
  go_wp2
  have hfin := set_four M1.out (.int .i64 m.time) (.string m.sender) (.slice A2 n q2) (.slice A4 dn q4)
  obtain ⟨v0, v1, v2, v3, _⟩ := four_cells hfin
  refine bodyPost_ret (v := .agg #[.int .i64 m.time, .string m.sender, .slice A2 n q2, .slice A4 dn q4]) (by simp [results, Tryd.results8, go_sem, v0, v1, v2, v3]) rfl ⟨_, rfl, ⟨A2, q2, A4, q4, by unfold msgV; rw [HN.out, HDN.out], ?_, ?_⟩, ?_⟩
  · have s1 := R5.out.set M1.out (by decide) 0 (.int .i64 m.time)
    have e2 := heap_setCell_same _ (w.heap.size + 1) 0 _ _ (.int .i64 m.time) M1.out
    have s2 := s1.set e2 (by decide) 1 (.string m.sender)
    have e3 := heap_setCell_same _ (w.heap.size + 1) 1 _ _ (.string m.sender) e2
    have s3 := s2.set e3 (by decide) 2 (.slice A2 n q2)
    have e4 := heap_setCell_same _ (w.heap.size + 1) 2 _ _ (.slice A2 n q2) e3
    have s4 := s3.set e4 (by decide) 3 (.slice A4 dn q4)
    exact s4.rr' HN.out
  · rw [HDN.out]
    have ap : ∀ {wx : World}, Owns wx w2.heap.size (.slice A4 dn q4) m.data → ∀ {cs : Array Value}, wx.heap[w.heap.size + 1]? = some (.cells cs 25 (0, 0)) → ∀ i u, Owns (wx.setCell ⟨w.heap.size + 1, i, none⟩ u) w2.heap.size (.slice A4 dn q4) m.data := fun ho _ hk i u => ownsRow_setCell_other ho (ho.apart hk (by decide)) u
    have s1 := ap RD.out M1.out 0 (.int .i64 m.time)
    have e2 := heap_setCell_same _ (w.heap.size + 1) 0 _ _ (.int .i64 m.time) M1.out
    have s2 := ap s1 e2 1 (.string m.sender)
    have e3 := heap_setCell_same _ (w.heap.size + 1) 1 _ _ (.string m.sender) e2
    have s3 := ap s2 e3 2 (.slice A2 n q2)
    have e4 := heap_setCell_same _ (w.heap.size + 1) 2 _ _ (.slice A2 n q2) e3
    exact (ap s3 e4 3 (.slice A4 dn q4)).reads
  · exact (((bw5.setCell (by show w.heap.size ≤ w.heap.size + 1; omega) _).setCell (by show w.heap.size ≤ w.heap.size + 1; omega) _).setCell (by show w.heap.size ≤ w.heap.size + 1; omega) _).setCell (by show w.heap.size ≤ w.heap.size + 1; omega) _
end Go.Proofs.YthoeicidilnleaaDoor.Codec
