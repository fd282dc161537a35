/-
  RECORD: Decode of the program.
-/
import Derived.Test.YthoeicidilnleaaDoorRecordDecF
namespace Go.Proofs.YthoeicidilnleaaDoor.Codec
open Go.RowKit

/-- The blocks of Decode: what is answered, and the message that grows. -/
def DS (w : World) (H : Nat) (mc : Array Value) : Prop := w.heap[H]? = some (.cells #[.int .i64 0, .string ⟨#[]⟩, .slice none 0 0, .slice none 0 0] 25 (0, 0)) ∧ w.heap[H + 1 + 1]? = some (.cells mc 25 (0, 0))
theorem DS.kept {w w' : World} {H B : Nat} {mc : Array Value} (h : DS w H mc) (hk : Keeps (H + 1) B w w') : DS w' H mc :=
  ⟨hk.2 _ _ 25 _ h.1 (by decide) (by omega), hk.2 _ _ 25 _ h.2 (by decide) (by omega)⟩
theorem four_cells {w : World} {k : Nat} {a b c d : Value} {t : TypeId} (h : w.heap[k]? = some (.cells #[a, b, c, d] t (0, 0))) :
    w.cell? ⟨k, 0, none⟩ = some a ∧ w.cell? ⟨k, 1, none⟩ = some b ∧ w.cell? ⟨k, 2, none⟩ = some c ∧ w.cell? ⟨k, 3, none⟩ = some d ∧ w.frozen? ⟨k, 0, none⟩ = false ∧ w.frozen? ⟨k, 1, none⟩ = false ∧ w.frozen? ⟨k, 2, none⟩ = false ∧ w.frozen? ⟨k, 3, none⟩ = false :=
  ⟨cell_of_row w k 0 _ _ _ h, cell_of_row w k 1 _ _ _ h, cell_of_row w k 2 _ _ _ h, cell_of_row w k 3 _ _ _ h, by simp [World.frozen?, h], by simp [World.frozen?, h], by simp [World.frozen?, h], by simp [World.frozen?, h]⟩
theorem DS.set {w : World} {H : Nat} {mc : Array Value} (h : DS w H mc) (i : Nat) (u : Value) : DS (w.setCell ⟨H + 1 + 1, i, none⟩ u) H (mc.setIfInBounds i u) :=
  ⟨by rw [Below.heap_setCell _ _ _ _ (by show H ≠ H + 1 + 1; omega)]; exact h.1, heap_setCell_same w (H + 1 + 1) i _ _ _ h.2⟩
theorem set_four {w : World} {k : Nat} {a b c d : Value} {t : TypeId} (h : w.heap[k]? = some (.cells #[a, b, c, d] t (0, 0))) (x y z u : Value) :
    ((((w.setCell ⟨k, 0, none⟩ x).setCell ⟨k, 1, none⟩ y).setCell ⟨k, 2, none⟩ z).setCell ⟨k, 3, none⟩ u).heap[k]? = some (.cells #[x, y, z, u] t (0, 0)) := by
  have h1 := heap_setCell_same w k 0 _ _ x h
  have h2 := heap_setCell_same _ k 1 _ _ y h1
  have h3 := heap_setCell_same _ k 2 _ _ z h2
  have h4 := heap_setCell_same _ k 3 _ _ u h3
  rw [h4]; rfl
theorem ORow.apart {w : World} {B : Nat} {v : Value} {n : Nat} {xs : List Value} (h : ORow w B v n xs) {k : Nat} {cs : Array Value} {t : TypeId} {fz : Nat × Nat} (hk : w.heap[k]? = some (.cells cs t fz)) (ht : t ≠ 41) : v.ownBlock ≠ some k := fun e => by
  rcases h.2 with ⟨rfl, _⟩ | ⟨g', cap, cur, rfl, _, h2, _⟩
  · simp [Value.ownBlock] at e
  · have : g' = k := by simpa [Value.ownBlock] using e
    subst this
    rw [hk] at h2
    injection h2 with h2
    injection h2 with _ h3
    exact ht h3
theorem ORow.set {w : World} {B : Nat} {v : Value} {n : Nat} {xs : List Value} (h : ORow w B v n xs) {k : Nat} {cs : Array Value} {t : TypeId} {fz : Nat × Nat} (hk : w.heap[k]? = some (.cells cs t fz)) (ht : t ≠ 41) (i : Nat) (u : Value) : ORow (w.setCell ⟨k, i, none⟩ u) B v n xs :=
  ownsRow_setCell_other h (h.apart hk ht) u
theorem Rd.apart {w : World} {g B : Nat} {bv mv : Value} {l rest : List UInt8} {ml : List Nat} (h : Rd w g bv l rest mv ml B) {V : Value} {n : Nat} {xs : List Value} (ho : ORow w B V n xs) : V.ownBlock ≠ some g := by
  obtain ⟨_, _, _, hh, _⟩ := h; exact ho.apart hh (by decide)

/-- What Decode made: all of it its own. -/
def Got (w : World) (B : Nat) (V : Value) (m : Msg) : Prop := ∃ RV b cap S, V = .agg #[.int .i64 m.time, .string m.sender, RV, .slice (some ⟨b, 0, none⟩) S.size cap] ∧ ORow w B RV m.rcpts.length (flatR m.rcpts) ∧ S.data.toList = m.data ∧ S.size ≤ cap ∧ w.heap[b]? = some (.cells (bytesRow S cap) 5 ((bytesRow S cap).size, (bytesRow S cap).size + 1)) ∧ B ≤ b
def Z4 : Value := .agg #[.int .i64 0, .string ⟨#[]⟩, .slice none 0 0, .slice none 0 0]

set_option maxHeartbeats 2000000 in
set_option maxRecDepth 100000 in
theorem cDecode (bv : Value) (l : List UInt8) (w : World) (h : Reads w bv l) (hold : Old w.heap.size bv) (hl : l.length ≤ 140737488351232) :
    Calls Tryd.prog 17 #[bv] w fun e w' => (∃ V, e = .returned (.tuple #[V, .int .i64 (decodeF l).2]) ∧ ((decodeF l).2 = 0 → Got w' w.heap.size V (decodeF l).1) ∧ ((decodeF l).2 ≠ 0 → V = Z4)) ∧ Below w.heap.size w w' := by
  obtain ⟨A, cc, rfl⟩ := h.form
  obtain ⟨H, hH⟩ : ∃ H, H = w.heap.size := ⟨_, rfl⟩
  obtain ⟨w0, hw0⟩ : ∃ w0, w0 = (((w.alloc (.cells #[.int .i64 0, .string ⟨#[]⟩, .slice none 0 0, .slice none 0 0] 25)).alloc (.cells #[.slice A l.length cc, .int .i64 0, .slice none 0 0] 68)).alloc (.cells #[.int .i64 0, .string ⟨#[]⟩, .slice none 0 0, .slice none 0 0] 25)) := ⟨_, rfl⟩
  have hbl0 : Below w.heap.size w w0 := by rw [hw0]; exact ((Below.alloc1 w _).alloc (by simp) _).alloc (by simp; omega) _
  have hds0 : DS w0 w.heap.size #[.int .i64 0, .string ⟨#[]⟩, .slice none 0 0, .slice none 0 0] := by
    rw [hw0]
    refine ⟨?_, ?_⟩
    · rw [Below.heap_alloc _ _ _ (by simp; omega), Below.heap_alloc _ _ _ (by simp)]; exact heap_alloc_new w _
    · have := heap_alloc_new ((w.alloc (.cells #[.int .i64 0, .string ⟨#[]⟩, .slice none 0 0, .slice none 0 0] 25)).alloc (.cells #[.slice A l.length cc, .int .i64 0, .slice none 0 0] 68)) (.cells #[.int .i64 0, .string ⟨#[]⟩, .slice none 0 0, .slice none 0 0] 25)
      simpa using this
  have hrd0 : Rd w0 (w.heap.size + 1) (.slice A l.length cc) l l (.slice none 0 0) [] w.heap.size := by
    refine ⟨0, by simp, rfl, ?_, h.on hbl0, ?_, by omega⟩
    · rw [hw0, Below.heap_alloc _ _ _ (by simp)]
      have := heap_alloc_new (w.alloc (.cells #[.int .i64 0, .string ⟨#[]⟩, .slice none 0 0, .slice none 0 0] 25)) (.cells #[.slice A l.length cc, .int .i64 0, .slice none 0 0] 68)
      simpa using this
    · exact World.ownsRow_nil _ _ _ _
  have hov : ∀ k, w.heap.size ≤ k → ∀ b, (Value.slice A l.length cc).ownBlock = some b → b ≠ k := fun k hk b hb => by have := hold b hb; omega
  have hle := d_le l
  obtain ⟨out, ho⟩ : ∃ out, out = decodeF l := ⟨_, rfl⟩
  rw [← ho]
  unfold decodeF at ho
  have C1 : Hid (Calls Tryd.prog 41 #[.pointer (some ⟨w.heap.size + 1, 0, none⟩), .string ⟨#[87, 49, 59, 116]⟩] w0 fun e w' => e = .returned (.int .i64 (dF l).1) ∧ Rd w' (w.heap.size + 1) (.slice A l.length cc) l (dF l).2 (.slice none 0 0) [] w.heap.size ∧ Keeps (w.heap.size + 1) w.heap.size w0 w') := cFixed _ _ ⟨#[87, 49, 59, 116]⟩ _ _ l l [] w0 hrd0 hold (by omega) (by decide)
  have C2 : Hid (∀ wx, Rd wx (w.heap.size + 1) (.slice A l.length cc) l (dF l).2 (.slice none 0 0) [] w.heap.size → Calls Tryd.prog 42 #[.pointer (some ⟨w.heap.size + 1, 0, none⟩)] wx fun e w' => e = .returned (.tuple #[.int .i64 (takeNumber (dF l).2).1, .int .i64 (dN l).2.1]) ∧ Rd w' (w.heap.size + 1) (.slice A l.length cc) l (dN l).2.2 (.slice none 0 0) [] w.heap.size ∧ Keeps (w.heap.size + 1) w.heap.size wx w') := fun wx hx => cNum _ _ _ _ l _ [] wx hx hold (by omega)
  have C3 : Hid (∀ wx, Rd wx (w.heap.size + 1) (.slice A l.length cc) l (dN l).2.2 (.slice none 0 0) [] w.heap.size → Calls Tryd.prog 43 #[.pointer (some ⟨w.heap.size + 1, 0, none⟩)] wx fun e w' => e = .returned (.tuple #[.string ⟨(dS l).1.toArray⟩, .int .i64 (dS l).2.1]) ∧ Rd w' (w.heap.size + 1) (.slice A l.length cc) l (dS l).2.2 (.slice none 0 0) [] w.heap.size ∧ Keeps (w.heap.size + 1) w.heap.size wx w') := fun wx hx => cFrom _ _ _ _ l _ [] wx hx hold (by omega)
  have C4 : Hid (∀ wx, Rd wx (w.heap.size + 1) (.slice A l.length cc) l (dS l).2.2 (.slice none 0 0) [] w.heap.size → Calls Tryd.prog 44 #[.pointer (some ⟨w.heap.size + 1, 0, none⟩)] wx fun e w' => (∃ a n c, e = .returned (.tuple #[.slice a n c, .int .i64 (dR l).2.1]) ∧ ((dR l).2.1 = 0 → ORow w' w.heap.size (.slice a n c) (dR l).1.length (flatR (dR l).1))) ∧ (∃ mv', Rd w' (w.heap.size + 1) (.slice A l.length cc) l (dR l).2.2.1 mv' (dR l).2.2.2 w.heap.size) ∧ Keeps (w.heap.size + 1) w.heap.size wx w') := fun wx hx => cRcpts _ _ _ _ l _ wx hx hold (by omega)
  have C5 : Hid (∀ wx mv, Rd wx (w.heap.size + 1) (.slice A l.length cc) l (dR l).2.2.1 mv (dR l).2.2.2 w.heap.size → Calls Tryd.prog 41 #[.pointer (some ⟨w.heap.size + 1, 0, none⟩), .string ⟨#[100]⟩] wx fun e w' => e = .returned (.int .i64 (dD l).1) ∧ Rd w' (w.heap.size + 1) (.slice A l.length cc) l (dD l).2 mv (dR l).2.2.2 w.heap.size ∧ Keeps (w.heap.size + 1) w.heap.size wx w') := fun wx mv hx => cFixed _ _ ⟨#[100]⟩ _ mv l _ _ wx hx hold (by omega) (by decide)
  have C6 : Hid (∀ wx mv, Rd wx (w.heap.size + 1) (.slice A l.length cc) l (dD l).2 mv (dR l).2.2.2 w.heap.size → Calls Tryd.prog 45 #[.pointer (some ⟨w.heap.size + 1, 0, none⟩)] wx fun e w' => e = .returned (.tuple #[.string ⟨(takeText (dD l).2).1.toArray⟩, .int .i64 (dT l).2.1]) ∧ Rd w' (w.heap.size + 1) (.slice A l.length cc) l (dT l).2.2 mv (dR l).2.2.2 w.heap.size ∧ Keeps (w.heap.size + 1) w.heap.size wx w') := fun wx mv hx => cTxt _ _ _ mv l _ _ wx hx hold (by omega)
  have C7 : Hid (∀ wx mv, Rd wx (w.heap.size + 1) (.slice A l.length cc) l (dT l).2.2 mv (dR l).2.2.2 w.heap.size → Calls Tryd.prog 46 #[.pointer (some ⟨w.heap.size + 1, 0, none⟩)] wx fun e w' => e = .returned (.int .i64 (dE l)) ∧ Keeps (w.heap.size + 1) w.heap.size wx w') := fun wx mv hx => cEnd _ _ _ mv l _ _ wx hx hold hl (by omega) hle.1
  have T2 := @num_ok (dF l).2
  have T6 := @text_ok (dD l).2
  have T6l := text_len_any (dD l).2
  rw [show numF (dF l).2 = dN l from rfl] at T2
  rw [show textF (dD l).2 = dT l from rfl] at T6
  generalize dE l = zE at *
  generalize dT l = T at *
  generalize (takeText (dD l).2).1 = T' at *
  generalize dD l = D at *
  generalize dR l = R at *
  generalize dS l = S at *
  generalize dN l = N at *
  generalize (takeNumber (dF l).2).1 = N' at *
  generalize dF l = F0 at *
  have HDS0 := Lib.hid hds0
  have HW0 := Lib.hid hw0
  have HB0 := Lib.hid hbl0
  have HOV := Lib.hid hov
  clear h hold hds0 hrd0 hw0 hbl0 hle hH H hov
  by_cases hz1 : F0.1 = 0
  · skip
    by_cases hz2 : N.2.1 = 0
    · skip
      by_cases hz3 : S.2.1 = 0
      · skip
        by_cases hz4 : R.2.1 = 0
        · skip
          by_cases hz5 : D.1 = 0
          · skip
            by_cases hz6 : T.2.1 = 0
            · skip
              by_cases hz7 : zE = 0
              · skip
                have HO : Hid (out = (⟨N.1, ⟨S.1.toArray⟩, R.1, T.1⟩, 0)) := by unfold Hid; rw [ho, if_neg (by simp [hz1]), if_neg (by simp [hz2]), if_neg (by simp [hz3]), if_neg (by simp [hz4]), if_neg (by simp [hz5]), if_neg (by simp [hz6]), if_neg (by simp [hz7])]
                rw [hz1] at C1
                rw [hz2] at C2
                rw [hz3] at C3
                rw [hz4] at C4
                rw [hz5] at C5
                rw [hz6] at C6
                rw [hz7] at C7
                obtain rfl := T2 hz2
                obtain ⟨rfl, hTl⟩ := T6 hz6
                clear ho T2 T6 T6l hz1 hz2 hz3 hz4 hz5 hz6 hz7
                go_enter Tryd.func17, Tryd.ntmps17
                go_wp2
                refine wp_scope_fwd fun F hF => ?_
                have HF := Lib.hid hF
                clear hF
                go_wp2_with (go_at_call 41; refine (HW0.out ▸ C1.out).mono ?_; rintro e w1 ⟨rfl, r1, p1⟩; refine Hid.out ?_)
                refine Lib.hid ?_
                rw [← HW0.out] at p1
                have d1 := HDS0.out.kept p1
                have bb1 := HB0.out.trans p1.1
                go_wp2_with (go_at_call 42; refine (C2.out _ r1).mono ?_; rintro e w2 ⟨rfl, r2, p2⟩; refine Hid.out ?_)
                refine Lib.hid ?_
                have d2 := d1.kept p2
                have bb2 := bb1.trans p2.1
                obtain ⟨a0, a1, a2, a3, g0, g1, g2, g3⟩ := four_cells d2.2
                replace r2 := r2.set_other (i := 0) (u := .int .i64 N.1) d2.2 (by decide) (show w.heap.size + 1 + 1 ≠ w.heap.size + 1 by omega) (HOV.out _ (by omega))
                have dd2 := d2
                replace d2 := d2.set 0 (.int .i64 N.1)
                replace bb2 := bb2.setCell (p := ⟨w.heap.size + 1 + 1, 0, none⟩) (by show w.heap.size ≤ w.heap.size + 1 + 1; omega) (.int .i64 N.1)
                have HD2 := Lib.hid d2
                have HDD2 := Lib.hid dd2
                clear d2 dd2
                go_wp2_with (go_at_call 43; refine (C3.out _ r2).mono ?_; rintro e w3 ⟨rfl, r3, p3⟩; refine Hid.out ?_)
                refine Lib.hid ?_
                clear a0 a1 a2 a3 g0 g1 g2 g3
                have d3 := HD2.out.kept p3
                have bb3 := bb2.trans p3.1
                obtain ⟨a0, a1, a2, a3, g0, g1, g2, g3⟩ := four_cells d3.2
                replace r3 := r3.set_other (i := 1) (u := .string ⟨S.1.toArray⟩) d3.2 (by decide) (show w.heap.size + 1 + 1 ≠ w.heap.size + 1 by omega) (HOV.out _ (by omega))
                have dd3 := d3
                replace d3 := d3.set 1 (.string ⟨S.1.toArray⟩)
                replace bb3 := bb3.setCell (p := ⟨w.heap.size + 1 + 1, 1, none⟩) (by show w.heap.size ≤ w.heap.size + 1 + 1; omega) (.string ⟨S.1.toArray⟩)
                have HD3 := Lib.hid d3
                have HDD3 := Lib.hid dd3
                clear d3 dd3
                go_wp2_with (go_at_call 44; refine (C4.out _ r3).mono ?_; rintro e w4 ⟨⟨ra, rn, rc, rfl, row4⟩, ⟨mv4, r4⟩, p4⟩; refine Hid.out ?_)
                refine Lib.hid ?_
                clear a0 a1 a2 a3 g0 g1 g2 g3
                have d4 := HD3.out.kept p4
                have bb4 := bb3.trans p4.1
                obtain ⟨a0, a1, a2, a3, g0, g1, g2, g3⟩ := four_cells d4.2
                replace r4 := r4.set_other (i := 2) (u := .slice ra rn rc) d4.2 (by decide) (show w.heap.size + 1 + 1 ≠ w.heap.size + 1 by omega) (HOV.out _ (by omega))
                have dd4 := d4
                replace d4 := d4.set 2 (.slice ra rn rc)
                replace bb4 := bb4.setCell (p := ⟨w.heap.size + 1 + 1, 2, none⟩) (by show w.heap.size ≤ w.heap.size + 1 + 1; omega) (.slice ra rn rc)
                have HD4 := Lib.hid d4
                have HDD4 := Lib.hid dd4
                clear d4 dd4
                have row4 := (row4 (by trivial)).set HDD4.out.2 (by decide) 2 (.slice ra rn rc)
                clear HDD4
                go_wp2_with (go_at_call 41; refine (C5.out _ _ r4).mono ?_; rintro e w5 ⟨rfl, r5, p5⟩; refine Hid.out ?_)
                refine Lib.hid ?_
                clear a0 a1 a2 a3 g0 g1 g2 g3
                have d5 := HD4.out.kept p5
                have bb5 := bb4.trans p5.1
                have row5 := row4.kept p5 (r4.apart row4)
                go_wp2_with (go_at_call 45; refine (C6.out _ _ r5).mono ?_; rintro e w6 ⟨rfl, r6, p6⟩; refine Hid.out ?_)
                refine Lib.hid ?_
                have d6 := d5.kept p6
                have bb6 := bb5.trans p6.1
                have row6 := row5.kept p6 (r5.apart row5)
                go_wp2_with (go_at_call 46; refine (C7.out _ _ r6).mono ?_; rintro e w7 ⟨rfl, p7⟩; refine Hid.out ?_)
                refine Lib.hid ?_
                have d7 := d6.kept p7
                have bb7 := bb6.trans p7.1
                have row7 := row6.kept p7 (r6.apart row6)
                obtain ⟨TT, hTT⟩ : ∃ TT : ByteArray, TT = ⟨T.1.toArray⟩ := ⟨_, rfl⟩
                rw [← hTT]
                have HTT := Lib.hid hTT
                clear hTT
                obtain ⟨cap, hcap, hcv⟩ := ref_bytes w7 TT
                obtain ⟨w8, hw8⟩ : ∃ w8, w8 = w7.drew.alloc (.cells (bytesRow TT cap) 5 ((bytesRow TT cap).size, (bytesRow TT cap).size + 1)) := ⟨_, rfl⟩
                have b8 : Below w7.heap.size w7 w8 := by rw [hw8]; exact ((Below.refl _ _).drew).alloc (Nat.le_refl _) _
                have hbk8 : w8.heap[w7.heap.size]? = some (.cells (bytesRow TT cap) 5 ((bytesRow TT cap).size, (bytesRow TT cap).size + 1)) := by rw [hw8]; exact heap_alloc_new w7.drew _
                rw [← hw8] at hcv
                have z7 := bb7.size
                have d8 := d7.kept (Keeps.of_below (g := w.heap.size + 1) (B := w.heap.size) b8 z7)
                have row8 := row7.kept (Keeps.of_below (g := w.heap.size + 1) (B := w.heap.size) b8 z7) (r6.apart row6)
                obtain ⟨a0, a1, a2, a3, g0, g1, g2, g3⟩ := four_cells d8.2
                have d9 := d8.set 3 (.slice (some ⟨w7.heap.size, 0, none⟩) TT.size cap)
                have row9 := row8.set d8.2 (by decide) 3 (.slice (some ⟨w7.heap.size, 0, none⟩) TT.size cap)
                have hne2 : w7.heap.size ≠ w.heap.size + 1 + 1 := by have := heap_lt d7.2; omega
                have hne0 : w7.heap.size ≠ w.heap.size := by have := heap_lt d7.1; omega
                have hbk9 : (w8.setCell ⟨w.heap.size + 1 + 1, 3, none⟩ (.slice (some ⟨w7.heap.size, 0, none⟩) TT.size cap)).heap[w7.heap.size]? = some (.cells (bytesRow TT cap) 5 ((bytesRow TT cap).size, (bytesRow TT cap).size + 1)) := by rw [Below.heap_setCell _ _ _ _ hne2]; exact hbk8
                have bb9 := ((bb7.trans (b8.mono z7)).setCell (p := ⟨w.heap.size + 1 + 1, 3, none⟩) (by show w.heap.size ≤ w.heap.size + 1 + 1; omega) (.slice (some ⟨w7.heap.size, 0, none⟩) TT.size cap))
                obtain ⟨c0, c1, c2, c3, _⟩ := four_cells d9.2
                obtain ⟨y0, y1, y2, y3, f0, f1, f2, f3⟩ := four_cells d9.1
                have HD9 := Lib.hid d9
                have HRW := Lib.hid row9
                have HBK := Lib.hid hbk9
                have HCP := Lib.hid hcap
                clear d9 d8 row9 row8 hbk8 hbk9 d7 row7 row6 row5 row4 hw8 hcap
                go_wp2
                rw [Exit.fwd_ret]
                have hfin := set_four HD9.out.1 (.int .i64 N.1) (.string ⟨S.1.toArray⟩) (.slice ra rn rc) (.slice (some ⟨w7.heap.size, 0, none⟩) TT.size cap)
                obtain ⟨v0, v1, v2, v3, _⟩ := four_cells hfin
                obtain rfl : out = (⟨N.1, ⟨S.1.toArray⟩, R.1, T.1⟩, 0) := HO.out
                refine bodyPost_ret (v := .tuple #[.agg #[.int .i64 N.1, .string ⟨S.1.toArray⟩, .slice ra rn rc, .slice (some ⟨w7.heap.size, 0, none⟩) TT.size cap], .int .i64 0]) (by simp [results, Tryd.results17, go_sem, v0, v1, v2, v3]) rfl ⟨⟨_, rfl, fun _ => ⟨_, w7.heap.size, cap, TT, rfl, ?_, by rw [HTT.out], HCP.out, ?_, z7⟩, fun h => absurd rfl h⟩, (((bb9.setCell (Nat.le_refl _) _).setCell (Nat.le_refl _) _).setCell (Nat.le_refl _) _).setCell (Nat.le_refl _) _⟩
                · have e1 := HD9.out.1
                  have s1 := HRW.out.set e1 (by decide) 0 (.int .i64 N.1)
                  have e2 := heap_setCell_same _ w.heap.size 0 _ _ (.int .i64 N.1) e1
                  have s2 := s1.set e2 (by decide) 1 (.string ⟨S.1.toArray⟩)
                  have e3 := heap_setCell_same _ w.heap.size 1 _ _ (.string ⟨S.1.toArray⟩) e2
                  have s3 := s2.set e3 (by decide) 2 (.slice ra rn rc)
                  have e4 := heap_setCell_same _ w.heap.size 2 _ _ (.slice ra rn rc) e3
                  exact s3.set e4 (by decide) 3 _
                · rw [Below.heap_setCell _ _ _ _ hne0, Below.heap_setCell _ _ _ _ hne0, Below.heap_setCell _ _ _ _ hne0, Below.heap_setCell _ _ _ _ hne0]
                  exact HBK.out
              · have HO : Hid (out = (msg0, zE)) := by unfold Hid; rw [ho, if_neg (by simp [hz1]), if_neg (by simp [hz2]), if_neg (by simp [hz3]), if_neg (by simp [hz4]), if_neg (by simp [hz5]), if_neg (by simp [hz6]), if_pos hz7]
                have HZ : Hid (zE ≠ 0) := hz7
                have hbz : (zE != 0) = true := by simpa using hz7
                rw [hz1] at C1
                rw [hz2] at C2
                rw [hz3] at C3
                rw [hz4] at C4
                rw [hz5] at C5
                rw [hz6] at C6
                clear ho T2 T6 T6l hz1 hz2 hz3 hz4 hz5 hz6 hz7
                go_enter Tryd.func17, Tryd.ntmps17
                go_wp2
                refine wp_scope_fwd fun F hF => ?_
                have HF := Lib.hid hF
                clear hF
                go_wp2_with (go_at_call 41; refine (HW0.out ▸ C1.out).mono ?_; rintro e w1 ⟨rfl, r1, p1⟩; refine Hid.out ?_)
                refine Lib.hid ?_
                rw [← HW0.out] at p1
                have d1 := HDS0.out.kept p1
                have bb1 := HB0.out.trans p1.1
                go_wp2_with (go_at_call 42; refine (C2.out _ r1).mono ?_; rintro e w2 ⟨rfl, r2, p2⟩; refine Hid.out ?_)
                refine Lib.hid ?_
                have d2 := d1.kept p2
                have bb2 := bb1.trans p2.1
                obtain ⟨a0, a1, a2, a3, g0, g1, g2, g3⟩ := four_cells d2.2
                replace r2 := r2.set_other (i := 0) (u := .int .i64 N') d2.2 (by decide) (show w.heap.size + 1 + 1 ≠ w.heap.size + 1 by omega) (HOV.out _ (by omega))
                have dd2 := d2
                replace d2 := d2.set 0 (.int .i64 N')
                replace bb2 := bb2.setCell (p := ⟨w.heap.size + 1 + 1, 0, none⟩) (by show w.heap.size ≤ w.heap.size + 1 + 1; omega) (.int .i64 N')
                have HD2 := Lib.hid d2
                have HDD2 := Lib.hid dd2
                clear d2 dd2
                go_wp2_with (go_at_call 43; refine (C3.out _ r2).mono ?_; rintro e w3 ⟨rfl, r3, p3⟩; refine Hid.out ?_)
                refine Lib.hid ?_
                clear a0 a1 a2 a3 g0 g1 g2 g3
                have d3 := HD2.out.kept p3
                have bb3 := bb2.trans p3.1
                obtain ⟨a0, a1, a2, a3, g0, g1, g2, g3⟩ := four_cells d3.2
                replace r3 := r3.set_other (i := 1) (u := .string ⟨S.1.toArray⟩) d3.2 (by decide) (show w.heap.size + 1 + 1 ≠ w.heap.size + 1 by omega) (HOV.out _ (by omega))
                have dd3 := d3
                replace d3 := d3.set 1 (.string ⟨S.1.toArray⟩)
                replace bb3 := bb3.setCell (p := ⟨w.heap.size + 1 + 1, 1, none⟩) (by show w.heap.size ≤ w.heap.size + 1 + 1; omega) (.string ⟨S.1.toArray⟩)
                have HD3 := Lib.hid d3
                have HDD3 := Lib.hid dd3
                clear d3 dd3
                go_wp2_with (go_at_call 44; refine (C4.out _ r3).mono ?_; rintro e w4 ⟨⟨ra, rn, rc, rfl, row4⟩, ⟨mv4, r4⟩, p4⟩; refine Hid.out ?_)
                refine Lib.hid ?_
                clear a0 a1 a2 a3 g0 g1 g2 g3
                have d4 := HD3.out.kept p4
                have bb4 := bb3.trans p4.1
                obtain ⟨a0, a1, a2, a3, g0, g1, g2, g3⟩ := four_cells d4.2
                replace r4 := r4.set_other (i := 2) (u := .slice ra rn rc) d4.2 (by decide) (show w.heap.size + 1 + 1 ≠ w.heap.size + 1 by omega) (HOV.out _ (by omega))
                have dd4 := d4
                replace d4 := d4.set 2 (.slice ra rn rc)
                replace bb4 := bb4.setCell (p := ⟨w.heap.size + 1 + 1, 2, none⟩) (by show w.heap.size ≤ w.heap.size + 1 + 1; omega) (.slice ra rn rc)
                have HD4 := Lib.hid d4
                have HDD4 := Lib.hid dd4
                clear d4 dd4
                have row4 := (row4 (by trivial)).set HDD4.out.2 (by decide) 2 (.slice ra rn rc)
                clear HDD4
                go_wp2_with (go_at_call 41; refine (C5.out _ _ r4).mono ?_; rintro e w5 ⟨rfl, r5, p5⟩; refine Hid.out ?_)
                refine Lib.hid ?_
                clear a0 a1 a2 a3 g0 g1 g2 g3
                have d5 := HD4.out.kept p5
                have bb5 := bb4.trans p5.1
                have row5 := row4.kept p5 (r4.apart row4)
                go_wp2_with (go_at_call 45; refine (C6.out _ _ r5).mono ?_; rintro e w6 ⟨rfl, r6, p6⟩; refine Hid.out ?_)
                refine Lib.hid ?_
                have d6 := d5.kept p6
                have bb6 := bb5.trans p6.1
                have row6 := row5.kept p6 (r5.apart row5)
                go_wp2_with (go_at_call 46; refine (C7.out _ _ r6).mono ?_; rintro e w7 ⟨rfl, p7⟩; refine Hid.out ?_)
                refine Lib.hid ?_
                have d7 := d6.kept p7
                have bb7 := bb6.trans p7.1
                have row7 := row6.kept p7 (r6.apart row6)
                have HE := Lib.hid d7
                obtain ⟨y0, y1, y2, y3, f0, f1, f2, f3⟩ := four_cells d7.1
                go_wp2
                go_step3
                refine ⟨_, by rw [HF.out]; rfl, ?_⟩
                clear HF
                go_wp2
                rw [Exit.noGoto_ret]
                have hfin := set_four HE.out.1 (.int .i64 0) (.string ⟨#[]⟩) (.slice none 0 0) (.slice none 0 0)
                obtain ⟨v0, v1, v2, v3, _⟩ := four_cells hfin
                obtain rfl : out = (msg0, zE) := HO.out
                exact bodyPost_ret (v := .tuple #[Z4, .int .i64 zE]) (by simp [results, Tryd.results17, go_sem, Z4, v0, v1, v2, v3]) rfl ⟨⟨Z4, rfl, fun h => absurd h HZ.out, fun _ => rfl⟩, (((bb7.setCell (Nat.le_refl _) _).setCell (Nat.le_refl _) _).setCell (Nat.le_refl _) _).setCell (Nat.le_refl _) _⟩
            · have HO : Hid (out = (msg0, T.2.1)) := by unfold Hid; rw [ho, if_neg (by simp [hz1]), if_neg (by simp [hz2]), if_neg (by simp [hz3]), if_neg (by simp [hz4]), if_neg (by simp [hz5]), if_pos hz6]
              have HZ : Hid (T.2.1 ≠ 0) := hz6
              have hbz : (T.2.1 != 0) = true := by simpa using hz6
              rw [hz1] at C1
              rw [hz2] at C2
              rw [hz3] at C3
              rw [hz4] at C4
              rw [hz5] at C5
              clear ho T2 T6 T6l hz1 hz2 hz3 hz4 hz5 hz6
              go_enter Tryd.func17, Tryd.ntmps17
              go_wp2
              refine wp_scope_fwd fun F hF => ?_
              have HF := Lib.hid hF
              clear hF
              go_wp2_with (go_at_call 41; refine (HW0.out ▸ C1.out).mono ?_; rintro e w1 ⟨rfl, r1, p1⟩; refine Hid.out ?_)
              refine Lib.hid ?_
              rw [← HW0.out] at p1
              have d1 := HDS0.out.kept p1
              have bb1 := HB0.out.trans p1.1
              go_wp2_with (go_at_call 42; refine (C2.out _ r1).mono ?_; rintro e w2 ⟨rfl, r2, p2⟩; refine Hid.out ?_)
              refine Lib.hid ?_
              have d2 := d1.kept p2
              have bb2 := bb1.trans p2.1
              obtain ⟨a0, a1, a2, a3, g0, g1, g2, g3⟩ := four_cells d2.2
              replace r2 := r2.set_other (i := 0) (u := .int .i64 N') d2.2 (by decide) (show w.heap.size + 1 + 1 ≠ w.heap.size + 1 by omega) (HOV.out _ (by omega))
              have dd2 := d2
              replace d2 := d2.set 0 (.int .i64 N')
              replace bb2 := bb2.setCell (p := ⟨w.heap.size + 1 + 1, 0, none⟩) (by show w.heap.size ≤ w.heap.size + 1 + 1; omega) (.int .i64 N')
              have HD2 := Lib.hid d2
              have HDD2 := Lib.hid dd2
              clear d2 dd2
              go_wp2_with (go_at_call 43; refine (C3.out _ r2).mono ?_; rintro e w3 ⟨rfl, r3, p3⟩; refine Hid.out ?_)
              refine Lib.hid ?_
              clear a0 a1 a2 a3 g0 g1 g2 g3
              have d3 := HD2.out.kept p3
              have bb3 := bb2.trans p3.1
              obtain ⟨a0, a1, a2, a3, g0, g1, g2, g3⟩ := four_cells d3.2
              replace r3 := r3.set_other (i := 1) (u := .string ⟨S.1.toArray⟩) d3.2 (by decide) (show w.heap.size + 1 + 1 ≠ w.heap.size + 1 by omega) (HOV.out _ (by omega))
              have dd3 := d3
              replace d3 := d3.set 1 (.string ⟨S.1.toArray⟩)
              replace bb3 := bb3.setCell (p := ⟨w.heap.size + 1 + 1, 1, none⟩) (by show w.heap.size ≤ w.heap.size + 1 + 1; omega) (.string ⟨S.1.toArray⟩)
              have HD3 := Lib.hid d3
              have HDD3 := Lib.hid dd3
              clear d3 dd3
              go_wp2_with (go_at_call 44; refine (C4.out _ r3).mono ?_; rintro e w4 ⟨⟨ra, rn, rc, rfl, row4⟩, ⟨mv4, r4⟩, p4⟩; refine Hid.out ?_)
              refine Lib.hid ?_
              clear a0 a1 a2 a3 g0 g1 g2 g3
              have d4 := HD3.out.kept p4
              have bb4 := bb3.trans p4.1
              obtain ⟨a0, a1, a2, a3, g0, g1, g2, g3⟩ := four_cells d4.2
              replace r4 := r4.set_other (i := 2) (u := .slice ra rn rc) d4.2 (by decide) (show w.heap.size + 1 + 1 ≠ w.heap.size + 1 by omega) (HOV.out _ (by omega))
              have dd4 := d4
              replace d4 := d4.set 2 (.slice ra rn rc)
              replace bb4 := bb4.setCell (p := ⟨w.heap.size + 1 + 1, 2, none⟩) (by show w.heap.size ≤ w.heap.size + 1 + 1; omega) (.slice ra rn rc)
              have HD4 := Lib.hid d4
              have HDD4 := Lib.hid dd4
              clear d4 dd4
              have row4 := (row4 (by trivial)).set HDD4.out.2 (by decide) 2 (.slice ra rn rc)
              clear HDD4
              go_wp2_with (go_at_call 41; refine (C5.out _ _ r4).mono ?_; rintro e w5 ⟨rfl, r5, p5⟩; refine Hid.out ?_)
              refine Lib.hid ?_
              clear a0 a1 a2 a3 g0 g1 g2 g3
              have d5 := HD4.out.kept p5
              have bb5 := bb4.trans p5.1
              have row5 := row4.kept p5 (r4.apart row4)
              go_wp2_with (go_at_call 45; refine (C6.out _ _ r5).mono ?_; rintro e w6 ⟨rfl, r6, p6⟩; refine Hid.out ?_)
              refine Lib.hid ?_
              have d6 := d5.kept p6
              have bb6 := bb5.trans p6.1
              have row6 := row5.kept p6 (r5.apart row5)
              have HE := Lib.hid d6
              obtain ⟨y0, y1, y2, y3, f0, f1, f2, f3⟩ := four_cells d6.1
              go_wp2
              go_step3
              refine ⟨_, by rw [HF.out]; rfl, ?_⟩
              clear HF
              go_wp2
              rw [Exit.noGoto_ret]
              have hfin := set_four HE.out.1 (.int .i64 0) (.string ⟨#[]⟩) (.slice none 0 0) (.slice none 0 0)
              obtain ⟨v0, v1, v2, v3, _⟩ := four_cells hfin
              obtain rfl : out = (msg0, T.2.1) := HO.out
              exact bodyPost_ret (v := .tuple #[Z4, .int .i64 T.2.1]) (by simp [results, Tryd.results17, go_sem, Z4, v0, v1, v2, v3]) rfl ⟨⟨Z4, rfl, fun h => absurd h HZ.out, fun _ => rfl⟩, (((bb6.setCell (Nat.le_refl _) _).setCell (Nat.le_refl _) _).setCell (Nat.le_refl _) _).setCell (Nat.le_refl _) _⟩
          · have HO : Hid (out = (msg0, D.1)) := by unfold Hid; rw [ho, if_neg (by simp [hz1]), if_neg (by simp [hz2]), if_neg (by simp [hz3]), if_neg (by simp [hz4]), if_pos hz5]
            have HZ : Hid (D.1 ≠ 0) := hz5
            have hbz : (D.1 != 0) = true := by simpa using hz5
            rw [hz1] at C1
            rw [hz2] at C2
            rw [hz3] at C3
            rw [hz4] at C4
            clear ho T2 T6 T6l hz1 hz2 hz3 hz4 hz5
            go_enter Tryd.func17, Tryd.ntmps17
            go_wp2
            refine wp_scope_fwd fun F hF => ?_
            have HF := Lib.hid hF
            clear hF
            go_wp2_with (go_at_call 41; refine (HW0.out ▸ C1.out).mono ?_; rintro e w1 ⟨rfl, r1, p1⟩; refine Hid.out ?_)
            refine Lib.hid ?_
            rw [← HW0.out] at p1
            have d1 := HDS0.out.kept p1
            have bb1 := HB0.out.trans p1.1
            go_wp2_with (go_at_call 42; refine (C2.out _ r1).mono ?_; rintro e w2 ⟨rfl, r2, p2⟩; refine Hid.out ?_)
            refine Lib.hid ?_
            have d2 := d1.kept p2
            have bb2 := bb1.trans p2.1
            obtain ⟨a0, a1, a2, a3, g0, g1, g2, g3⟩ := four_cells d2.2
            replace r2 := r2.set_other (i := 0) (u := .int .i64 N') d2.2 (by decide) (show w.heap.size + 1 + 1 ≠ w.heap.size + 1 by omega) (HOV.out _ (by omega))
            have dd2 := d2
            replace d2 := d2.set 0 (.int .i64 N')
            replace bb2 := bb2.setCell (p := ⟨w.heap.size + 1 + 1, 0, none⟩) (by show w.heap.size ≤ w.heap.size + 1 + 1; omega) (.int .i64 N')
            have HD2 := Lib.hid d2
            have HDD2 := Lib.hid dd2
            clear d2 dd2
            go_wp2_with (go_at_call 43; refine (C3.out _ r2).mono ?_; rintro e w3 ⟨rfl, r3, p3⟩; refine Hid.out ?_)
            refine Lib.hid ?_
            clear a0 a1 a2 a3 g0 g1 g2 g3
            have d3 := HD2.out.kept p3
            have bb3 := bb2.trans p3.1
            obtain ⟨a0, a1, a2, a3, g0, g1, g2, g3⟩ := four_cells d3.2
            replace r3 := r3.set_other (i := 1) (u := .string ⟨S.1.toArray⟩) d3.2 (by decide) (show w.heap.size + 1 + 1 ≠ w.heap.size + 1 by omega) (HOV.out _ (by omega))
            have dd3 := d3
            replace d3 := d3.set 1 (.string ⟨S.1.toArray⟩)
            replace bb3 := bb3.setCell (p := ⟨w.heap.size + 1 + 1, 1, none⟩) (by show w.heap.size ≤ w.heap.size + 1 + 1; omega) (.string ⟨S.1.toArray⟩)
            have HD3 := Lib.hid d3
            have HDD3 := Lib.hid dd3
            clear d3 dd3
            go_wp2_with (go_at_call 44; refine (C4.out _ r3).mono ?_; rintro e w4 ⟨⟨ra, rn, rc, rfl, row4⟩, ⟨mv4, r4⟩, p4⟩; refine Hid.out ?_)
            refine Lib.hid ?_
            clear a0 a1 a2 a3 g0 g1 g2 g3
            have d4 := HD3.out.kept p4
            have bb4 := bb3.trans p4.1
            obtain ⟨a0, a1, a2, a3, g0, g1, g2, g3⟩ := four_cells d4.2
            replace r4 := r4.set_other (i := 2) (u := .slice ra rn rc) d4.2 (by decide) (show w.heap.size + 1 + 1 ≠ w.heap.size + 1 by omega) (HOV.out _ (by omega))
            have dd4 := d4
            replace d4 := d4.set 2 (.slice ra rn rc)
            replace bb4 := bb4.setCell (p := ⟨w.heap.size + 1 + 1, 2, none⟩) (by show w.heap.size ≤ w.heap.size + 1 + 1; omega) (.slice ra rn rc)
            have HD4 := Lib.hid d4
            have HDD4 := Lib.hid dd4
            clear d4 dd4
            have row4 := (row4 (by trivial)).set HDD4.out.2 (by decide) 2 (.slice ra rn rc)
            clear HDD4
            go_wp2_with (go_at_call 41; refine (C5.out _ _ r4).mono ?_; rintro e w5 ⟨rfl, r5, p5⟩; refine Hid.out ?_)
            refine Lib.hid ?_
            clear a0 a1 a2 a3 g0 g1 g2 g3
            have d5 := HD4.out.kept p5
            have bb5 := bb4.trans p5.1
            have row5 := row4.kept p5 (r4.apart row4)
            have HE := Lib.hid d5
            obtain ⟨y0, y1, y2, y3, f0, f1, f2, f3⟩ := four_cells d5.1
            go_wp2
            go_step3
            refine ⟨_, by rw [HF.out]; rfl, ?_⟩
            clear HF
            go_wp2
            rw [Exit.noGoto_ret]
            have hfin := set_four HE.out.1 (.int .i64 0) (.string ⟨#[]⟩) (.slice none 0 0) (.slice none 0 0)
            obtain ⟨v0, v1, v2, v3, _⟩ := four_cells hfin
            obtain rfl : out = (msg0, D.1) := HO.out
            exact bodyPost_ret (v := .tuple #[Z4, .int .i64 D.1]) (by simp [results, Tryd.results17, go_sem, Z4, v0, v1, v2, v3]) rfl ⟨⟨Z4, rfl, fun h => absurd h HZ.out, fun _ => rfl⟩, (((bb5.setCell (Nat.le_refl _) _).setCell (Nat.le_refl _) _).setCell (Nat.le_refl _) _).setCell (Nat.le_refl _) _⟩
        · have HO : Hid (out = (msg0, R.2.1)) := by unfold Hid; rw [ho, if_neg (by simp [hz1]), if_neg (by simp [hz2]), if_neg (by simp [hz3]), if_pos hz4]
          have HZ : Hid (R.2.1 ≠ 0) := hz4
          have hbz : (R.2.1 != 0) = true := by simpa using hz4
          rw [hz1] at C1
          rw [hz2] at C2
          rw [hz3] at C3
          clear ho T2 T6 T6l hz1 hz2 hz3 hz4
          go_enter Tryd.func17, Tryd.ntmps17
          go_wp2
          refine wp_scope_fwd fun F hF => ?_
          have HF := Lib.hid hF
          clear hF
          go_wp2_with (go_at_call 41; refine (HW0.out ▸ C1.out).mono ?_; rintro e w1 ⟨rfl, r1, p1⟩; refine Hid.out ?_)
          refine Lib.hid ?_
          rw [← HW0.out] at p1
          have d1 := HDS0.out.kept p1
          have bb1 := HB0.out.trans p1.1
          go_wp2_with (go_at_call 42; refine (C2.out _ r1).mono ?_; rintro e w2 ⟨rfl, r2, p2⟩; refine Hid.out ?_)
          refine Lib.hid ?_
          have d2 := d1.kept p2
          have bb2 := bb1.trans p2.1
          obtain ⟨a0, a1, a2, a3, g0, g1, g2, g3⟩ := four_cells d2.2
          replace r2 := r2.set_other (i := 0) (u := .int .i64 N') d2.2 (by decide) (show w.heap.size + 1 + 1 ≠ w.heap.size + 1 by omega) (HOV.out _ (by omega))
          have dd2 := d2
          replace d2 := d2.set 0 (.int .i64 N')
          replace bb2 := bb2.setCell (p := ⟨w.heap.size + 1 + 1, 0, none⟩) (by show w.heap.size ≤ w.heap.size + 1 + 1; omega) (.int .i64 N')
          have HD2 := Lib.hid d2
          have HDD2 := Lib.hid dd2
          clear d2 dd2
          go_wp2_with (go_at_call 43; refine (C3.out _ r2).mono ?_; rintro e w3 ⟨rfl, r3, p3⟩; refine Hid.out ?_)
          refine Lib.hid ?_
          clear a0 a1 a2 a3 g0 g1 g2 g3
          have d3 := HD2.out.kept p3
          have bb3 := bb2.trans p3.1
          obtain ⟨a0, a1, a2, a3, g0, g1, g2, g3⟩ := four_cells d3.2
          replace r3 := r3.set_other (i := 1) (u := .string ⟨S.1.toArray⟩) d3.2 (by decide) (show w.heap.size + 1 + 1 ≠ w.heap.size + 1 by omega) (HOV.out _ (by omega))
          have dd3 := d3
          replace d3 := d3.set 1 (.string ⟨S.1.toArray⟩)
          replace bb3 := bb3.setCell (p := ⟨w.heap.size + 1 + 1, 1, none⟩) (by show w.heap.size ≤ w.heap.size + 1 + 1; omega) (.string ⟨S.1.toArray⟩)
          have HD3 := Lib.hid d3
          have HDD3 := Lib.hid dd3
          clear d3 dd3
          go_wp2_with (go_at_call 44; refine (C4.out _ r3).mono ?_; rintro e w4 ⟨⟨ra, rn, rc, rfl, row4⟩, ⟨mv4, r4⟩, p4⟩; refine Hid.out ?_)
          refine Lib.hid ?_
          clear a0 a1 a2 a3 g0 g1 g2 g3
          have d4 := HD3.out.kept p4
          have bb4 := bb3.trans p4.1
          obtain ⟨a0, a1, a2, a3, g0, g1, g2, g3⟩ := four_cells d4.2
          replace r4 := r4.set_other (i := 2) (u := .slice ra rn rc) d4.2 (by decide) (show w.heap.size + 1 + 1 ≠ w.heap.size + 1 by omega) (HOV.out _ (by omega))
          have dd4 := d4
          replace d4 := d4.set 2 (.slice ra rn rc)
          replace bb4 := bb4.setCell (p := ⟨w.heap.size + 1 + 1, 2, none⟩) (by show w.heap.size ≤ w.heap.size + 1 + 1; omega) (.slice ra rn rc)
          have HD4 := Lib.hid d4
          have HDD4 := Lib.hid dd4
          clear d4 dd4
          have HE := Lib.hid HD4.out
          obtain ⟨y0, y1, y2, y3, f0, f1, f2, f3⟩ := four_cells HD4.out.1
          go_wp2
          go_step3
          refine ⟨_, by rw [HF.out]; rfl, ?_⟩
          clear HF
          go_wp2
          rw [Exit.noGoto_ret]
          have hfin := set_four HE.out.1 (.int .i64 0) (.string ⟨#[]⟩) (.slice none 0 0) (.slice none 0 0)
          obtain ⟨v0, v1, v2, v3, _⟩ := four_cells hfin
          obtain rfl : out = (msg0, R.2.1) := HO.out
          exact bodyPost_ret (v := .tuple #[Z4, .int .i64 R.2.1]) (by simp [results, Tryd.results17, go_sem, Z4, v0, v1, v2, v3]) rfl ⟨⟨Z4, rfl, fun h => absurd h HZ.out, fun _ => rfl⟩, (((bb4.setCell (Nat.le_refl _) _).setCell (Nat.le_refl _) _).setCell (Nat.le_refl _) _).setCell (Nat.le_refl _) _⟩
      · have HO : Hid (out = (msg0, S.2.1)) := by unfold Hid; rw [ho, if_neg (by simp [hz1]), if_neg (by simp [hz2]), if_pos hz3]
        have HZ : Hid (S.2.1 ≠ 0) := hz3
        have hbz : (S.2.1 != 0) = true := by simpa using hz3
        rw [hz1] at C1
        rw [hz2] at C2
        clear ho T2 T6 T6l hz1 hz2 hz3
        go_enter Tryd.func17, Tryd.ntmps17
        go_wp2
        refine wp_scope_fwd fun F hF => ?_
        have HF := Lib.hid hF
        clear hF
        go_wp2_with (go_at_call 41; refine (HW0.out ▸ C1.out).mono ?_; rintro e w1 ⟨rfl, r1, p1⟩; refine Hid.out ?_)
        refine Lib.hid ?_
        rw [← HW0.out] at p1
        have d1 := HDS0.out.kept p1
        have bb1 := HB0.out.trans p1.1
        go_wp2_with (go_at_call 42; refine (C2.out _ r1).mono ?_; rintro e w2 ⟨rfl, r2, p2⟩; refine Hid.out ?_)
        refine Lib.hid ?_
        have d2 := d1.kept p2
        have bb2 := bb1.trans p2.1
        obtain ⟨a0, a1, a2, a3, g0, g1, g2, g3⟩ := four_cells d2.2
        replace r2 := r2.set_other (i := 0) (u := .int .i64 N') d2.2 (by decide) (show w.heap.size + 1 + 1 ≠ w.heap.size + 1 by omega) (HOV.out _ (by omega))
        have dd2 := d2
        replace d2 := d2.set 0 (.int .i64 N')
        replace bb2 := bb2.setCell (p := ⟨w.heap.size + 1 + 1, 0, none⟩) (by show w.heap.size ≤ w.heap.size + 1 + 1; omega) (.int .i64 N')
        have HD2 := Lib.hid d2
        have HDD2 := Lib.hid dd2
        clear d2 dd2
        go_wp2_with (go_at_call 43; refine (C3.out _ r2).mono ?_; rintro e w3 ⟨rfl, r3, p3⟩; refine Hid.out ?_)
        refine Lib.hid ?_
        clear a0 a1 a2 a3 g0 g1 g2 g3
        have d3 := HD2.out.kept p3
        have bb3 := bb2.trans p3.1
        obtain ⟨a0, a1, a2, a3, g0, g1, g2, g3⟩ := four_cells d3.2
        replace r3 := r3.set_other (i := 1) (u := .string ⟨S.1.toArray⟩) d3.2 (by decide) (show w.heap.size + 1 + 1 ≠ w.heap.size + 1 by omega) (HOV.out _ (by omega))
        have dd3 := d3
        replace d3 := d3.set 1 (.string ⟨S.1.toArray⟩)
        replace bb3 := bb3.setCell (p := ⟨w.heap.size + 1 + 1, 1, none⟩) (by show w.heap.size ≤ w.heap.size + 1 + 1; omega) (.string ⟨S.1.toArray⟩)
        have HD3 := Lib.hid d3
        have HDD3 := Lib.hid dd3
        clear d3 dd3
        have HE := Lib.hid HD3.out
        obtain ⟨y0, y1, y2, y3, f0, f1, f2, f3⟩ := four_cells HD3.out.1
        go_wp2
        go_step3
        refine ⟨_, by rw [HF.out]; rfl, ?_⟩
        clear HF
        go_wp2
        rw [Exit.noGoto_ret]
        have hfin := set_four HE.out.1 (.int .i64 0) (.string ⟨#[]⟩) (.slice none 0 0) (.slice none 0 0)
        obtain ⟨v0, v1, v2, v3, _⟩ := four_cells hfin
        obtain rfl : out = (msg0, S.2.1) := HO.out
        exact bodyPost_ret (v := .tuple #[Z4, .int .i64 S.2.1]) (by simp [results, Tryd.results17, go_sem, Z4, v0, v1, v2, v3]) rfl ⟨⟨Z4, rfl, fun h => absurd h HZ.out, fun _ => rfl⟩, (((bb3.setCell (Nat.le_refl _) _).setCell (Nat.le_refl _) _).setCell (Nat.le_refl _) _).setCell (Nat.le_refl _) _⟩
    · have HO : Hid (out = (msg0, N.2.1)) := by unfold Hid; rw [ho, if_neg (by simp [hz1]), if_pos hz2]
      have HZ : Hid (N.2.1 ≠ 0) := hz2
      have hbz : (N.2.1 != 0) = true := by simpa using hz2
      rw [hz1] at C1
      clear ho T2 T6 T6l hz1 hz2
      go_enter Tryd.func17, Tryd.ntmps17
      go_wp2
      refine wp_scope_fwd fun F hF => ?_
      have HF := Lib.hid hF
      clear hF
      go_wp2_with (go_at_call 41; refine (HW0.out ▸ C1.out).mono ?_; rintro e w1 ⟨rfl, r1, p1⟩; refine Hid.out ?_)
      refine Lib.hid ?_
      rw [← HW0.out] at p1
      have d1 := HDS0.out.kept p1
      have bb1 := HB0.out.trans p1.1
      go_wp2_with (go_at_call 42; refine (C2.out _ r1).mono ?_; rintro e w2 ⟨rfl, r2, p2⟩; refine Hid.out ?_)
      refine Lib.hid ?_
      have d2 := d1.kept p2
      have bb2 := bb1.trans p2.1
      obtain ⟨a0, a1, a2, a3, g0, g1, g2, g3⟩ := four_cells d2.2
      replace r2 := r2.set_other (i := 0) (u := .int .i64 N') d2.2 (by decide) (show w.heap.size + 1 + 1 ≠ w.heap.size + 1 by omega) (HOV.out _ (by omega))
      have dd2 := d2
      replace d2 := d2.set 0 (.int .i64 N')
      replace bb2 := bb2.setCell (p := ⟨w.heap.size + 1 + 1, 0, none⟩) (by show w.heap.size ≤ w.heap.size + 1 + 1; omega) (.int .i64 N')
      have HD2 := Lib.hid d2
      have HDD2 := Lib.hid dd2
      clear d2 dd2
      have HE := Lib.hid HD2.out
      obtain ⟨y0, y1, y2, y3, f0, f1, f2, f3⟩ := four_cells HD2.out.1
      go_wp2
      go_step3
      refine ⟨_, by rw [HF.out]; rfl, ?_⟩
      clear HF
      go_wp2
      rw [Exit.noGoto_ret]
      have hfin := set_four HE.out.1 (.int .i64 0) (.string ⟨#[]⟩) (.slice none 0 0) (.slice none 0 0)
      obtain ⟨v0, v1, v2, v3, _⟩ := four_cells hfin
      obtain rfl : out = (msg0, N.2.1) := HO.out
      exact bodyPost_ret (v := .tuple #[Z4, .int .i64 N.2.1]) (by simp [results, Tryd.results17, go_sem, Z4, v0, v1, v2, v3]) rfl ⟨⟨Z4, rfl, fun h => absurd h HZ.out, fun _ => rfl⟩, (((bb2.setCell (Nat.le_refl _) _).setCell (Nat.le_refl _) _).setCell (Nat.le_refl _) _).setCell (Nat.le_refl _) _⟩
  · have HO : Hid (out = (msg0, F0.1)) := by unfold Hid; rw [ho, if_pos hz1]
    have HZ : Hid (F0.1 ≠ 0) := hz1
    have hbz : (F0.1 != 0) = true := by simpa using hz1
    clear ho T2 T6 T6l hz1
    go_enter Tryd.func17, Tryd.ntmps17
    go_wp2
    refine wp_scope_fwd fun F hF => ?_
    have HF := Lib.hid hF
    clear hF
    go_wp2_with (go_at_call 41; refine (HW0.out ▸ C1.out).mono ?_; rintro e w1 ⟨rfl, r1, p1⟩; refine Hid.out ?_)
    refine Lib.hid ?_
    rw [← HW0.out] at p1
    have d1 := HDS0.out.kept p1
    have bb1 := HB0.out.trans p1.1
    have HE := Lib.hid d1
    obtain ⟨y0, y1, y2, y3, f0, f1, f2, f3⟩ := four_cells d1.1
    go_wp2
    go_step3
    refine ⟨_, by rw [HF.out]; rfl, ?_⟩
    clear HF
    go_wp2
    rw [Exit.noGoto_ret]
    have hfin := set_four HE.out.1 (.int .i64 0) (.string ⟨#[]⟩) (.slice none 0 0) (.slice none 0 0)
    obtain ⟨v0, v1, v2, v3, _⟩ := four_cells hfin
    obtain rfl : out = (msg0, F0.1) := HO.out
    exact bodyPost_ret (v := .tuple #[Z4, .int .i64 F0.1]) (by simp [results, Tryd.results17, go_sem, Z4, v0, v1, v2, v3]) rfl ⟨⟨Z4, rfl, fun h => absurd h HZ.out, fun _ => rfl⟩, (((bb1.setCell (Nat.le_refl _) _).setCell (Nat.le_refl _) _).setCell (Nat.le_refl _) _).setCell (Nat.le_refl _) _⟩
end Go.Proofs.YthoeicidilnleaaDoor.Codec
