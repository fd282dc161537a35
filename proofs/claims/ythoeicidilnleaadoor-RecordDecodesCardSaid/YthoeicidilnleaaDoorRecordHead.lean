/-
  RECORD: what stands ahead of the data, and where its marks stand: the program's way.
-/
import Derived.Test.YthoeicidilnleaaDoorRecordAdd
import Derived.Deep.RegionHeld3
import Derived.OneCell
namespace Go.Proofs.YthoeicidilnleaaDoor.Codec
open Go.RowKit

/-- What a message that may be keeps to. -/
def Valid (m : Msg) : Prop := 0 ≤ m.time ∧ m.time ≤ 9007199254740992 ∧ m.sender.size ≤ 320 ∧ 1 ≤ m.rcpts.length ∧ m.rcpts.length ≤ 200 ∧ (∀ r ∈ m.rcpts, r.1.size ≤ 320) ∧ m.data.length ≤ 1048576
theorem valid_of {m : Msg} (h : rightOf m = 0) : Valid m ∧ longB m = false ∧ formB m = true := by
  unfold rightOf at h
  by_cases h1 : longB m = true
  · rw [if_pos h1] at h; cases h
  · rw [if_neg h1] at h
    by_cases h2 : formB m = true
    · have h1 : longB m = false := by simpa using h1
      refine ⟨?_, h1, h2⟩
      unfold longB at h1
      unfold formB at h2
      simp only [Bool.or_eq_false_iff, decide_eq_false_iff_not, Bool.and_eq_true, decide_eq_true_eq, List.any_eq_false] at h1 h2
      refine ⟨h2.1.1.1.1, h2.1.1.1.2, by omega, h2.1.2.1, h2.1.2.2, fun r hr => ?_, by omega⟩
      have := h1.2 r hr
      omega
    · rw [if_neg h2] at h; cases h

theorem headOf_len {m : Msg} (h : Valid m) : (headOf m).length ≤ 400 := by
  obtain ⟨h1, h2, h3, h4, h5, h6, h7⟩ := h
  unfold headOf
  have a := (numBytes_len (n := m.time.toNat) (by omega)).2
  have hs : m.sender.data.toList.length = m.sender.size := Array.length_toList
  have b := (textBytes_len (s := m.sender.data.toList) (by omega)).2
  have c := (numBytes_len (n := m.rcpts.length) (by omega)).2
  simp only [List.length_append, List.length_cons, List.length_nil] at *
  omega
theorem rcBytes_len_le (p : Bool) {r : Rc} (h : r.1.size ≤ 320) : (rcBytes p r).length ≤ 350 := by
  unfold rcBytes
  have hs : r.1.data.toList.length = r.1.size := Array.length_toList
  have b := (textBytes_len (s := r.1.data.toList) (by omega)).2
  simp only [List.length_cons]
  omega
theorem rcsBytes_len_le (p : Bool) : ∀ rs : List Rc, (∀ r ∈ rs, r.1.size ≤ 320) → (rcsBytes p rs).length ≤ 350 * rs.length := by
  intro rs
  induction rs with
  | nil => intro _; simp [rcsBytes]
  | cons r t ih =>
    intro h
    have h1 := rcBytes_len_le p (h r (by simp))
    have h2 := ih fun x hx => h x (by simp [hx])
    simp only [rcsBytes, List.flatMap_cons, List.length_append, List.length_cons] at h2 ⊢
    omega
theorem take_snocR {rs : List Rc} {k : Nat} (h : k < rs.length) : rs.take (k + 1) = rs.take k ++ [rs.getD k rc0] := by
  rw [List.take_succ_eq_append_getElem h]; simp [List.getD, List.getElem?_eq_getElem h, -List.take_append_getElem]
theorem rcs_take {rs : List Rc} {k : Nat} (h : k < rs.length) (p : Bool) : rcsBytes p (rs.take (k + 1)) = rcsBytes p (rs.take k) ++ rcBytes p (rs.getD k rc0) := by
  rw [take_snocR h, rcsBytes_snoc]

theorem info3 : (Tryd.prog.info? 3).map (fun i => (i.zero, i.size, i.bytes)) = some (some (.int .i64 0), 1, 8) := by kernel_rfl
/-- The marks' row. -/
def Marks (w : World) (B : Nat) (v : Value) (l : List Nat) : Prop := w.ownsRow B 3 1 v l.length (l.map fun (k : Nat) => Value.int .i64 (k : Int))
def marksTo (m : Msg) (k : Nat) : List Nat := (List.range m.rcpts.length).map fun j => if j < k then markAt m j else 0

theorem reads_lit2 (w : World) (t : TypeId) (cs : Array Value) (l : List UInt8) (n H : Nat) (hn : n = l.length) (h : cs.toList = Lib.byteCells l) (fz : Nat × Nat) (hH : w.heap.size = H) : Reads (w.alloc (.cells cs t fz)) (.slice (some ⟨H, 0, none⟩) n n) l := by
  subst hH; exact reads_lit w t cs l n hn h fz
theorem conv_const2 (w : World) (o : Obj) (C : Array Value) (n c : Nat) :
    (convert 23 23 (.slice (some ⟨w.heap.size + 1, 0, none⟩) n c)).run Tryd.prog ((w.alloc o).alloc (.cells C 5)) = .ok (.slice (some ⟨w.heap.size + 1, 0, none⟩) n c) ((w.alloc o).alloc (.cells C 5 (C.size, C.size + 1))) := by
  have := Lib.run_convert_bytes_const (P := Tryd.prog) (w.alloc o) 23 5 C n c Tryd.underlying23 Tryd.underlying5
  rwa [show (w.alloc o).heap.size = w.heap.size + 1 by simp] at this
theorem marksTo_step {m : Msg} {k : Nat} (_h : k < m.rcpts.length) : marksTo m (k + 1) = (marksTo m k).set k (markAt m k) := by
  unfold marksTo
  apply List.ext_getElem
  · simp
  · intro j h1 h2
    simp only [List.getElem_map, List.getElem_range, List.getElem_set]
    by_cases e : k = j
    · subst e; simp
    · rw [if_neg e]
      by_cases hj : j < k
      · rw [if_pos hj, if_pos (by omega)]
      · rw [if_neg hj, if_neg (by omega)]
theorem marksTo_len (m : Msg) (k : Nat) : (marksTo m k).length = m.rcpts.length := by simp [marksTo]
theorem Marks.spared {w w' : World} {B : Nat} {u v : Value} {l : List Nat} {xs : List UInt8} (h : Marks w B u l) (hs : Spares v w w') (hv : Owns w B v xs) : Marks w' B u l := hs.own h (own_apart hv h (by decide))
theorem Marks.on {w w' : World} {B : Nat} {u : Value} {l : List Nat} (h : Marks w B u l) (hb : Below w.heap.size w w') : Marks w' B u l := by
  refine ⟨h.1, ?_⟩
  rcases h.2 with hn | ⟨g, cap, cur, rfl, h1, h2, h3⟩
  · exact Or.inl hn
  · refine Or.inr ⟨g, cap, cur, rfl, h1, ?_, h3⟩
    have hg : g < w.heap.size := by
      rcases Nat.lt_or_ge g w.heap.size with h | h
      · exact h
      · rw [Array.getElem?_eq_none h] at h2; simp at h2
    rw [hb.block g hg, h2]
theorem Marks.mono {w : World} {B B' : Nat} {u : Value} {l : List Nat} (h : Marks w B u l) (hB : B' ≤ B) : Marks w B' u l := by
  refine ⟨h.1, ?_⟩
  rcases h.2 with hn | ⟨g, cap, cur, rfl, h1, h2⟩
  · exact Or.inl hn
  · exact Or.inr ⟨g, cap, cur, rfl, by omega, h2⟩
theorem Spares.cell {v : Value} {w w' : World} (h : Spares v w w') {p : Addr} (hp : p.block < w.heap.size) (hne : v.ownBlock ≠ some p.block) : w'.cell? p = w.cell? p := World.cell?_of_block (h.2 p.block hp fun e => hne e.symm)
theorem Owns.below_block {w : World} {B : Nat} {v : Value} {l : List UInt8} (h : Owns w B v l) {g : Nat} (hg : w.heap.size ≤ g) : v.ownBlock ≠ some g := fun e => by
  have := (World.ownsRow.lt h g e).2; omega
theorem Owns.apart {w : World} {B : Nat} {v : Value} {l : List UInt8} (h : Owns w B v l) {g : Nat} {cs : Array Value} {t : TypeId} {fz : Nat × Nat} (hg : w.heap[g]? = some (.cells cs t fz)) (ht : t ≠ 5) : v.ownBlock ≠ some g := fun e => by
  rcases h.2 with ⟨rfl, _⟩ | ⟨g', cap, cur, rfl, _, h2, _⟩
  · simp [Value.ownBlock] at e
  · have : g' = g := by simpa [Value.ownBlock] using e
    subst this
    rw [hg] at h2
    injection h2 with h2
    injection h2 with _ h3
    exact ht h3
theorem Spares.block {v : Value} {w w' : World} (h : Spares v w w') {g : Nat} {o : Obj} (hg : w.heap[g]? = some o) (hne : v.ownBlock ≠ some g) : w'.heap[g]? = some o := by
  have hlt : g < w.heap.size := by
    rcases Nat.lt_or_ge g w.heap.size with h | h
    · exact h
    · rw [Array.getElem?_eq_none h] at hg; simp at hg
  rw [h.2 g hlt fun e => hne e.symm, hg]
/-- A message's own block in a call. -/
def BoxAt (w : World) (g : Nat) (t : Int) (s : ByteArray) (V D : Value) : Prop := w.cell? ⟨g, 0, none⟩ = some (.int .i64 t) ∧ w.cell? ⟨g, 1, none⟩ = some (.string s) ∧ w.cell? ⟨g, 2, none⟩ = some V ∧ w.cell? ⟨g, 3, none⟩ = some D
theorem BoxAt.new (w : World) (t : Int) (s : ByteArray) (V D : Value) (ty : TypeId) : BoxAt (w.alloc (.cells #[.int .i64 t, .string s, V, D] ty)) w.heap.size t s V D := ⟨by go_simp, by go_simp, by go_simp, by go_simp⟩
theorem BoxAt.on {w w' : World} {g B : Nat} {t : Int} {s : ByteArray} {V D : Value} (h : BoxAt w g t s V D) (hb : Below B w w') (hg : g < B) : BoxAt w' g t s V D := by
  have g1 := fun o => hb.cell (p := ⟨g, o, none⟩) hg
  obtain ⟨a, b, c, d⟩ := h
  exact ⟨by rw [g1]; exact a, by rw [g1]; exact b, by rw [g1]; exact c, by rw [g1]; exact d⟩

set_option maxHeartbeats 1000000 in
set_option maxRecDepth 100000 in
theorem cHead (v : Value) (m : Msg) (w : World) (hv : Valid m) (hm : MR w v m) (htab : Tab w.heap.size w) :
    Calls Tryd.prog 24 #[v] w fun e w' => ∃ b mv, e = .returned (.tuple #[b, mv]) ∧ Owns w' w.heap.size b (headOf m ++ rcsBytes true m.rcpts) ∧ Marks w' w.heap.size mv (marksTo m m.rcpts.length) ∧ Below w.heap.size w w' := by
  obtain ⟨A, c, D, e, rfl, hr, _⟩ := hm
  unfold msgV
  have hlen := headOf_len hv
  obtain ⟨h1, h2, h3, h4, h5, h6, h7⟩ := hv
  obtain ⟨t, ht⟩ := Int.eq_ofNat_of_zero_le h1
  obtain ⟨n, hn⟩ : ∃ n, n = m.rcpts.length := ⟨_, rfl⟩
  obtain ⟨s, hs⟩ : ∃ s, s = m.sender := ⟨_, rfl⟩
  generalize hd : m.data.length = dn at *
  have hnt : (headOf m) = [87, 49, 59, 116] ++ numBytes t ++ 102 :: textBytes s.data.toList ++ 110 :: numBytes n := by unfold headOf; rw [ht, hs, hn]; rfl
  have hl1 := (numBytes_len (n := t) (by omega)).2
  have hsl : s.data.toList.length = s.size := Array.length_toList
  rw [← hs] at h3
  have hl2 := (textBytes_len (s := s.data.toList) (by omega)).2
  rw [ht, ← hs]
  rw [← hn] at h4 h5 ⊢
  have kc := fun (o : Obj) (C : Array Value) (n c : Nat) => conv_const2 w o C n c
  have N1 : Hid (∀ v w1, Apps w1 (w.heap.size + 1) v [87, 49, 59, 116] → w.heap.size + 1 ≤ w1.heap.size → Below w.heap.size w w1 → Calls Tryd.prog 49 #[v, .int .i64 t] w1 (AddEnd2 (w.heap.size + 1) v ([87, 49, 59, 116] ++ numBytes t) w1)) := fun v w1 ha hb hw => cAddNumber _ v _ t w1 ha hb (by simp) (by omega) ((htab.on hw).up (Nat.le_succ _))
  have HT := Lib.hid htab
  have HR := Lib.hid hr
  have HNT := Lib.hid hnt
  obtain ⟨X1, hX1⟩ : ∃ X1, X1 = [87, 49, 59, 116] ++ numBytes t := ⟨_, rfl⟩
  rw [← hX1] at N1 hnt
  have HX1 := Lib.hid hX1
  have hx1 : X1.length ≤ 40 := by rw [hX1]; simp at hl1 ⊢; omega
  have HN := Lib.hid hn
  have H6 := Lib.hid h6
  clear htab hr hnt hX1 hsl hn hs ht hd h6 h1 h2
  go_enter Tryd.func24, Tryd.ntmps24
  go_wp2_with fail
  go_at_call 49
  refine (N1.out _ _ (Or.inr ⟨⟨_, _, rfl⟩, reads_lit2 _ _ _ [87, 49, 59, 116] 4 _ rfl rfl _ (by simp)⟩) (by simp) (((Below.refl _ _).alloc (Nat.le_refl _) _).alloc (by simp) _)).mono ?_
  rintro e w1 ⟨v1, rfl, own1, hb1, _⟩
  have bx := ((BoxAt.new w t s (.slice A n c) (.slice D dn e) 25).on ((Below.refl (w.heap.size + 1) _).alloc (by simp) (.cells #[.int .u8 87, .int .u8 49, .int .u8 59, .int .u8 116] 5 (4, 5))) (Nat.lt_succ_self _)).on hb1 (Nat.lt_succ_self _)
  have bw : Below w.heap.size w w1 := (((Below.refl w.heap.size w).alloc (Nat.le_refl _) _).alloc (by simp) _).trans (hb1.mono (by omega))
  have z1 : w.heap.size + 1 ≤ w1.heap.size := by have := hb1.size; simp at this; omega
  have HT1 : Hid (Tab (w.heap.size + 1) w1) := (HT.out.on bw).up (Nat.le_succ _)
  have N2 : Hid (∀ v w2, Owns w2 (w.heap.size + 1) v (X1 ++ [102]) → Below (w.heap.size + 1) w1 w2 → Calls Tryd.prog 25 #[v, .string s] w2 (AddEnd2 (w.heap.size + 1) v ((X1 ++ [102]) ++ textBytes s.data.toList) w2)) := fun v w2 ha hb => cAddText _ v _ s w2 (Or.inl ha) (Nat.le_trans z1 hb.size) (by simp; omega) (by omega) (HT1.out.on hb)
  obtain ⟨b0, b1, b2, b3⟩ := bx
  clear kc N1 hb1 HT
  refine Hid.out ?_
  refine Lib.hid ?_
  go_wp2_with fail
  go_region_held3 (fun w' => w'.cell? ⟨w.heap.size, 1, none⟩ = some (.string s))
    (first | go_keep | (rw [hb2.cell (p := ⟨w.heap.size, 1, none⟩) (Nat.lt_succ_self _)]; go_keep) | (rw [hb3.cell (p := ⟨w.heap.size, 1, none⟩) (Nat.lt_succ_self _)]; assumption))
    (first
      | (refine step_append_apps _ rfl (.tmp 13) (.tmp 14) rfl (w.heap.size + 1) v1 (.slice (some ⟨w1.heap.size, 0, none⟩) 1 1) X1 [102] rfl rfl (Or.inl (own1.on ((Below.refl _ _).alloc (Nat.le_refl _) _).drew)) (reads_one _ _ _ 102 rfl).drew (Nat.succ_pos 0) (by simp; omega) (by simp; omega) ?_; intro v2 w2 own2 hb2 sp2)
      | (go_at_call 25; refine (N2.out _ _ own2 (((Below.refl _ _).alloc z1 _).drew.trans hb2)).mono ?_; rintro e w3 ⟨v3, rfl, own3, hb3, _⟩))
  replace bw := bw.trans (((((Below.refl _ _).alloc z1 _).drew.trans hb2).trans hb3).mono (Nat.le_succ _))
  have z3 : w.heap.size + 1 ≤ w3.heap.size := Nat.le_trans z1 ((((Below.refl _ _).alloc z1 _).drew.trans hb2).trans hb3).size
  have bx : BoxAt w3 w.heap.size t s (.slice A n c) (.slice D dn e) := BoxAt.on (w := w1) ⟨b0, b1, b2, b3⟩ ((((Below.refl _ _).alloc z1 _).drew.trans hb2).trans hb3) (Nat.lt_succ_self _)
  obtain ⟨X3, hX3⟩ : ∃ X3, X3 = X1 ++ [102] ++ textBytes s.data.toList := ⟨_, rfl⟩
  rw [← hX3] at own3
  have HX3 := Lib.hid hX3
  have hx3 : X3.length ≤ 400 := by
    rw [hX3]; have hsl : s.data.toList.length = s.size := Array.length_toList
    simp only [List.length_append, List.length_cons, List.length_nil]; omega
  have HT3 : Hid (Tab (w.heap.size + 1) w3) := HT1.out.on ((((Below.refl _ _).alloc z1 _).drew.trans hb2).trans hb3)
  clear hX3 own1 own2 sp2 hb2 hb3 N2 HT1 b0 b1 b2 b3 z1
  obtain ⟨b0, b1, b2, b3⟩ := bx
  have N3 : Hid (∀ v w4, Owns w4 (w.heap.size + 1) v (X3 ++ [110]) → Below (w.heap.size + 1) w3 w4 → Calls Tryd.prog 49 #[v, .int .i64 n] w4 (AddEnd2 (w.heap.size + 1) v ((X3 ++ [110]) ++ numBytes n) w4)) := fun v w4 ha hb => cAddNumber _ v _ n w4 (Or.inl ha) (Nat.le_trans z3 hb.size) (by simp; omega) (by omega) (HT3.out.on hb)
  refine Hid.out ?_
  refine Lib.hid ?_
  go_wp2_with fail
  go_region_held3 (fun w' => w'.cell? ⟨w.heap.size, 2, none⟩ = some (.slice A n c))
    (first | go_keep | (rw [hb4.cell (p := ⟨w.heap.size, 2, none⟩) (Nat.lt_succ_self _)]; go_keep) | (rw [hb5.cell (p := ⟨w.heap.size, 2, none⟩) (Nat.lt_succ_self _)]; assumption))
    (first
      | (refine step_append_apps _ rfl (.tmp 19) (.tmp 20) rfl (w.heap.size + 1) v3 (.slice (some ⟨w3.heap.size, 0, none⟩) 1 1) X3 [110] rfl rfl (Or.inl (own3.on ((Below.refl _ _).alloc (Nat.le_refl _) _).drew)) (reads_one _ _ _ 110 rfl).drew (Nat.succ_pos 0) (by simp; omega) (by simp; omega) ?_; intro v4 w4 own4 hb4 sp4)
      | (go_at_call 49; refine (N3.out _ _ own4 (((Below.refl _ _).alloc z3 _).drew.trans hb4)).mono ?_; rintro e w5 ⟨v5, rfl, own5, hb5, _⟩))
  replace bw := bw.trans (((((Below.refl _ _).alloc z3 _).drew.trans hb4).trans hb5).mono (Nat.le_succ _))
  have z5 : w.heap.size + 1 ≤ w5.heap.size := Nat.le_trans z3 ((((Below.refl _ _).alloc z3 _).drew.trans hb4).trans hb5).size
  have bx : BoxAt w5 w.heap.size t s (.slice A n c) (.slice D dn e) := BoxAt.on (w := w3) ⟨b0, b1, b2, b3⟩ ((((Below.refl _ _).alloc z3 _).drew.trans hb4).trans hb5) (Nat.lt_succ_self _)
  have HT5 : Hid (Tab (w.heap.size + 1) w5) := HT3.out.on ((((Below.refl _ _).alloc z3 _).drew.trans hb4).trans hb5)
  have hX : X3 ++ [110] ++ numBytes n = headOf m := by rw [HNT.out, HX3.out, HX1.out]; simp
  rw [hX] at own5
  have HX := Lib.hid hX
  clear hX own3 own4 sp4 hb4 hb5 N3 HT3 b0 b1 b2 b3 z3
  obtain ⟨b0, b1, b2, b3⟩ := bx
  obtain ⟨i0, hi0, hz0, hz1, hz2⟩ := info_parts info3
  refine Hid.out ?_
  refine Lib.hid ?_
  go_wp2_with (at_make; refine wpList_make_full _ rfl _ _ 49 rfl (w.heap.size + 1) 3 i0 (.int .i64 0) 1 Tryd.underlying49 hi0 hz0 hz1 .i64 .i64 n n n rfl rfl rfl rfl (by rw [hz2]; omega) (by unfold maxLen; omega) z5 ?_; intro w6 hown6 hg6; refine Hid.out ?_)
  refine Lib.hid ?_
  have hb6 : Below (w.heap.size + 1) w5 w6 := (Below.refl _ _).grown hg6 z5 (fun k hk => by cases hk)
  have g1 := fun o => hb6.cell (p := ⟨w.heap.size, o, none⟩) (Nat.lt_succ_self _)
  have hb56 : Below w5.heap.size w5 w6 := (Below.refl _ _).grown hg6 (Nat.le_refl _) (fun k hk => by cases hk)
  obtain ⟨g, hg⟩ : ∃ g, g = w5.heap.size := ⟨_, rfl⟩
  have hmk : Marks w6 (w.heap.size + 1) (.slice (some ⟨g, 0, none⟩) n n) (marksTo m 0) := by
    unfold Marks
    have hl : (marksTo m 0).length = n := by rw [HN.out]; simp [marksTo]
    have he : (marksTo m 0).map (fun (k : Nat) => Value.int .i64 (k : Int)) = (madeCells (Value.int .i64 0).cells (n * 1)).toList := by
      have : (Value.int .i64 0).cells = #[Value.int .i64 0] := rfl
      rw [this, toList_madeCells_one, Nat.mul_one]
      apply List.ext_getElem
      · simp [hl]
      · intro j h1 h2; simp [marksTo]
    rw [hl, he, hg]
    exact hown6
  rw [← hg]
  have hXl := hlen
  have bx : BoxAt w6 w.heap.size t s (.slice A n c) (.slice D dn e) := BoxAt.on (w := w5) ⟨b0, b1, b2, b3⟩ hb6 (Nat.lt_succ_self _)
  obtain ⟨c0, c1, c2, c3⟩ := bx
  clear hown6 hg6 g1 b0 b1 b2 b3
  have own6 := own5.on hb56
  have bw6 := bw.trans (hb6.mono (Nat.le_succ _))
  have HT6 : Hid (Tab (w.heap.size + 1) w6) := HT5.out.on hb6
  have z6 := Nat.le_trans z5 hb6.size
  clear own5 bw HT5 hb6 hb56 z5 hg
  have hown0 : Owns w6 (w.heap.size + 1) v5 (headOf m ++ rcsBytes true (m.rcpts.take 0)) := by simpa [rcsBytes] using own6
  refine Hid.out ?_
  refine Lib.hid ?_
  go_wp2_with fail
  go_loopw [4, 33] (fun s4 i wr => ∃ k : Nat, k ≤ n ∧ i = .int .i64 k ∧ Owns wr (w.heap.size + 1) s4 (headOf m ++ rcsBytes true (m.rcpts.take k)) ∧ Marks wr (w.heap.size + 1) (.slice (some ⟨g, 0, none⟩) n n) (marksTo m k) ∧ Below (w.heap.size + 1) w6 wr) (fun _ i _ => n - (intOf i).toNat)
  case atStart => exact ⟨0, by omega, rfl, hown0, hmk, Below.refl _ _⟩
  case round =>
    obtain ⟨k, hk, rfl, hown, hmarks, hbr⟩ := hrel
    by_cases hlt : k < n
    · obtain ⟨rb, ro, rfl, hcell⟩ := (HR.out.on (bw6.trans (hbr.mono (Nat.le_succ _)))).2 (by rw [← HN.out]; omega)
      obtain ⟨hc1, hc2⟩ := hcell k (by rw [← HN.out]; omega)
      have hs := H6.out _ (getD_mem (rs := m.rcpts) (i := k) (by rw [← HN.out]; omega))
      have hstep := rcs_take (rs := m.rcpts) (k := k) (by rw [← HN.out]; omega) true
      have hml := rcsBytes_len_le true (m.rcpts.take k) (fun r hr => H6.out r (List.mem_of_mem_take hr))
      have htl : (m.rcpts.take k).length ≤ k := List.length_take_le _ _
      have hat : (headOf m ++ rcsBytes true (m.rcpts.take k)).length + 1 = markAt m k := by unfold markAt; rw [List.length_append]
      have hms := marksTo_step (m := m) (k := k) (by rw [← HN.out]; omega)
      have hmkl := marksTo_len m k
      have hxl : (headOf m ++ rcsBytes true (m.rcpts.take k)).length ≤ 80000 := by rw [List.length_append]; omega
      obtain ⟨X, hX⟩ : ∃ X, X = headOf m ++ rcsBytes true (m.rcpts.take k) := ⟨_, rfl⟩
      generalize m.rcpts.getD k rc0 = r at hc1 hc2 hs hstep
      obtain ⟨S, x⟩ := r
      dsimp only at hc1 hc2 hs
      rw [← hX] at hown hat hxl
      have hsl : S.data.toList.length = S.size := Array.length_toList
      have HX2 : Hid (headOf m ++ rcsBytes true (m.rcpts.take (k + 1)) = X ++ [114] ++ [80] ++ textBytes S.data.toList) := by unfold Hid; rw [hstep, hX]; simp [rcBytes]
      have HAT := Lib.hid hat
      have HMS := Lib.hid hms
      have HML : Hid ((marksTo m k).length = n) := by unfold Hid; rw [hmkl, HN.out]
      have zr := Nat.le_trans z6 hbr.size
      have HTr : Hid (Tab (w.heap.size + 1) wr) := HT6.out.on hbr
      clear hcell hstep hml htl hat hms hmkl hX hsl
      go_wp2_with (at_builtin; refine wp_append_apps _ rfl (.tmp 38) (.tmp 39) rfl (w.heap.size + 1) _ _ X [114] rfl rfl (Or.inl (hown.on (((Below.refl _ _).alloc (Nat.le_refl _) _).alloc (by simp) _))) (reads_lit2 _ _ _ [114] 1 _ rfl rfl _ (by simp)) (Nat.succ_pos 0) (by simp; omega) (by simp; omega) ?_; intro v1 w7 own7 hb7 sp7; refine Hid.out ?_)
      refine Lib.hid ?_
      have rbk : w7.heap[wr.heap.size]? = some (.cells #[.string S, .int .u8 (x.toNat : Int)] 41 (0, 0)) := by
        refine sp7.block ?_ (hown.below_block (Nat.le_refl _))
        rw [Below.heap_alloc _ _ _ (by simp)]; exact heap_alloc_new wr _
      have mk7 : Marks w7 (w.heap.size + 1) (.slice (some ⟨g, 0, none⟩) n n) (marksTo m k) := (hmarks.on (((Below.refl _ _).alloc (Nat.le_refl _) _).alloc (by simp) _)).spared sp7 (hown.on (((Below.refl _ _).alloc (Nat.le_refl _) _).alloc (by simp) _))
      obtain ⟨g1, q1, hv1, hq1, hq2⟩ := own7.form2 (by simp)
      have hM : (X ++ [114]).length = markAt m k := by rw [List.length_append, ← HAT.out]; rfl
      rw [hM] at hv1
      have hMb : markAt m k ≤ 80001 := by rw [← HAT.out]; omega
      generalize markAt m k = M at hv1 HMS hMb HAT hM
      have mk7' : w7.ownsRow (w.heap.size + 1) 3 1 (.slice (some ⟨g, 0, none⟩) n n) n ((marksTo m k).map fun (k : Nat) => Value.int .i64 (k : Int)) := by have := mk7; unfold Marks at this; rwa [HML.out] at this
      have hcg : w7.cell? ⟨g, k, none⟩ = some (.int .i64 0) := by
        rw [mk7'.cellAt k (by omega)]
        simp [marksTo, show k < m.rcpts.length by rw [← HN.out]; omega]
      have hfg := mk7'.frozenAt k
      have hgB := (World.ownsRow.lt mk7' g rfl).1
      have hgr : g ≠ wr.heap.size := by have := (World.ownsRow.lt hmarks g rfl).2; omega
      have mk8 := (mk7'.stored k (.int .i64 (M : Int))).1
      have own8 : Owns (w7.setCell ⟨g, k, none⟩ (.int .i64 (M : Int))) (w.heap.size + 1) v1 (X ++ [114]) := by
        refine ownsRow_setCell_other own7 ?_ _
        rcases own_apart own7 mk7' (by decide) with h | h
        · simp [Value.ownBlock] at h
        · exact fun e => h (by rw [e]; rfl)
      have rbk8 : (w7.setCell ⟨g, k, none⟩ (.int .i64 (M : Int))).heap[wr.heap.size]? = some (.cells #[.string S, .int .u8 (x.toNat : Int)] 41 (0, 0)) := by rw [Below.heap_setCell _ _ _ _ (fun e => hgr e.symm)]; exact rbk
      have hb8 : Below (w.heap.size + 1) wr (w7.setCell ⟨g, k, none⟩ (.int .i64 (M : Int))) := (((((Below.refl _ _).alloc zr _).alloc (by simp; omega) _).trans hb7)).setCell hgB _
      have mk9 : Marks (w7.setCell ⟨g, k, none⟩ (.int .i64 (M : Int))) (w.heap.size + 1) (.slice (some ⟨g, 0, none⟩) n n) (marksTo m (k + 1)) := by
        unfold Marks
        rw [HMS.out, List.length_set, HML.out, List.map_set]; exact mk8
      have hMl := Lib.hid hM
      subst hv1
      clear mk7 mk7' mk8 hM own7 sp7 hb7 rbk hmarks hown
      go_wp2_with fail
      generalize hw8 : w7.setCell ⟨g, k, none⟩ (.int .i64 (M : Int)) = w8 at own8 rbk8 hb8 mk9 ⊢
      have HW8 := Lib.hid hw8
      have crb := cell_of_row w8 wr.heap.size 0 _ _ _ rbk8
      have crb0 : w8.cell? ⟨wr.heap.size, 0, none⟩ = some (.string S) := crb
      have z8 := Nat.le_trans zr hb8.size
      have hwlt : wr.heap.size < w8.heap.size := cell_lt crb0
      have HT8 : Hid (Tab (w.heap.size + 1) w8) := HTr.out.on hb8
      have N5 : Hid (∀ v w9, Owns w9 (w.heap.size + 1) v (X ++ [114] ++ [80]) → Below (w.heap.size + 1) w8 w9 → Calls Tryd.prog 25 #[v, .string S] w9 (AddEnd2 (w.heap.size + 1) v ((X ++ [114] ++ [80]) ++ textBytes S.data.toList) w9)) := fun v w9 ha hb => cAddText _ v _ S w9 (Or.inl ha) (Nat.le_trans z8 hb.size) (by simp; omega) (by omega) (HT8.out.on hb)
      have own8' : Owns w8 (w.heap.size + 1) (.slice (some ⟨g1, 0, none⟩) M q1) (X ++ [114]) := own8
      have hne8 := own8.apart rbk8 (by decide)
      clear hw8 crb HTr
      refine Hid.out ?_
      refine Lib.hid ?_
      go_region_held3 (fun w' => w'.cell? ⟨wr.heap.size, 0, none⟩ = some (.string S))
        (first | go_keep | (rw [sp9.cell (p := ⟨wr.heap.size, 0, none⟩) (by simp; omega) hne8]; go_keep) | (exact cell_of_row w10 wr.heap.size 0 _ _ _ (sp10.block (sp9.block ((Below.heap_alloc w8 _ _ hwlt).trans rbk8) hne8) (own9.apart (sp9.block ((Below.heap_alloc w8 _ _ hwlt).trans rbk8) hne8) (by decide)))))
        (first
          | (refine step_append_apps _ rfl (.tmp 46) (.tmp 47) rfl (w.heap.size + 1) (.slice (some ⟨g1, 0, none⟩) M q1) (.slice (some ⟨w8.heap.size, 0, none⟩) 1 1) (X ++ [114]) [80] rfl rfl (Or.inl (own8.on ((Below.refl _ _).alloc (Nat.le_refl _) _).drew)) (reads_one _ _ _ 80 rfl).drew (Nat.succ_pos 0) (by simp; omega) (by simp; omega) ?_; intro v9 w9 own9 hb9 sp9)
          | (go_at_call 25; refine (N5.out _ _ own9 (((Below.refl _ _).alloc z8 _).drew.trans hb9)).mono ?_; rintro e w10 ⟨v10, rfl, own10, hb10, sp10⟩))
      have mk10 : Marks w10 (w.heap.size + 1) (.slice (some ⟨g, 0, none⟩) n n) (marksTo m (k + 1)) :=
        ((mk9.on ((Below.refl _ _).alloc (Nat.le_refl _) _).drew).spared sp9 (own8.on ((Below.refl _ _).alloc (Nat.le_refl _) _).drew)).spared sp10 own9
      have hb11 := ((hb8.alloc z8 _).drew.trans hb9).trans hb10
      rw [← HX2.out] at own10
      go_wp2
      go_roundw
      case rel => exact ⟨k + 1, by omega, by go_num, own10, mk10, hbr.trans hb11⟩
      case measure => simp [intOf]; omega
    · obtain rfl : k = n := by omega
      have hfin : m.rcpts.take k = m.rcpts := List.take_of_length_le (by rw [← HN.out]; omega)
      rw [hfin] at hown
      have H1 := Lib.hid hown
      have H2 := Lib.hid hmarks
      clear hfin hlt hown hmarks
      go_wp2
      go_ret2
      exact ⟨_, _, rfl, H1.out.mono (Nat.le_succ _), H2.out.mono (Nat.le_succ _), bw6.trans (hbr.mono (Nat.le_succ _))⟩
end Go.Proofs.YthoeicidilnleaaDoor.Codec
