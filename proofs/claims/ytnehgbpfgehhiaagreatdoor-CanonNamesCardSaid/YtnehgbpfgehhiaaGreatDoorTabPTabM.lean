/-
  MERGED by mergefill.py: TabPTab, TabPSm, TabPSpl.
-/
import Derived.Test.YtnehgbpfgehhiaaGreatDoorTabPEnd
import Derived.Shelf.SlSortCmp.NoneTotal
import Derived.Test.YtnehgbpfgehhiaaGreatDoorTabParMM
import Derived.Lib.LaidTab
import Derived.Lib.IndexBytes
import Derived.Lib.IndexLaws
import Derived.Lib.SplitLaws
import Derived.Lib.CountLaws
import Derived.Lib.CutLaws
import Derived.Lib.Split
/-
  TABLE, the program: the entries sorted.
-/
namespace Go.Proofs.YtnehgbpfgehhiaaGreatDoor.Table
open Go.RowKit Base
open Go.Sort (grow)
def cfK (a b : KV) : Int := Lib.compareBytes a.1 b.1
theorem ltK (a b : KV) : ltOf cfK a b = decide (a.1 < b.1) := by
  unfold ltOf cfK
  exact decide_eq_decide.2 (by rw [cmp_less])
theorem irrK (a : List UInt8) : ¬ a < a := by
  rw [← cmp_less a a]
  have : Lib.compareBytes a a = 0 := (cmp_same a a).mpr rfl
  omega
theorem swoK : Go.Sort.SWO (ltOf cfK) where
  irrefl x := by rw [ltK]; exact decide_eq_false (irrK _)
  trans x y z h1 h2 := by
    rw [ltK] at *
    exact decide_eq_true (bytes_trans (of_decide_eq_true h1) (of_decide_eq_true h2))
  ntrans x y z h1 h2 := by
    rw [ltK] at *
    have h1 := of_decide_eq_false h1
    have h2 := of_decide_eq_false h2
    refine decide_eq_false (fun h => ?_)
    rcases bytes_total x.1 y.1 with h3 | h3 | h3
    · exact h1 h3
    · rw [h3] at h; exact h2 h
    · exact h2 (bytes_trans h3 h)
set_option maxHeartbeats 1000000 in
theorem pCmpK (x y : KV) (w : World) : Calls Tryz.prog 76 #[.agg #[S x.1, S x.2], .agg #[S y.1, S y.2]] w fun e w' => e = .returned (.int .i64 (cfK x y)) ∧ ∃ q os', w' = grow (w.drewN q) os' := by
  have HC := Lib.hid (fun w => Tryz.strings_Compare ⟨x.1.toArray⟩ ⟨y.1.toArray⟩ w)
  have HK : Hid (Lib.compareBytes x.1 y.1 = cfK x y) := rfl
  go_enter Tryz.func76, Tryz.ntmps76
  go_wp2_with (first | (go_at_call 77; refine (HC.out _).mono ?_; rintro e w' ⟨rfl, rfl⟩; refine Hid.out ?_) | fail)
  refine Lib.hid ?_
  go_wp2
  go_ret
  exact ⟨by rw [← HK.out]; rfl, 0, _, by rw [Go.Sort.alloc_eq_grow, Go.Sort.alloc_eq_grow, Go.Sort.grow_grow]; rfl⟩
theorem grownBy_K {w : World} {g off n : Nat} {os : Array Obj} (d : Array KV) : w.grownBy (sortWorldK enc2 2 w g off n d os) (some g) := by
  unfold sortWorldK Go.Sort.putRowK
  refine ⟨rfl, rfl, rfl, by simp, fun k hk hne => ?_⟩
  rw [Go.Sort.heap_grow_old _ _ (by simpa using hk)]
  have : g ≠ k := fun e => hne (by rw [e])
  simp [Go.Sort.putRow, Go.Sort.mapBlock, Go.Sort.ahead, Array.getElem?_modify, this]
theorem holds_row {w : World} {B g cap n : Nat} {E : List KV} (h : w.ownsRow B 133 2 (.slice (some ⟨g, 0, none⟩) n cap) n (E.flatMap enc2)) (hn : n = E.length) : Go.Sort.HoldsK enc2 2 w g 0 E.toArray := by
  subst hn
  intro j hj
  rw [Go.Sort.size_flatK] at hj
  have hj2 : j < E.length * 2 := by simpa using hj
  rw [Go.Sort.get_flatK _ _ _ _ hj]
  obtain ⟨p, hp⟩ : ∃ p, E[j / 2]? = some p := ⟨E[j / 2], List.getElem?_eq_getElem (by omega)⟩
  have hd : E.toArray[j / 2]! = p := by
    have hl : j / 2 < E.length := by omega
    rw [getElem!_pos E.toArray (j / 2) (by simpa using hl)]
    have := (List.getElem?_eq_some_iff.1 hp).2
    simpa using this
  have h2 := flat2 E (j / 2) (j % 2) p hp (by omega)
  rw [show j / 2 * 2 + j % 2 = j by omega] at h2
  refine ⟨?_, World.ownsRow.frozenAt h _⟩
  rw [Nat.zero_add, World.ownsRow.cellAt h j (by omega), h2, hd]
  have hm : j % 2 < (enc2 p).length := by simp [enc2]; omega
  show (enc2 p)[j % 2]? = some (enc2 p)[j % 2]!
  rw [List.getElem?_eq_getElem hm, getElem!_pos (enc2 p) (j % 2) hm]
theorem rows_sorted {w : World} {g cap : Nat} {d : Array KV} (h : Go.Sort.HoldsK enc2 2 w g 0 d) (hc : d.size ≤ cap) : Rows2 w (.slice (some ⟨g, 0, none⟩) d.size cap) d.toList := by
  refine Or.inr ⟨g, 0, cap, by simp, by simpa using hc, fun i p hp => ?_⟩
  have hi : i < d.size := by have := (List.getElem?_eq_some_iff.1 hp).1; simpa using this
  have hd : d[i]! = p := by
    rw [getElem!_pos d i hi]
    have := (List.getElem?_eq_some_iff.1 hp).2
    simpa using this
  have c0 := (h.cell hi (c := 0) (by omega)).1
  have c1 := (h.cell hi (c := 1) (by omega)).1
  rw [hd] at c0 c1
  exact ⟨c0, c1⟩
def SortedK (T : List KV) : Prop := T.Pairwise fun p q => ¬ q.1 < p.1
theorem sorted_of {d : Array KV} (h : Go.Sort.SortedIn (ltOf cfK) 0 d.size d) : SortedK d.toList := by
  unfold SortedK
  rw [List.pairwise_iff_getElem]
  intro i j hi hj hij
  have hi' : i < d.size := by simpa using hi
  have hj' : j < d.size := by simpa using hj
  have := h i j (Nat.zero_le _) hij hj'
  rw [ltK, getElem!_pos d i hi', getElem!_pos d j hj'] at this
  simpa using of_decide_eq_false this
theorem perm_of {d d' : Array KV} (h : Go.Sort.PermIn 0 d.size d d') : d'.size = d.size ∧ d'.toList.Perm d.toList := by
  obtain ⟨h1, _, h3⟩ := h
  refine ⟨h1, ?_⟩
  have e1 : d'.extract 0 d.size = d' := by rw [← h1]; simp
  have e2 : d.extract 0 d.size = d := by simp
  rwa [e1, e2] at h3
/-- What the table of the entries is. -/
def TableEnd (B : Nat) (w : World) (E : List KV) (e : Ending) (w' : World) : Prop := ∃ b T sv, e = .returned (.pointer (some ⟨b, 0, none⟩)) ∧ T.Perm E ∧ SortedK T ∧ w'.heap[b]? = some (.cells #[sv] 106 (0, 0)) ∧ Rows2 w' sv T ∧ (∀ (q : Nat) (cs : Array Value) (t : TypeId) (fz : Nat × Nat), w.heap[q]? = some (.cells cs t fz) → t ≠ 133 → sv.ownBlock ≠ some q) ∧ w.heap.size ≤ b ∧ PStep B w w'
theorem table_end {B : Nat} {w w2 : World} {E T : List KV} {sv : Value} (h1 : T.Perm E) (h2 : SortedK T) (h3 : Rows2 w2 sv T) (h4 : PStep B w w2) (hB : B ≤ w2.heap.size) (h5 : ∀ (q : Nat) (cs : Array Value) (t : TypeId) (fz : Nat × Nat), w.heap[q]? = some (.cells cs t fz) → t ≠ 133 → sv.ownBlock ≠ some q) : TableEnd B w E (.returned (.pointer (some ⟨w2.heap.size, 0, none⟩))) (w2.alloc (.cells #[sv] 106)) :=
  ⟨_, T, sv, rfl, h1, h2, (MapKept.heap_alloc w2 _).1, h3.on (Below.alloc1 _ _), h5, h4.below.size, h4.trans (PStep.of_below (Below.alloc1 _ _) hB)⟩
set_option maxHeartbeats 4000000 in
set_option maxRecDepth 100000 in
theorem pTable (B : Nat) (w : World) (rb mb : Nat) (E : List KV) (o : Bool) (s : Int) (key val : List UInt8) (h : RSt B w rb mb E o s key val) (he : E.length ≤ 1000000) :
    Calls Tryz.prog 43 #[.pointer (some ⟨rb, 0, none⟩)] w (TableEnd B w E) := by
  obtain ⟨ev, vv, hx⟩ := h
  obtain ⟨c0, c1, c2, c3, c4, c5, c6⟩ := hx.cells
  have HX := Lib.hid hx
  rcases hx.row.2 with ⟨rfl, hn⟩ | ⟨g, cap, cur, rfl, hBg, hb, hcap, _⟩
  · obtain rfl : E = [] := List.eq_nil_of_length_eq_zero hn
    have HS : Hid (Calls Tryz.prog 75 #[.slice none 0 0, .func (.func 76) #[] #[]] w fun e w' => e = .returned (.tuple #[]) ∧ w = w') := (AnyF.slices_SortFunc_none (P := Tryz.prog) { Tryz.sortE with } none 0 (.func (.func 76) #[] #[]) w).mono fun e w' h => ⟨h.1, h.2.symm⟩
    have HE : Hid (TableEnd B w [] (.returned (.pointer (some ⟨w.heap.size, 0, none⟩))) (w.alloc (.cells #[.slice none 0 0] 106))) := table_end (T := []) (List.Perm.refl _) List.Pairwise.nil (Or.inl ⟨rfl, none, 0, rfl, fun _ => rfl⟩) ⟨Below.refl _ _, KeepTy.refl _⟩ HX.out.bge (fun q cs t fz _ _ e => by cases e)
    clear hx c1 c2 c3 c4 c5 c6
    go_enter Tryz.func43, Tryz.ntmps43
    go_wp2_with (first | (go_at_call 75; (with_reducible refine HS.out.mono ?_); rintro e w1 ⟨rfl, rfl⟩; refine Hid.out ?_) | fail)
    refine Lib.hid ?_
    go_wp2
    go_ret
    exact HE.out
  · have eg : ∀ args w, (callFunc 76 args).run Tryz.prog w = .ok (.enter 76 args) w := enters_of Tryz.func76 (by kernel_rfl) rfl
    have hH := holds_row hx.row rfl
    have hS := AnyQ.slices_SortFunc (P := Tryz.prog) Tryz.sortE 2 Tryz.isAgg133 Tryz.sizeOf133 enc2 (fun _ => rfl) (fun x v hv => by simp [enc2] at hv; rcases hv with rfl | rfl <;> rfl) cfK swoK 76 #[] g 0 cap E.toArray w eg (fun m os dk _ x y => pCmpK x y _) hH (heap_lt hb) (by simp; omega)
    have HS : Hid (Calls Tryz.prog 75 #[.slice (some ⟨g, 0, none⟩) E.length cap, .func (.func 76) #[] #[]] w fun e w' => e = .returned (.tuple #[]) ∧ w.grownBy w' (some g) ∧ ∃ T : List KV, T.Perm E ∧ SortedK T ∧ T.length = E.length ∧ Rows2 w' (.slice (some ⟨g, 0, none⟩) E.length cap) T) := by
      have hsz : E.toArray.size = E.length := by simp
      rw [hsz] at hS
      refine hS.mono fun e w' ⟨h1, d', n, os, h2, h3, h4⟩ => ?_
      have hp := perm_of (d := E.toArray) (by rw [hsz]; exact h2)
      subst h4
      refine ⟨h1, grownBy_K d', d'.toList, by simpa using hp.2, ?_, by simpa using hp.1, ?_⟩
      · refine sorted_of ?_
        rw [hp.1, hsz]; exact h3
      · have hh := holdsK_sortWorldK_c enc2 2 w g 0 E.toArray d' n os hH (heap_lt hb) hp.1
        have := rows_sorted hh (cap := cap) (by rw [hp.1, hsz]; exact hcap)
        rw [hp.1, hsz] at this
        exact this
    have hne : rb ≠ g := fun e => by have := hx.box; rw [e, hb] at this; cases this
    have HFX : Hid (∀ w1, w.grownBy w1 (some g) → PStep B w w1 ∧ w1.cell? ⟨rb, 0, none⟩ = some (.slice (some ⟨g, 0, none⟩) E.length cap)) := fun w1 hg => by
      have hbl : Below B w w1 := (Below.refl _ _).grown hg hx.bge (fun j hj => by cases hj; exact hBg)
      obtain ⟨_, _, _, _, hbk⟩ := hg
      refine ⟨⟨hbl, fun k cs t fz hk _ h84 _ => ?_⟩, ?_⟩
      · rw [hbk k (heap_lt hk) (fun e => by cases e; rw [hb] at hk; cases hk; exact h84 rfl)]; exact hk
      · exact cell_of_row w1 rb 0 _ _ _ ((hbk rb (heap_lt hx.box) (fun e => hne (by cases e; rfl))).trans hx.box)
    have HQ : Hid (∀ (q : Nat) (cs : Array Value) (t : TypeId) (fz : Nat × Nat), w.heap[q]? = some (.cells cs t fz) → t ≠ 133 → (Value.slice (some ⟨g, 0, none⟩) E.length cap).ownBlock ≠ some q) := fun q cs t fz hq ht e => by cases e; rw [hb] at hq; cases hq; exact ht rfl
    clear hx c1 c2 c3 c4 c5 c6 eg hH hS hb hne
    go_enter Tryz.func43, Tryz.ntmps43
    go_wp2_with (first | (go_at_call 75; (with_reducible refine HS.out.mono ?_); rintro e w1 ⟨rfl, hg, T, t1, t2, t3, t4⟩; refine Hid.out ?_) | fail)
    refine Lib.hid ?_
    obtain ⟨p1, d1⟩ := HFX.out w1 hg
    have HE := Lib.hid (table_end t1 t2 t4 p1 (Nat.le_trans HX.out.bge p1.below.size) HQ.out)
    clear hg t1 t2 t3 t4 p1
    go_wp2
    go_ret
    exact HE.out
end Go.Proofs.YtnehgbpfgehhiaaGreatDoor.Table
/-
  TABLE, the program: the first byte that may not be; the first of two faults.
-/
namespace Go.Proofs.YtnehgbpfgehhiaaGreatDoor.Table
open Go.RowKit Base
def badF (l : List UInt8) : Nat × Nat := match badK l l.length with
  | [] => (0, 0)
  | i :: _ => (61, i)
theorem badK_more (l : List UInt8) (m : Nat) : ∀ (d : Nat), ∃ r, badK l (m + d) = badK l m ++ r
  | 0 => ⟨[], by simp⟩
  | d + 1 => by
    obtain ⟨r, hr⟩ := badK_more l m d
    cases h : isOkB (l.getD (m + d) 0)
    · exact ⟨r ++ [m + d], by rw [← Nat.add_assoc, badK_no h, hr, List.append_assoc]⟩
    · exact ⟨r, by rw [← Nat.add_assoc, badK_yes h, hr]⟩
theorem badF_at {l : List UInt8} {k : Nat} (h0 : badK l k = []) (hk : k < l.length) (hb : isOkB (l.getD k 0) = false) : badF l = (61, k) := by
  obtain ⟨r, hr⟩ := badK_more l (k + 1) (l.length - (k + 1))
  rw [show k + 1 + (l.length - (k + 1)) = l.length by omega, badK_no hb, h0] at hr
  unfold badF
  rw [hr]; rfl
def fltV (f : Nat × Nat) : Value := .agg #[.int .i64 (f.1 : Int), .int .i64 (f.2 : Int)]
set_option maxHeartbeats 4000000 in
set_option maxRecDepth 100000 in
theorem pBad (s : ByteArray) (w : World) (hs : s.size ≤ 1000000) : Calls Tryz.prog 36 #[.string s] w fun e w' => e = .returned (fltV (badF s.data.toList)) ∧ Below w.heap.size w w' := by
  obtain ⟨fl, hfl⟩ : ∃ fl, fl = badF s.data.toList := ⟨_, rfl⟩
  have HFL := Lib.hid hfl
  rw [← hfl]
  clear hfl
  have hbx := (MapKept.heap_alloc w (.cells #[.int .i64 0, .int .i64 0] 51)).1
  obtain ⟨wb, hwb⟩ : ∃ wb, wb = w.alloc (.cells #[.int .i64 0, .int .i64 0] 51) := ⟨_, rfl⟩
  have HB0 : Hid (Below w.heap.size w wb) := by rw [hwb]; exact Below.alloc1 _ _
  rw [← hwb] at hbx
  have HBX := Lib.hid hbx
  have HWB := Lib.hid hwb
  clear hbx hwb
  go_enter Tryz.func36, Tryz.ntmps36
  go_wp2
  rw [← HWB.out]
  go_loop [3] (fun i => ∃ k : Nat, k ≤ s.size ∧ i = .int .i64 k ∧ Hid (badK s.data.toList k = [])) (fun i => s.size - (intOf i).toNat)
  case atStart => exact ⟨0, by omega, rfl, rfl⟩
  case round =>
    obtain ⟨k, hk, rfl, HK⟩ := hrel
    have i0 : (0 : Int) ≤ (k : Int) := by omega
    by_cases hlt : k < s.size
    · have i1 : (k : Int) < (s.size : Int) := by omega
      have HG := Lib.hid (str_get s k hlt)
      have hx := s[k].toNat_lt
      have HY : isOkB s[k] = true → Hid (badK s.data.toList (k + 1) = []) := fun h => by show _ = _; rw [badK_yes (by rw [HG.out]; exact h)]; exact HK.out
      have HNO : isOkB s[k] = false → Hid (fl = (61, k)) := fun h => by show _ = _; rw [HFL.out]; exact badF_at HK.out (by rw [str_len]; exact hlt) (by rw [HG.out]; exact h)
      by_cases h9 : s[k].toNat = 9
      · have e1 : ((s[k].toNat : Int) != 9) = false := by rw [h9]; rfl
        have HB := HY (by simp [isOkB, h9])
        clear HY HNO h9
        go_wp2
        go_round
        case rel => exact ⟨k + 1, by omega, by go_num, HB⟩
        case measure => simp [intOf]; omega
      · have e1 : ((s[k].toNat : Int) != 9) = true := by rw [bne_iff_ne]; omega
        by_cases h10 : s[k].toNat = 10
        · have e2 : ((s[k].toNat : Int) != 10) = false := by rw [h10]; rfl
          have HB := HY (by simp [isOkB, h10])
          clear HY HNO h9 h10
          go_wp2
          go_round
          case rel => exact ⟨k + 1, by omega, by go_num, HB⟩
          case measure => simp [intOf]; omega
        · have e2 : ((s[k].toNat : Int) != 10) = true := by rw [bne_iff_ne]; omega
          by_cases h32 : 32 ≤ s[k].toNat
          · have e3 : ¬ (s[k].toNat : Int) < 32 := by omega
            by_cases h126 : s[k].toNat ≤ 126
            · have e4 : ¬ (126 : Int) < (s[k].toNat : Int) := by omega
              have HB := HY (by simp [isOkB, h32, h126])
              clear HY HNO h9 h10 h32 h126
              go_wp2
              go_round
              case rel => exact ⟨k + 1, by omega, by go_num, HB⟩
              case measure => simp [intOf]; omega
            · have e4 : (126 : Int) < (s[k].toNat : Int) := by omega
              have HF := HNO (by simp [isOkB, h9, h10]; omega)
              clear HY HNO h9 h10 h32 h126
              obtain ⟨y1, y2, y3, y4⟩ := two_cells HBX.out
              go_wp2
              obtain ⟨z1, z2, _, _⟩ := two_cells (set_two HBX.out (.int .i64 61) (.int .i64 (k : Int)))
              exact bodyPost_ret (v := .agg #[.int .i64 61, .int .i64 (k : Int)]) (by simp [results, Tryz.results36, go_sem, z1, z2]) rfl ⟨by rw [HF.out]; rfl, (HB0.out.setCell (Nat.le_refl _) _).setCell (Nat.le_refl _) _⟩
          · have e3 : (s[k].toNat : Int) < 32 := by omega
            have HF := HNO (by simp [isOkB, h9, h10]; omega)
            clear HY HNO h9 h10 h32
            obtain ⟨y1, y2, y3, y4⟩ := two_cells HBX.out
            go_wp2
            obtain ⟨z1, z2, _, _⟩ := two_cells (set_two HBX.out (.int .i64 61) (.int .i64 (k : Int)))
            exact bodyPost_ret (v := .agg #[.int .i64 61, .int .i64 (k : Int)]) (by simp [results, Tryz.results36, go_sem, z1, z2]) rfl ⟨by rw [HF.out]; rfl, (HB0.out.setCell (Nat.le_refl _) _).setCell (Nat.le_refl _) _⟩
    · have i1 : ¬ (k : Int) < (s.size : Int) := by omega
      have HF : Hid (fl = (0, 0)) := by
        have hk2 : k = s.data.toList.length := by rw [str_len]; omega
        show _ = _
        rw [HFL.out]; unfold badF
        rw [← hk2, HK.out]
      obtain ⟨y1, y2, y3, y4⟩ := two_cells HBX.out
      go_wp2
      obtain ⟨z1, z2, _, _⟩ := two_cells (set_two HBX.out (.int .i64 0) (.int .i64 0))
      exact bodyPost_ret (v := .agg #[.int .i64 0, .int .i64 0]) (by simp [results, Tryz.results36, go_sem, z1, z2]) rfl ⟨by rw [HF.out]; rfl, (HB0.out.setCell (Nat.le_refl _) _).setCell (Nat.le_refl _) _⟩
def firstF (a b : Nat × Nat) : Nat × Nat := if b.1 = 0 ∨ (a.1 ≠ 0 ∧ a.2 ≤ b.2) then a else b
set_option maxHeartbeats 4000000 in
set_option maxRecDepth 100000 in
theorem pFirst (a b : Nat × Nat) (w : World) : Calls Tryz.prog 44 #[fltV a, fltV b] w fun e w' => e = .returned (fltV (firstF a b)) ∧ Below w.heap.size w w' := by
  obtain ⟨a1, a2⟩ := a
  obtain ⟨b1, b2⟩ := b
  have HBB : ∀ o1 o2 o3 : Obj, Below w.heap.size w (((w.alloc o1).alloc o2).alloc o3) := fun o1 o2 o3 => (((Below.refl _ _).alloc (Nat.le_refl _) _).alloc (by simp) _).alloc (by simp; omega) _
  unfold fltV
  by_cases h1 : b1 = 0
  · have HF : Hid (firstF (a1, a2) (b1, b2) = (a1, a2)) := by show _ = _; unfold firstF; rw [if_pos (Or.inl h1)]
    have e1 : ((b1 : Int) == 0) = true := by rw [h1]; rfl
    clear h1
    go_enter Tryz.func44, Tryz.ntmps44
    go_wp2
    exact bodyPost_ret (v := .agg #[.int .i64 (a1 : Int), .int .i64 (a2 : Int)]) (by simp [results, Tryz.results44, go_sem]) rfl ⟨by rw [HF.out], HBB _ _ _⟩
  · have e1 : ((b1 : Int) == 0) = false := by rw [beq_eq_false_iff_ne]; omega
    by_cases h2 : a1 = 0
    · have HF : Hid (firstF (a1, a2) (b1, b2) = (b1, b2)) := by show _ = _; unfold firstF; rw [if_neg (fun h => h.elim h1 (fun h => h.1 h2))]
      have e2 : ((a1 : Int) != 0) = false := by rw [h2]; rfl
      clear h1 h2
      go_enter Tryz.func44, Tryz.ntmps44
      go_wp2
      exact bodyPost_ret (v := .agg #[.int .i64 (b1 : Int), .int .i64 (b2 : Int)]) (by simp [results, Tryz.results44, go_sem]) rfl ⟨by rw [HF.out], HBB _ _ _⟩
    · have e2 : ((a1 : Int) != 0) = true := by rw [bne_iff_ne]; omega
      by_cases h3 : a2 ≤ b2
      · have HF : Hid (firstF (a1, a2) (b1, b2) = (a1, a2)) := by show _ = _; unfold firstF; rw [if_pos (Or.inr ⟨h2, h3⟩)]
        have e3 : (a2 : Int) ≤ (b2 : Int) := by omega
        clear h1 h2 h3
        go_enter Tryz.func44, Tryz.ntmps44
        go_wp2
        exact bodyPost_ret (v := .agg #[.int .i64 (a1 : Int), .int .i64 (a2 : Int)]) (by simp [results, Tryz.results44, go_sem]) rfl ⟨by rw [HF.out], HBB _ _ _⟩
      · have HF : Hid (firstF (a1, a2) (b1, b2) = (b1, b2)) := by show _ = _; unfold firstF; rw [if_neg (fun h => h.elim h1 (fun h => h3 h.2))]
        have e3 : ¬ (a2 : Int) ≤ (b2 : Int) := by omega
        clear h1 h2 h3
        go_enter Tryz.func44, Tryz.ntmps44
        go_wp2
        exact bodyPost_ret (v := .agg #[.int .i64 (b1 : Int), .int .i64 (b2 : Int)]) (by simp [results, Tryz.results44, go_sem]) rfl ⟨by rw [HF.out], HBB _ _ _⟩
end Go.Proofs.YtnehgbpfgehhiaaGreatDoor.Table
/-
  TABLE, the program: a text cut into its lines.
-/
namespace Go.Proofs.YtnehgbpfgehhiaaGreatDoor.Table
open Go.RowKit Base
/-! ### A text cut at a byte -/
theorem byte_none {l : List UInt8} {c : UInt8} (h : Lib.indexByte l c = -1) : ∀ x ∈ l, x ≠ c := fun x hx e => by
  obtain ⟨k, hk⟩ := List.mem_iff_getElem?.1 hx
  exact Lib.indexByte_none h k (by rw [hk, e])
theorem byte_some {l : List UInt8} {c : UInt8} {o : Nat} (h : Lib.indexByte l c = o) : o < l.length ∧ l = l.take o ++ c :: l.drop (o + 1) ∧ ∀ x ∈ l.take o, x ≠ c := by
  obtain ⟨h1, h2⟩ := Lib.indexByte_some h
  obtain ⟨hl, he⟩ := List.getElem?_eq_some_iff.1 h1
  refine ⟨hl, ?_, ?_⟩
  · rw [← he, List.getElem_cons_drop, List.take_append_drop]
  · intro x hx e
    obtain ⟨k, hk⟩ := List.mem_iff_getElem?.1 hx
    have hk2 : k < o := by
      have := (List.getElem?_eq_some_iff.1 hk).1
      rw [List.length_take] at this; omega
    rw [List.getElem?_take_of_lt hk2] at hk
    exact h2 k hk2 (by rw [hk, e])
theorem byte_cases (l : List UInt8) (c : UInt8) : Lib.indexByte l c = -1 ∨ ∃ o : Nat, Lib.indexByte l c = o := by
  have := Lib.indexByte_ge l c
  by_cases h : Lib.indexByte l c = -1
  · exact Or.inl h
  · exact Or.inr ⟨(Lib.indexByte l c).toNat, by omega⟩
theorem splitB_miss {l : List UInt8} {c : UInt8} (h : Lib.indexByte l c = -1) : splitB c l = [l] := splitB_none (byte_none h)
theorem splitB_hit {l : List UInt8} {c : UInt8} {o : Nat} (h : Lib.indexByte l c = o) : splitB c l = l.take o :: splitB c (l.drop (o + 1)) := by
  obtain ⟨_, h1, h2⟩ := byte_some h
  conv => lhs; rw [h1]
  exact splitB_at h2
theorem lib_split (c : UInt8) : ∀ (k : Nat) (s : ByteArray), Lib.countB s ⟨#[c]⟩ = k → (Lib.splitB ⟨#[c]⟩ 0 k s).map (·.data.toList) = splitB c s.data.toList
  | 0, s, hk => by
    rcases Lib.indexB_cases s ⟨#[c]⟩ with hix | ⟨i, hix, _⟩
    · have h2 : Lib.indexByte s.data.toList c = -1 := by rw [← Lib.index_one]; exact hix
      rw [splitB_miss h2]; rfl
    · have := Lib.countB_hit s ⟨#[c]⟩ i (Nat.le_refl 1) hix; omega
  | k + 1, s, hk => by
    rcases Lib.indexB_cases s ⟨#[c]⟩ with hix | ⟨i, hix, _⟩
    · rw [Lib.countB_miss s _ hix] at hk; omega
    · have h2 : Lib.indexByte s.data.toList c = i := by rw [← Lib.index_one]; exact hix
      have h3 := Lib.countB_hit s ⟨#[c]⟩ i (Nat.le_refl 1) hix
      have h4 := lib_split c k (s.extract (i + 1) s.size) (by have : (⟨#[c]⟩ : ByteArray).size = 1 := rfl; rw [this] at h3; omega)
      rw [Lib.splitB_hit _ _ _ _ _ hix, List.map_cons, splitB_hit h2]
      have e1 : (s.extract 0 (i + 0)).data.toList = s.data.toList.take i := by rw [extract_bytes]; simp
      have e2 : (s.extract (i + 1) s.size).data.toList = s.data.toList.drop (i + 1) := by
        rw [extract_bytes]
        rw [List.take_of_length_le (by rw [str_len]; omega)]
      rw [e1]
      congr 1
      rw [← e2]; exact h4
theorem map_S (l : List ByteArray) : (l.map (·.data.toList)).map S = l.map Value.string := by
  rw [List.map_map]; rfl
/-- The library's variable. -/
def MaxOk (w : World) : Prop := ∃ m, w.cell? ⟨0, 0, none⟩ = some (.int .i64 m)
theorem MaxOk.on {w w' : World} (h : MaxOk w) (hb : Below w.heap.size w w') : MaxOk w' := by
  obtain ⟨m, hm⟩ := h
  exact ⟨m, (hb.cell (p := ⟨0, 0, none⟩) (cell_lt hm)).trans hm⟩
/-- strings.Split at one byte. -/
def SplitE (ls : List (List UInt8)) (w : World) (e : Ending) (w' : World) : Prop := ∃ g c cur, e = .returned (.slice (some ⟨g, 0, none⟩) ls.length c) ∧ w'.heap[g]? = some (.cells cur 9 (0, 0)) ∧ ls.length ≤ c ∧ (∀ (i : Nat) x, ls[i]? = some x → cur[i]? = some (S x)) ∧ Below w.heap.size w w'
theorem pSplit (s : ByteArray) (w : World) (hs : s.size ≤ 1000000) (he : MaxOk w) : Calls Tryz.prog 37 #[.string s, .string ⟨#[10]⟩] w (SplitE (splitB 10 s.data.toList) w) := by
  obtain ⟨m, hm⟩ := he
  refine (Tryz.strings_Split s ⟨#[10]⟩ m w (by omega) hm (Nat.le_refl 1)).mono ?_
  rintro e w' ⟨rfl, rfl⟩
  have hl := lib_split 10 _ s rfl
  have hlen := Lib.splitB_all ⟨#[10]⟩ (Nat.le_refl 1) 0 (Lib.countB s ⟨#[10]⟩) s rfl
  have hle := Lib.countB_le ⟨#[10]⟩ (Nat.le_refl 1) s.size s (Nat.le_refl _)
  have hln : (splitB 10 s.data.toList).length = Lib.countB s ⟨#[10]⟩ + 1 := by rw [← hl, List.length_map, hlen]
  refine ⟨w.heap.size, Lib.countB s ⟨#[10]⟩ + 1, ((Lib.splitB ⟨#[10]⟩ 0 (Lib.countB s ⟨#[10]⟩) s).map Value.string).toArray, by rw [hln], (MapKept.heap_alloc w _).1, by rw [hln]; exact Nat.le_refl _, fun i x hx => ?_, Below.alloc1 _ _⟩
  rw [← hl, List.getElem?_map] at hx
  simp only [List.getElem?_toArray, List.getElem?_map]
  cases h : (Lib.splitB ⟨#[10]⟩ 0 (Lib.countB s ⟨#[10]⟩) s)[i]? with
  | none => rw [h] at hx; cases hx
  | some y => rw [h] at hx; cases hx; rfl
end Go.Proofs.YtnehgbpfgehhiaaGreatDoor.Table
