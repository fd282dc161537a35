/-
  MERGED by mergefill.py: PthBuild, PthBO, PthLF, PthRep.
-/
import Derived.Test.YtnehgbpfgehhiaaGreatDoorPthOnceM
import Derived.Test.YtnehgbpfgehhiaaGreatDoorPthRepPM
import Derived.Test.YtnehgbpfgehhiaaGreatDoorPthBS
/-
  PATH, the program: the library's Replacer is built: the walk.
-/
namespace Go.Proofs.YtnehgbpfgehhiaaGreatDoor.Path
open Go.RowKit Base
theorem one_cell {w : World} {k : Nat} {v u : Value} {t : TypeId} (h : w.heap[k]? = some (.cells #[v] t (0, 0))) {j : Nat} (hj : [v][j]? = some u) : w.cell? ((⟨k, 0, none⟩ : Addr).add j) = some u := by
  have hj0 : j = 0 := by
    have := (List.getElem?_eq_some_iff.1 hj).1
    simp at this; exact this
  subst hj0
  unfold World.cell? Addr.add
  simp only [if_true]
  rw [h]
  exact hj
theorem one_cell1 {u : Value} {s : ByteArray} (h : u ∈ [Value.string s]) : u.oneCell' = true := by
  rw [List.mem_singleton] at h; subst h; rfl
theorem alloc_size (w : World) (o : Obj) : (w.alloc o).heap.size = w.heap.size + 1 := by show (w.heap.push o).size = _; rw [Array.size_push]
def strC (w : World) (s : ByteArray) : Nat := grownCap w s.size 0 5
def strO (w : World) (s : ByteArray) : Obj := .cells (bytesRow s (strC w s)) 5 ((bytesRow s (strC w s)).size, (bytesRow s (strC w s)).size + 1)
theorem str_conv (w : World) (s : ByteArray) : (convert 9 87 (.string s)).run Tryz.prog w = .ok (.slice (some ⟨w.heap.size, 0, none⟩) s.size (strC w s)) (w.drew.alloc (strO w s)) :=
  run_bytes_of_string w 9 87 5 s Tryz.underlying9 Tryz.underlying87 Tryz.underlying5
theorem str_reads (w : World) (s : ByteArray) : Reads (w.drew.alloc (strO w s)) (.slice (some ⟨w.heap.size, 0, none⟩) s.size (strC w s)) s.data.toList := reads_bytes w s (strC w s) (grownCap_ge _ _ _ _) _ _
theorem keep_grown {w w' : World} {A : Nat} (h : w.grownBy w' (some A)) : KeepX A w w' := ⟨h.os, h.tape, h.output, h.size, fun k hk hne => h.block k hk (fun e => hne (by cases e; rfl))⟩
theorem set_size (w : World) (a : Addr) (v : Value) : (w.setCell a v).heap.size = w.heap.size := by simp
/-- The table behind k rounds. -/
def RepSt (W wx : World) (g k : Nat) : Prop := match k with
  | 0 => TabSt W wx g 0 0 [] (fun _ => .slice none 0 0)
  | 1 => ∃ c2 a2, TabSt W wx g 1 1 [.string ⟨#[92]⟩] (fun c => if c = 92 then .slice (some ⟨a2, 0, none⟩) 2 c2 else .slice none 0 0) ∧ Reads wx (.slice (some ⟨a2, 0, none⟩) 2 c2) [92, 92] ∧ W.heap.size < a2 ∧ g ≠ a2
  | _ => ∃ c1 a1 c2 a2, TabSt W wx g 2 2 [.string ⟨#[92]⟩, .string ⟨#[34]⟩] (fun c => if c = 34 then .slice (some ⟨a1, 0, none⟩) 2 c1 else if c = 92 then .slice (some ⟨a2, 0, none⟩) 2 c2 else .slice none 0 0) ∧ Reads wx (.slice (some ⟨a1, 0, none⟩) 2 c1) [92, 34] ∧ Reads wx (.slice (some ⟨a2, 0, none⟩) 2 c2) [92, 92] ∧ W.heap.size < a1 ∧ W.heap.size < a2
set_option maxHeartbeats 8000000 in
set_option maxRecDepth 100000 in
theorem pBuild (b o c : Nat) (W : World) (hW : W.heap[b]? = some (onceO 0 1 .nilIface (.slice (some ⟨o, 0, none⟩) 4 c)))
    (h0 : W.cell? ⟨o, 0, none⟩ = some (.string ⟨#[34]⟩)) (h1 : W.cell? ⟨o, 1, none⟩ = some (.string ⟨#[92, 34]⟩)) (h2 : W.cell? ⟨o, 2, none⟩ = some (.string ⟨#[92]⟩)) (h3 : W.cell? ⟨o, 3, none⟩ = some (.string ⟨#[92, 92]⟩)) :
    Calls Tryz.prog 203 #[.pointer (some ⟨b, 0, none⟩)] W fun e w' => ∃ g A c1 c2 a1 a2, e = .returned (.iface 282 (.pointer (some ⟨g, 0, none⟩))) ∧ RepAt w' g A c1 c2 a1 a2 ∧ W.heap.size ≤ g ∧ W.heap.size ≤ A ∧ W.heap.size ≤ a1 ∧ W.heap.size ≤ a2 ∧ Below W.heap.size W w' := by
  obtain ⟨z0, z1, z3, z4, zf⟩ := five_cells hW
  have hob := cell_lt h0
  have HW := Lib.hid hW
  have HO : Hid (W.cell? ⟨o, 0, none⟩ = some (.string ⟨#[34]⟩) ∧ W.cell? ⟨o, 1, none⟩ = some (.string ⟨#[92, 34]⟩) ∧ W.cell? ⟨o, 2, none⟩ = some (.string ⟨#[92]⟩) ∧ W.cell? ⟨o, 3, none⟩ = some (.string ⟨#[92, 92]⟩)) := ⟨h0, h1, h2, h3⟩
  clear hW
  go_enter Tryz.func203, Tryz.ntmps203
  go_wp2
  go_loop [4, 5] (fun all i => ∃ k : Nat, k ≤ 2 ∧ i = .int .i64 (2 * (k : Int)) ∧ all = .bool (decide (k = 0))) (fun _ i => 4 - (intOf i).toNat)
  case atStart => exact ⟨0, by omega, rfl, rfl⟩
  case round =>
    obtain ⟨k, hk, rfl, rfl⟩ := hrel
    rcases (by omega : k = 0 ∨ k = 1 ∨ k = 2) with rfl | rfl | rfl
    · go_wp2
      go_round
      case rel => exact ⟨1, by omega, rfl, rfl⟩
      case measure => simp [intOf]
    · go_wp2
      go_round
      case rel => exact ⟨2, by omega, rfl, rfl⟩
      case measure => simp [intOf]
    · obtain ⟨i0, hi, hz0, hz1, hz2⟩ := info_parts infoS
      have hst := store_tab
      have qT : ∀ (w : World) (a : Option Addr) (n c n' c' : Nat), (binOp .eql 87 (.slice a n c) (.slice none n' c')).run Tryz.prog w = .ok (.bool a.isNone) w := fun w a n c n' c' => Lib.run_eql_slice_nil w _ _ a n c n' c' Tryz.underlying87
      go_wp2_with (first | (at_make; refine wpList_make_own _ rfl _ _ 22 rfl W.heap.size 9 i0 (.string ⟨#[]⟩) 1 Tryz.underlying22 hi hz0 hz1 .i64 .i64 _ 2 rfl rfl rfl (by rw [hz2]; omega) (by unfold maxLen; omega) (Nat.le_refl _) ?_; intro w1 hown1 hg1; refine Hid.out ?_) | fail)
      refine Lib.hid ?_
      have HT1 := Lib.hid (TabSt.new hown1 hg1)
      clear hg1 hown1
      go_wp2
      go_loopw [12] (fun i wx => ∃ k : Nat, k ≤ 2 ∧ i = .int .i64 (2 - 2 * (k : Int)) ∧ Hid (RepSt W wx w1.heap.size k)) (fun i _ => (intOf i + 2).toNat)
      case atStart => exact ⟨0, by omega, rfl, HT1.out⟩
      case round =>
        obtain ⟨k, hk, rfl, hS⟩ := hrel
        clear HT1 hst
        rcases (by omega : k = 0 ∨ k = 1 ∨ k = 2) with rfl | rfl | rfl
        · have HT : Hid (TabSt W wr w1.heap.size 0 0 [] (fun _ => .slice none 0 0)) := hS
          clear hS
          obtain ⟨k0, k1, k2, k3⟩ := HO.out
          have HB := HT.out.below
          have y0 := cell_on k0 HB
          have y1 := cell_on k1 HB
          have y2 := cell_on k2 HB
          have y3 := cell_on k3 HB
          have t0 := HT.out.cell 92 (by omega)
          have t1 := HT.out.list
          clear HB h0 h1 h2 h3 k0 k1 k2 k3
          have q92 : (({ data := #[92] } : ByteArray)[0]'(by decide)).toNat = 92 := rfl
          have hcv : (convert 87 9 (.slice (some ⟨wr.heap.size, 0, none⟩) 1 1)).run Tryz.prog (wr.alloc (Obj.cells #[Value.int IntKind.u8 92] 5)) = .ok (.string ⟨#[92]⟩) (wr.alloc (Obj.cells #[Value.int IntKind.u8 92] 5)) := conv_reads (reads_one wr 5 92 92 rfl)
          have HT2 := Lib.hid ((HT.out.on (Below.alloc1 wr (Obj.cells #[Value.int IntKind.u8 92] 5))).on (Below.alloc1 _ (Obj.cells #[Value.string ⟨#[92]⟩] 9)))
          have hp := (MapKept.heap_alloc (wr.alloc (Obj.cells #[Value.int IntKind.u8 92] 5)) (Obj.cells #[Value.string ⟨#[92]⟩] 9)).1
          rw [alloc_size] at hp
          have HP := Lib.hid hp
          clear hp
          go_wp2_with (first | (at_builtin; refine wpList_append_fits _ rfl _ _ 22 rfl W.heap.size 9 i0 1 Tryz.underlying22 hi hz1 W.heap.size 0 2 [] rfl HT2.out.own ⟨wr.heap.size + 1, 0, none⟩ 1 1 [.string ⟨#[92]⟩] rfl rfl (fun j u hj => one_cell HP.out hj) (fun u hu => one_cell1 hu) (by omega) ?_; intro w5 hown5 hg5; refine Hid.out ?_) | fail)
          refine Lib.hid ?_
          have HT5 := Lib.hid (HT2.out.app (n' := 1) (strs' := [.string ⟨#[92]⟩]) hown5 hg5)
          have HT6 := Lib.hid (HT5.out.set (m' := 1))
          have HT7 := Lib.hid (HT6.out.on (Below.alloc1 (w5.setCell ⟨w1.heap.size, 256, none⟩ (.slice (some ⟨W.heap.size, 0, none⟩) 1 2)) (strO (w5.setCell ⟨w1.heap.size, 256, none⟩ (.slice (some ⟨W.heap.size, 0, none⟩) 1 2)) ⟨#[92, 92]⟩)))
          have HRd : Hid (Reads ((w5.setCell ⟨w1.heap.size, 256, none⟩ (.slice (some ⟨W.heap.size, 0, none⟩) 1 2)).alloc (strO (w5.setCell ⟨w1.heap.size, 256, none⟩ (.slice (some ⟨W.heap.size, 0, none⟩) 1 2)) ⟨#[92, 92]⟩)) (.slice (some ⟨w5.heap.size, 0, none⟩) 2 (strC (w5.setCell ⟨w1.heap.size, 256, none⟩ (.slice (some ⟨W.heap.size, 0, none⟩) 1 2)) ⟨#[92, 92]⟩)) [92, 92]) := by
            have e := str_reads (w5.setCell ⟨w1.heap.size, 256, none⟩ (.slice (some ⟨W.heap.size, 0, none⟩) 1 2)) ⟨#[92, 92]⟩
            rw [set_size] at e
            exact e
          have hcb : ∀ w, (convert 9 87 (.string ⟨#[92, 92]⟩)).run Tryz.prog w = .ok (.slice (some ⟨w.heap.size, 0, none⟩) 2 (strC w ⟨#[92, 92]⟩)) (w.drew.alloc (strO w ⟨#[92, 92]⟩)) := fun w => str_conv w _
          have u1 := HT5.out.list
          have u2 := HT5.out.free 256
          have u3 := HT7.out.cell 92 (by omega)
          have u4 := HT7.out.free 92
          have HL5 := Lib.hid (And.intro HT5.out.high (And.intro HT5.out.low HT5.out.below.size))
          clear hown5 hg5
          go_wp2
          go_roundw
          case rel =>
            obtain ⟨q1, q2, q3⟩ := HL5.out
            refine ⟨1, by omega, rfl, ?_⟩
            show ∃ c2 a2, _ ∧ _ ∧ _ ∧ _
            have h8 := (HT7.out.on (Below.refl _ _).drew).put 92 (by omega) (.slice (some ⟨w5.heap.size, 0, none⟩) 2 (strC (w5.setCell ⟨w1.heap.size, 256, none⟩ (.slice (some ⟨W.heap.size, 0, none⟩) 1 2)) ⟨#[92, 92]⟩))
            have h9 := (reads_keptX HRd.out rfl (Nat.ne_of_lt q1) (KeepX.set w1.heap.size _ 92 (.slice (some ⟨w5.heap.size, 0, none⟩) 2 (strC (w5.setCell ⟨w1.heap.size, 256, none⟩ (.slice (some ⟨W.heap.size, 0, none⟩) 1 2)) ⟨#[92, 92]⟩)))).drew
            exact ⟨_, _, h8, h9, Nat.lt_of_lt_of_le q2 (Nat.le_of_lt q1), Nat.ne_of_lt q1⟩
          case measure => simp [intOf]
        · have hS : ∃ c2 a2, TabSt W wr w1.heap.size 1 1 [.string ⟨#[92]⟩] (fun c => if c = 92 then .slice (some ⟨a2, 0, none⟩) 2 c2 else .slice none 0 0) ∧ Reads wr (.slice (some ⟨a2, 0, none⟩) 2 c2) [92, 92] ∧ W.heap.size < a2 ∧ w1.heap.size ≠ a2 := hS
          obtain ⟨c2, a2, HT, HRo, hlo, hne⟩ := hS
          have HT := Lib.hid HT
          have HRo := Lib.hid HRo
          have HNe : Hid (W.heap.size < a2 ∧ w1.heap.size ≠ a2) := ⟨hlo, hne⟩
          clear hlo hne
          clear hS
          obtain ⟨k0, k1, k2, k3⟩ := HO.out
          have HB := HT.out.below
          have y0 := cell_on k0 HB
          have y1 := cell_on k1 HB
          have y2 := cell_on k2 HB
          have y3 := cell_on k3 HB
          have t0 := HT.out.cell 34 (by omega)
          have t1 := HT.out.list
          clear HB h0 h1 h2 h3 k0 k1 k2 k3
          have q92 : (({ data := #[34] } : ByteArray)[0]'(by decide)).toNat = 34 := rfl
          have hcv : (convert 87 9 (.slice (some ⟨wr.heap.size, 0, none⟩) 1 1)).run Tryz.prog (wr.alloc (Obj.cells #[Value.int IntKind.u8 34] 5)) = .ok (.string ⟨#[34]⟩) (wr.alloc (Obj.cells #[Value.int IntKind.u8 34] 5)) := conv_reads (reads_one wr 5 34 34 rfl)
          have HT2 := Lib.hid ((HT.out.on (Below.alloc1 wr (Obj.cells #[Value.int IntKind.u8 34] 5))).on (Below.alloc1 _ (Obj.cells #[Value.string ⟨#[34]⟩] 9)))
          have hp := (MapKept.heap_alloc (wr.alloc (Obj.cells #[Value.int IntKind.u8 34] 5)) (Obj.cells #[Value.string ⟨#[34]⟩] 9)).1
          rw [alloc_size] at hp
          have HP := Lib.hid hp
          clear hp
          go_wp2_with (first | (at_builtin; refine wpList_append_fits _ rfl _ _ 22 rfl W.heap.size 9 i0 1 Tryz.underlying22 hi hz1 W.heap.size 1 2 [.string ⟨#[92]⟩] rfl HT2.out.own ⟨wr.heap.size + 1, 0, none⟩ 1 1 [.string ⟨#[34]⟩] rfl rfl (fun j u hj => one_cell HP.out hj) (fun u hu => one_cell1 hu) (by omega) ?_; intro w5 hown5 hg5; refine Hid.out ?_) | fail)
          refine Lib.hid ?_
          have HT5 := Lib.hid (HT2.out.app (n' := 2) (strs' := [.string ⟨#[92]⟩, .string ⟨#[34]⟩]) hown5 hg5)
          have HT6 := Lib.hid (HT5.out.set (m' := 2))
          have HT7 := Lib.hid (HT6.out.on (Below.alloc1 (w5.setCell ⟨w1.heap.size, 256, none⟩ (.slice (some ⟨W.heap.size, 0, none⟩) 2 2)) (strO (w5.setCell ⟨w1.heap.size, 256, none⟩ (.slice (some ⟨W.heap.size, 0, none⟩) 2 2)) ⟨#[92, 34]⟩)))
          have HRd : Hid (Reads ((w5.setCell ⟨w1.heap.size, 256, none⟩ (.slice (some ⟨W.heap.size, 0, none⟩) 2 2)).alloc (strO (w5.setCell ⟨w1.heap.size, 256, none⟩ (.slice (some ⟨W.heap.size, 0, none⟩) 2 2)) ⟨#[92, 34]⟩)) (.slice (some ⟨w5.heap.size, 0, none⟩) 2 (strC (w5.setCell ⟨w1.heap.size, 256, none⟩ (.slice (some ⟨W.heap.size, 0, none⟩) 2 2)) ⟨#[92, 34]⟩)) [92, 34]) := by
            have e := str_reads (w5.setCell ⟨w1.heap.size, 256, none⟩ (.slice (some ⟨W.heap.size, 0, none⟩) 2 2)) ⟨#[92, 34]⟩
            rw [set_size] at e
            exact e
          have hcb : ∀ w, (convert 9 87 (.string ⟨#[92, 34]⟩)).run Tryz.prog w = .ok (.slice (some ⟨w.heap.size, 0, none⟩) 2 (strC w ⟨#[92, 34]⟩)) (w.drew.alloc (strO w ⟨#[92, 34]⟩)) := fun w => str_conv w _
          have u1 := HT5.out.list
          have u2 := HT5.out.free 256
          have u3 := HT7.out.cell 34 (by omega)
          have u4 := HT7.out.free 34
          have HL5 := Lib.hid (And.intro HT5.out.high (And.intro HT5.out.low HT5.out.below.size))
          have HR5 : Hid (Reads w5 (.slice (some ⟨a2, 0, none⟩) 2 c2) [92, 92]) := reads_keptX ((HRo.out.on (Below.alloc1 wr _)).on (Below.alloc1 _ _)) rfl (Nat.ne_of_lt HNe.out.1) (keep_grown hg5)
          have HR7 : Hid (Reads ((w5.setCell ⟨w1.heap.size, 256, none⟩ (.slice (some ⟨W.heap.size, 0, none⟩) 2 2)).alloc (strO (w5.setCell ⟨w1.heap.size, 256, none⟩ (.slice (some ⟨W.heap.size, 0, none⟩) 2 2)) ⟨#[92, 34]⟩)) (.slice (some ⟨a2, 0, none⟩) 2 c2) [92, 92]) := (reads_keptX HR5.out rfl HNe.out.2 (KeepX.set w1.heap.size _ 256 _)).on (Below.alloc1 _ _)
          clear hown5 hg5
          go_wp2
          go_roundw
          case rel =>
            obtain ⟨q1, q2, q3⟩ := HL5.out
            refine ⟨2, by omega, rfl, ?_⟩
            show ∃ c1 a1 c2 a2, _ ∧ _ ∧ _ ∧ _ ∧ _
            have h8 := (HT7.out.on (Below.refl _ _).drew).put 34 (by omega) (.slice (some ⟨w5.heap.size, 0, none⟩) 2 (strC (w5.setCell ⟨w1.heap.size, 256, none⟩ (.slice (some ⟨W.heap.size, 0, none⟩) 2 2)) ⟨#[92, 34]⟩))
            have h9 := (reads_keptX HRd.out rfl (Nat.ne_of_lt q1) (KeepX.set w1.heap.size _ 34 (.slice (some ⟨w5.heap.size, 0, none⟩) 2 (strC (w5.setCell ⟨w1.heap.size, 256, none⟩ (.slice (some ⟨W.heap.size, 0, none⟩) 2 2)) ⟨#[92, 34]⟩)))).drew
            exact ⟨_, _, c2, a2, h8, h9, (reads_keptX HR7.out rfl HNe.out.2 (KeepX.set w1.heap.size _ 34 _)).drew, Nat.lt_of_lt_of_le q2 (Nat.le_of_lt q1), HNe.out.1⟩
          case measure => simp [intOf]
        · have hS : ∃ c1 a1 c2 a2, TabSt W wr w1.heap.size 2 2 [.string ⟨#[92]⟩, .string ⟨#[34]⟩] (fun c => if c = 34 then .slice (some ⟨a1, 0, none⟩) 2 c1 else if c = 92 then .slice (some ⟨a2, 0, none⟩) 2 c2 else .slice none 0 0) ∧ Reads wr (.slice (some ⟨a1, 0, none⟩) 2 c1) [92, 34] ∧ Reads wr (.slice (some ⟨a2, 0, none⟩) 2 c2) [92, 92] ∧ W.heap.size < a1 ∧ W.heap.size < a2 := hS
          obtain ⟨c1, a1, c2, a2, HT, HR1, HR2, hl1, hl2⟩ := hS
          have HE : Hid (RepAt wr w1.heap.size W.heap.size c1 c2 a1 a2) := ⟨fun c hc => HT.cell c hc, HT.list, HT.own.cellAt 0 (by omega), HT.own.cellAt 1 (by omega), HR1, HR2⟩
          have HF : Hid (Below W.heap.size W wr ∧ W.heap.size ≤ w1.heap.size ∧ W.heap.size ≤ a1 ∧ W.heap.size ≤ a2) := ⟨HT.below, Nat.le_of_lt HT.low, Nat.le_of_lt hl1, Nat.le_of_lt hl2⟩
          clear HT HR1 HR2 hl1 hl2
          go_wp2
          go_ret
          obtain ⟨f1, f2, f3, f4⟩ := HF.out
          exact ⟨_, _, c1, c2, a1, a2, rfl, HE.out, f2, Nat.le_refl _, f3, f4, f1⟩
end Go.Proofs.YtnehgbpfgehhiaaGreatDoor.Path
/-
  PATH, the program: buildOnce.
-/
namespace Go.Proofs.YtnehgbpfgehhiaaGreatDoor.Path
open Go.RowKit Base
/-- The four strings at o. -/
def FourAt (w : World) (o : Nat) : Prop := w.cell? ⟨o, 0, none⟩ = some (.string ⟨#[34]⟩) ∧ w.cell? ⟨o, 1, none⟩ = some (.string ⟨#[92, 34]⟩) ∧ w.cell? ⟨o, 2, none⟩ = some (.string ⟨#[92]⟩) ∧ w.cell? ⟨o, 3, none⟩ = some (.string ⟨#[92, 92]⟩)
set_option maxHeartbeats 4000000 in
set_option maxRecDepth 100000 in
theorem pBuildOnce (b o c : Nat) (w : World) (hbo : b ≠ o) (hF : FourAt w o) : BuildOk b (.slice (some ⟨o, 0, none⟩) 4 c) w := by
  intro W hW hk
  obtain ⟨h0, h1, h2, h3⟩ := hF
  have C1 := Lib.hid (pBuild b o c W hW (cell_keptX h0 hbo hk) (cell_keptX h1 hbo hk) (cell_keptX h2 hbo hk) (cell_keptX h3 hbo hk))
  have HW := Lib.hid hW
  clear h0 h1 h2 h3 hk hW
  go_enter Tryz.func172, Tryz.ntmps172
  go_wp2_with (first | (go_at_call 203; refine C1.out.mono ?_; rintro ee w1 ⟨g, A, c1, c2, a1, a2, rfl, hR, l1, l2, l3, l4, hb⟩; refine Hid.out ?_) | fail)
  refine Lib.hid ?_
  have hblk : w1.heap[b]? = some (onceO 0 1 .nilIface (.slice (some ⟨o, 0, none⟩) 4 c)) := (hb.block b (heap_lt HW.out)).trans HW.out
  obtain ⟨z0, z1, z3, z4, zf⟩ := five_cells hblk
  have hlt := heap_lt HW.out
  have q1 := (once_set hblk).2.2.1 (.iface 282 (.pointer (some ⟨g, 0, none⟩)))
  have q2 := (once_set q1).2.2.2 (.slice none 0 0)
  have hk : KeepX b W ((w1.setCell ⟨b, 3, none⟩ (.iface 282 (.pointer (some ⟨g, 0, none⟩)))).setCell ⟨b, 4, none⟩ (.slice none 0 0)) := (KeepX.of_below hb).trans ((KeepX.set b _ 3 _).trans (KeepX.set b _ 4 _))
  have hk1 : KeepX b w1 ((w1.setCell ⟨b, 3, none⟩ (.iface 282 (.pointer (some ⟨g, 0, none⟩)))).setCell ⟨b, 4, none⟩ (.slice none 0 0)) := (KeepX.set b _ 3 _).trans (KeepX.set b _ 4 _)
  have HE : Hid (BuiltEnd b 0 1 W (.returned (.tuple #[])) ((w1.setCell ⟨b, 3, none⟩ (.iface 282 (.pointer (some ⟨g, 0, none⟩)))).setCell ⟨b, 4, none⟩ (.slice none 0 0))) :=
    ⟨rfl, ⟨g, A, c1, c2, a1, a2, q2, hR.keptX (by omega) (by omega) (by omega) (by omega) hk1, by omega, by omega, by omega, by omega⟩, hk⟩
  clear hblk q1 q2 hk hk1 hR hb
  go_wp2
  go_end0
  exact HE.out
end Go.Proofs.YtnehgbpfgehhiaaGreatDoor.Path
/-
  PATH, the program: a local part's form.
-/
namespace Go.Proofs.YtnehgbpfgehhiaaGreatDoor.Path
open Go.RowKit Base
/-- The strings that the replacer is made of. -/
def pairsO : Obj := Obj.cells #[Value.string ⟨#[34]⟩, Value.string ⟨#[92, 34]⟩, Value.string ⟨#[92]⟩, Value.string ⟨#[92, 92]⟩] 9
/-- What the library's replacer does. -/
structure RepOk (R : Nat → World → Value → Prop) : Prop where
  new : ∀ w : World, Calls Tryz.prog 127 #[.slice (some ⟨w.heap.size, 0, none⟩) 4 4] (w.alloc pairsO) fun e w' => ∃ v, e = .returned v ∧ R w.heap.size w' v ∧ Below w.heap.size w w'
  rep : ∀ (n0 : Nat) (w : World) (v : Value) (s : ByteArray), R n0 w v → s.size ≤ 1000000000 → Calls Tryz.prog 128 #[v, .string s] w fun e w' => e = .returned (.string ⟨(escB s.data.toList).toArray⟩) ∧ Below n0 w w'
def locF (s : ByteArray) : ByteArray := if (dots atomC someB s 0).1 = true ∧ (dots atomC someB s 0).2 = s.size then s else ⟨#[34]⟩ ++ ⟨(escB s.data.toList).toArray⟩ ++ ⟨#[34]⟩
theorem escB_le (l : List UInt8) : (escB l).length ≤ 2 * l.length := by
  induction l with
  | nil => exact Nat.le_refl _
  | cons c l ih =>
    have e : escB (c :: l) = (if c = 34 then [92, 34] else if c = 92 then [92, 92] else [c]) ++ escB l := rfl
    rw [e, List.length_append, List.length_cons]
    have : (if c = 34 then [92, 34] else if c = 92 then [92, 92] else [c] : List UInt8).length ≤ 2 := by
      split
      · decide
      · split
        · decide
        · show 1 ≤ 2; decide
    omega
theorem escS_le (s : ByteArray) : (⟨(escB s.data.toList).toArray⟩ : ByteArray).size ≤ 2 * s.size := by
  have := escB_le s.data.toList
  rw [str_len] at this
  show (escB s.data.toList).toArray.size ≤ _
  rw [List.size_toArray]; exact this
theorem locF_le (s : ByteArray) : (locF s).size ≤ 2 * s.size + 2 := by
  have h := escS_le s
  unfold locF
  split
  · omega
  · rw [ByteArray.size_append, ByteArray.size_append, show (⟨#[34]⟩ : ByteArray).size = 1 from rfl]; omega
theorem extract_all (s : ByteArray) : s.extract 0 s.size = s := by
  rw [extract_bytes]
  apply ByteArray.ext
  show ((s.data.toList.take s.size).drop 0).toArray = s.data
  rw [List.drop_zero, List.take_of_length_le (by rw [str_len]; exact Nat.le_refl _)]
set_option maxHeartbeats 8000000 in
set_option maxRecDepth 100000 in
theorem pLocF {R : Nat → World → Value → Prop} (hR : RepOk R) (s : ByteArray) (w : World) (hs : s.size ≤ 1000000000) : Calls Tryz.prog 85 #[.string s] w fun e w' => e = .returned (.string (locF s)) ∧ Below w.heap.size w w' := by
  obtain ⟨HBW, HRW⟩ := box_one w s
  have C1 := pAtoms w.heap.size 0 s _ HRW (Nat.zero_le _) (by omega)
  have HD : Hid (locF s = if (dots atomC someB s 0).1 = true ∧ (dots atomC someB s 0).2 = s.size then s else ⟨#[34]⟩ ++ ⟨(escB s.data.toList).toArray⟩ ++ ⟨#[34]⟩) := rfl
  have hle := (dots_le atomC someB s _ 0 (Nat.le_refl _) (Nat.zero_le _)).1
  generalize locF s = D at HD
  generalize dots atomC someB s 0 = r at C1 HD hle
  obtain ⟨b, m⟩ := r
  have hms : m ≤ s.size := hle
  have HT : Hid (D = if b = true ∧ m = s.size then s else ⟨#[34]⟩ ++ ⟨(escB s.data.toList).toArray⟩ ++ ⟨#[34]⟩) := HD.out
  have HBW := Lib.hid HBW
  have C1 : Hid (Calls Tryz.prog 126 #[.pointer (some ⟨w.heap.size, 0, none⟩)] (w.alloc (readO s)) fun e w' => e = .returned (.tuple #[.string (strOf s 0 (b, m)), .bool b]) ∧ RdAt w' w.heap.size s m ∧ KeepX w.heap.size (w.alloc (readO s)) w') := C1
  have HSO : Hid (b = true → m = s.size → strOf s 0 (b, m) = s) := fun h1 h2 => by
    unfold strOf
    rw [if_pos h1]
    show s.extract 0 m = s
    rw [h2, extract_all]
  generalize strOf s 0 (b, m) = so at C1 HSO
  have HN : Hid (∀ W : World, Calls Tryz.prog 127 #[.slice (some ⟨W.heap.size, 0, none⟩) 4 4] (W.alloc pairsO) fun e w' => ∃ v, e = .returned v ∧ R W.heap.size w' v ∧ Below W.heap.size W w') := hR.new
  have HRp : Hid (∀ (n0 : Nat) (W : World) (v : Value), R n0 W v → Calls Tryz.prog 128 #[v, .string s] W fun e w' => e = .returned (.string ⟨(escB s.data.toList).toArray⟩) ∧ Below n0 W w') := fun n0 W v h => hR.rep n0 W v s h hs
  have hes := escS_le s
  generalize (⟨(escB s.data.toList).toArray⟩ : ByteArray) = es at HRp HT hes
  have s1 : ¬ 9223372036854775807 < 1 + es.size := by omega
  have s2 : ¬ 9223372036854775807 < 1 + es.size + 1 := by omega
  unfold readO at C1 HBW
  unfold pairsO at HN
  clear hR hle HRW HD
  go_enter Tryz.func85, Tryz.ntmps85
  go_wp2_with (first | (go_at_call 126; refine C1.out.mono ?_; rintro ee w1 ⟨rfl, h1, q1⟩; refine Hid.out ?_) | fail)
  refine Lib.hid ?_
  obtain ⟨y0, y1, y2⟩ := h1.cells
  have HB1 := Lib.hid (below_of_keep (Nat.le_refl _) HBW.out q1)
  clear h1 q1
  by_cases hc : b = true ∧ m = s.size
  · obtain ⟨rfl, hm⟩ := hc
    have e : so = s := HSO.out rfl hm
    have HT2 : Hid (D = s) := by have e := HT.out; rw [if_pos ⟨rfl, hm⟩] at e; exact e
    subst e
    have q1 : ((m : Int) == (so.size : Int)) = true := by rw [beq_iff_eq]; omega
    clear hm HT HSO
    go_wp2
    go_ret
    exact ⟨by rw [HT2.out]; rfl, HB1.out⟩
  · have HT2 : Hid (D = ⟨#[34]⟩ ++ es ++ ⟨#[34]⟩) := by have e := HT.out; rw [if_neg hc] at e; exact e
    have HQ : Hid (b = true → ((m : Int) == (s.size : Int)) = false) := fun hb => by
      rw [beq_eq_false_iff_ne]; intro h; exact hc ⟨hb, by omega⟩
    clear hc HT HSO
    cases b with
    | false =>
      clear HQ
      go_wp2_with (first | (go_at_call 127; refine (HN.out _).mono ?_; rintro ee w2 ⟨v, rfl, hv, hb⟩; refine Hid.out ?_) | fail)
      refine Lib.hid ?_
      have HB2 := Lib.hid (HB1.out.trans (hb.mono HB1.out.size))
      have HV := Lib.hid hv
      clear hb hv
      go_wp2_with (first | (go_at_call 128; refine (HRp.out _ _ _ HV.out).mono ?_; rintro ee w3 ⟨rfl, hb⟩; refine Hid.out ?_) | fail)
      refine Lib.hid ?_
      have HB3 := Lib.hid (HB2.out.trans (hb.mono HB1.out.size))
      clear hb
      go_wp2
      go_ret
      exact ⟨by rw [HT2.out]; rfl, HB3.out⟩
    | true =>
      have q1 := HQ.out rfl
      clear HQ
      go_wp2_with (first | (go_at_call 127; refine (HN.out _).mono ?_; rintro ee w2 ⟨v, rfl, hv, hb⟩; refine Hid.out ?_) | fail)
      refine Lib.hid ?_
      have HB2 := Lib.hid (HB1.out.trans (hb.mono HB1.out.size))
      have HV := Lib.hid hv
      clear hb hv
      go_wp2_with (first | (go_at_call 128; refine (HRp.out _ _ _ HV.out).mono ?_; rintro ee w3 ⟨rfl, hb⟩; refine Hid.out ?_) | fail)
      refine Lib.hid ?_
      have HB3 := Lib.hid (HB2.out.trans (hb.mono HB1.out.size))
      clear hb
      go_wp2
      go_ret
      exact ⟨by rw [HT2.out]; rfl, HB3.out⟩
theorem form_ok {R : Nat → World → Value → Prop} (hR : RepOk R) : FormOk locF := ⟨locF_le, fun s w h => pLocF hR s w h⟩
end Go.Proofs.YtnehgbpfgehhiaaGreatDoor.Path
/-
  PATH, the program: strings.NewReplacer of the four strings, and Replace.
-/
namespace Go.Proofs.YtnehgbpfgehhiaaGreatDoor.Path
open Go.RowKit Base
/-- A replacer that is not built yet, above n0. -/
def RepNew (n0 : Nat) (w : World) (v : Value) : Prop := ∃ b o c, v = .pointer (some ⟨b, 0, none⟩) ∧ w.heap[b]? = some (onceO 0 0 .nilIface (.slice (some ⟨o, 0, none⟩) 4 c)) ∧ FourAt w o ∧ b ≠ o ∧ n0 ≤ b
set_option maxHeartbeats 4000000 in
set_option maxRecDepth 100000 in
theorem pReplace (n0 : Nat) (w : World) (v : Value) (s : ByteArray) (hR : RepNew n0 w v) (hs : s.size ≤ 1000000000) : Calls Tryz.prog 128 #[v, .string s] w fun e w' => e = .returned (.string ⟨(escB s.data.toList).toArray⟩) ∧ Below n0 w w' := by
  obtain ⟨b, o, c, rfl, hW, hF, hbo, hn⟩ := hR
  have hlt := heap_lt hW
  have C1 := Lib.hid (pDo b (.slice (some ⟨o, 0, none⟩) 4 c) w hW (pBuildOnce b o c w hbo hF))
  have hmf : ∀ (fn : Fn) (first cap : Array Value) (w : World), (Instr.makeFunc fn first cap).run Tryz.prog w = .ok (.func fn first cap) w := fun _ _ _ _ => rfl
  have hm : ∀ (a : Addr) (w : World), (method 455 282 (.pointer (some a)) "Replace").run Tryz.prog w = .ok (295, .pointer (some a)) w := fun a w => by kernel_rfl
  have HN := Lib.hid hn
  clear hF hW hbo hn
  unfold buildF at C1
  go_enter Tryz.func128, Tryz.ntmps128
  go_wp2_with (first | (go_at_call 171; refine C1.out.mono ?_; rintro ee w1 ⟨rfl, ⟨g, A, c1, c2, a1, a2, h5, hR, n1, n2, n3, n4⟩, hk⟩; refine Hid.out ?_) | fail)
  refine Lib.hid ?_
  obtain ⟨x0, x1, x3, x4, xf⟩ := five_cells h5
  have HK := Lib.hid hk
  have C2 := Lib.hid (pBSR g A c1 c2 a1 a2 s w1 hR hs)
  have HB : Hid (Below n0 w w1) := hk.below HN.out hlt
  clear hR hk h5
  go_wp2_with (first | (go_at_call 295; refine C2.out.mono ?_; rintro ee w2 ⟨rfl, hb⟩; refine Hid.out ?_) | fail)
  refine Lib.hid ?_
  have HB2 : Hid (Below n0 w w2) := HB.out.trans (hb.mono (Nat.le_trans (Nat.le_trans HN.out (Nat.le_of_lt hlt)) HB.out.size))
  clear hb
  go_wp2
  go_ret
  exact ⟨rfl, HB2.out⟩
theorem newrep_end (w : World) (o1 : Obj) (more : Array Value) (t : TypeId) (c : Nat) :
    RepNew w.heap.size ((((w.alloc o1).alloc (.cells (#[Value.string ⟨#[34]⟩, Value.string ⟨#[92, 34]⟩, Value.string ⟨#[92]⟩, Value.string ⟨#[92, 92]⟩] ++ more) t)).alloc (onceO 0 0 .nilIface (.slice (some ⟨w.heap.size + 1, 0, none⟩) 4 c))).drew) (.pointer (some ⟨w.heap.size + 1 + 1, 0, none⟩)) := by
  have e1 := alloc_size w o1
  have h1 := (MapKept.heap_alloc ((w.alloc o1).alloc (.cells (#[Value.string ⟨#[34]⟩, Value.string ⟨#[92, 34]⟩, Value.string ⟨#[92]⟩, Value.string ⟨#[92, 92]⟩] ++ more) t)) (onceO 0 0 .nilIface (.slice (some ⟨w.heap.size + 1, 0, none⟩) 4 c))).1
  rw [alloc_size, e1] at h1
  have h2 := (MapKept.heap_alloc (w.alloc o1) (.cells (#[Value.string ⟨#[34]⟩, Value.string ⟨#[92, 34]⟩, Value.string ⟨#[92]⟩, Value.string ⟨#[92, 92]⟩] ++ more) t)).1
  rw [e1] at h2
  have h3 := (Below.alloc1 ((w.alloc o1).alloc (.cells (#[Value.string ⟨#[34]⟩, Value.string ⟨#[92, 34]⟩, Value.string ⟨#[92]⟩, Value.string ⟨#[92, 92]⟩] ++ more) t)) (onceO 0 0 .nilIface (.slice (some ⟨w.heap.size + 1, 0, none⟩) 4 c))).block (w.heap.size + 1) (heap_lt h2)
  rw [h2] at h3
  refine ⟨w.heap.size + 1 + 1, w.heap.size + 1, c, rfl, h1, ⟨?_, ?_, ?_, ?_⟩, by omega, by omega⟩
  all_goals
    show World.cell? (World.alloc _ _) _ = _
    unfold World.cell?
    rw [h3]
    simp [Array.getElem?_append]
theorem newrep_below (w : World) (o1 o2 o3 : Obj) : Below w.heap.size w (((w.alloc o1).alloc o2).alloc o3).drew :=
  ((((Below.refl _ _).alloc (Nat.le_refl _) o1).alloc (by rw [alloc_size]; omega) o2).alloc (by rw [alloc_size, alloc_size]; omega) o3).drew
set_option maxHeartbeats 4000000 in
set_option maxRecDepth 100000 in
theorem pNewRep (w : World) : Calls Tryz.prog 127 #[.slice (some ⟨w.heap.size, 0, none⟩) 4 4] (w.alloc pairsO) fun e w' => ∃ v, e = .returned v ∧ RepNew w.heap.size w' v ∧ Below w.heap.size w w' := by
  have hp := (MapKept.heap_alloc w pairsO).1
  unfold pairsO at hp ⊢
  have HP := Lib.hid hp
  have HB := Lib.hid (Below.alloc1 w (Obj.cells #[Value.string ⟨#[34]⟩, Value.string ⟨#[92, 34]⟩, Value.string ⟨#[92]⟩, Value.string ⟨#[92, 92]⟩] 9))
  obtain ⟨i0, hi, hz0, hz1, hz2⟩ := info_parts infoS
  clear hp
  go_enter Tryz.func127, Tryz.ntmps127
  go_wp2
  go_ret
  exact ⟨_, rfl, newrep_end w _ _ _ _, newrep_below w _ _ _⟩
/-- The replacer's promise. -/
theorem rep_ok : RepOk RepNew := ⟨pNewRep, fun n0 w v s h hs => pReplace n0 w v s h hs⟩
theorem locF_ok : FormOk locF := form_ok rep_ok
end Go.Proofs.YtnehgbpfgehhiaaGreatDoor.Path
