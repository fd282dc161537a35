/-
  The ports that have something to take.
-/
import Derived.Test.YtfmphhcdbocgnaaPipePorts
import Derived.Test.YtfmphhcdbocgnaaPipeSend
namespace Go.Proofs.Ytfmphhcdbocgnaa.Pipe
open Go.RowKit Base
open Go.Proofs (encStr)
/-- The ports of pipes that hold something, as they stand. -/
def waitL (Ps : List (PA × PG)) : List (List UInt8) := (Ps.filter fun p => !p.1.q.isEmpty).map fun p => p.1.t.data.toList
theorem waitL_perm {a b : List (PA × PG)} (h : a.Perm b) : (waitL a).Perm (waitL b) := (h.filter _).map _
theorem waitL_len (a : List (PA × PG)) : (waitL a).length ≤ a.length := by
  unfold waitL; rw [List.length_map]; exact List.length_filter_le _ _
theorem waitL_yes (a : List (PA × PG)) (p : PA × PG) (h : 0 < p.1.q.length) : waitL (a ++ [p]) = waitL a ++ [p.1.t.data.toList] := by
  unfold waitL
  have hq : (!p.1.q.isEmpty) = true := by cases hp : p.1.q with | nil => rw [hp] at h; cases h | cons x r => rfl
  rw [List.filter_append, List.filter_cons_of_pos (by exact hq), List.map_append]; rfl
theorem waitL_no (a : List (PA × PG)) (p : PA × PG) (h : ¬ 0 < p.1.q.length) : waitL (a ++ [p]) = waitL a := by
  unfold waitL
  have hq : (!p.1.q.isEmpty) = false := by cases hp : p.1.q with | nil => rfl | cons x r => rw [hp] at h; simp at h
  rw [List.filter_append, List.filter_cons_of_neg (by rw [hq]; simp)]; simp
theorem one_str (a : ByteArray) : ∀ u ∈ [Value.string a], u.oneCell' = true := by
  intro u hu; rw [List.mem_singleton.1 hu]; rfl
theorem news_one2 (w : World) (x : Value) (t : TypeId) {o : Obj} : ∀ (j : Nat) (u : Value), [x][j]? = some u → ((w.alloc o).alloc (.cells #[x] t)).cell? ((⟨w.heap.size + 1, 0, none⟩ : Addr).add j) = some u := by
  have := news_one (w.alloc o) x t
  rwa [show (w.alloc o).heap.size = w.heap.size + 1 by simp] at this
section
variable {own : Nat → Tag} {w : World} {g mb : Nat} {Ps : List (PA × PG)}
def WaitEnd (ws : List (List UInt8)) (w : World) (e : Ending) (w' : World) : Prop :=
  ∃ v', e = .returned v' ∧ w'.ownsRow w.heap.size 9 1 v' (onceL ws).length ((onceL ws).map encStr) ∧ Below w.heap.size w w'
set_option maxHeartbeats 1000000 in
theorem cWaiting (h : Holds own w g mb Ps) (hn : Ps.length ≤ 1000000) : Calls Try.prog 20 #[.pointer (some ⟨g, 0, none⟩)] w (WaitEnd (waitL Ps) w) := by
  obtain ⟨i0, hi0, hz0, hz1', hz2⟩ := info_parts info9
  have hc := h.cell
  have hmap : Hid (MapIs Try.prog 52 w mb (Ps.map entry)) := h.map
  have hpip : Hid (∀ p ∈ Ps, w.cell? ⟨p.2.pb, 1, none⟩ = some p.2.sv ∧ p.2.pb < w.heap.size ∧ ∃ a c, p.2.sv = .slice a p.1.q.length c) := fun p hp => by
    obtain ⟨i, hi⟩ := List.getElem?_of_mem hp
    have hP := h.pipes i p hi
    obtain ⟨a, c, hsv, _⟩ := row_form hP.row
    exact ⟨hP.cells.2.1, own_lt h.fresh hP.boxOwn, a, c, hsv⟩
  clear h
  obtain ⟨R, hR⟩ : ∃ R : Value → World → Prop, R = fun v wr => ∃ dn Rs : List (PA × PG), (dn ++ Rs).Perm Ps ∧ RangeIs Try.prog 52 wr mb w.heap.size (Ps.map entry) (Rs.map entry) ∧ wr.ownsRow w.heap.size 9 1 v (waitL dn).length ((waitL dn).map encStr) ∧
    Below w.heap.size w wr ∧ w.heap.size + 1 ≤ wr.heap.size := ⟨_, rfl⟩
  have HR := Lib.hid hR
  clear hR
  go_enter Try.func20, Try.ntmps20
  go_wp2_with (first
    | (at_range; refine wpList_range_is _ rfl _ 42 rfl 52 54 Try.underlying42 mb _ rfl hmap.out w.heap.size (by simp) ?_; intro w0 hrg hgr hsz; go_frame)
    | fail)
  go_loopw [3] (fun v wr => R v wr) (fun _ wr => wr.rangeLeft mb w.heap.size)
  case atStart =>
    rw [HR.out]
    exact ⟨[], Ps, by simp, hrg, ⟨rfl, Or.inl ⟨rfl, rfl⟩⟩, (Below.refl _ _).grown hgr (Nat.le_refl _) (fun k hk => by cases hk), by omega⟩
  case round =>
    rw [HR.out] at hrel
    obtain ⟨dn, Rs, hperm, hrg, hown, hbel, hsz⟩ := hrel
    have HP := Lib.hid hperm
    clear hperm
    go_wp2_with (first
      | (at_next; refine wpList_next_ty _ (fun p : PA × PG => .agg #[.string p.1.f, .string p.1.t]) (fun p => .pointer (some ⟨p.2.pb, 0, none⟩)) Ps Rs rfl _ rfl 52 mb w.heap.size rfl hrg ?_ ?_)
      | fail)
    · intro hrem
      have HREM := Lib.hid hrem
      clear hrem
      have hone : Hid (onceL (waitL dn) = onceL (waitL Ps)) := by
        refine once_perm (waitL_perm ?_)
        have := HP.out
        rwa [HREM.out, List.append_nil] at this
      have hssl : Hid ((waitL dn).length < 4611686018427387904) := by
        have e1 := HP.out.length_eq
        rw [List.length_append] at e1
        have := waitL_len dn
        show _ < _
        omega
      go_wp2_with (go_at_call 31; refine (cOnce _ _ _ _ hown hssl.out).mono ?_; rintro e w2 ⟨v2, rfl, hown2, hg2, _⟩; rw [hone.out] at hown2; refine Hid.out ?_)
      refine Lib.hid ?_
      go_wp2
      go_ret
      exact ⟨_, rfl, hown2, hbel.grown hg2 hbel.size fun k hk => (hown.lt k hk).1⟩
    · intro A B pa pg w1 hA hrg1 hg1 hs1 hen
      have hmem : (pa, pg) ∈ Ps := by
        have := HP.out.mem_iff (a := (pa, pg))
        rw [hA] at this
        exact this.1 (by simp)
      replace hrg1 : RangeIs Try.prog 52 w1 mb w.heap.size (Ps.map entry) ((A ++ B).map entry) := by rw [List.map_append]; exact hrg1
      have HA := Lib.hid hA
      clear hA
      have HS1 := Lib.hid hs1
      clear hs1
      obtain ⟨pc, pblt, sa, sc, hsv⟩ := hpip.out _ hmem
      rw [hsv] at pc
      have hb1 : Below w.heap.size w w1 := hbel.grown hg1 hbel.size fun k hk => by cases hk; omega
      have pc1 : w1.cell? ⟨pg.pb, 1, none⟩ = some (.slice sa pa.q.length sc) := (hb1.cell (p := ⟨pg.pb, 1, none⟩) pblt).trans pc
      have pb1 : pg.pb < w1.heap.size := Nat.lt_of_lt_of_le pblt hb1.size
      clear pc hsv
      have hssm : Hid ((waitL dn).length ≤ 3000000) := by
        have e1 := HP.out.length_eq
        rw [List.length_append] at e1
        have := waitL_len dn
        show _ ≤ _
        omega
      have hown1 : Hid (w1.ownsRow w.heap.size 9 1 u3 (waitL dn).length ((waitL dn).map encStr)) := row_kept2 hown fun b hb => hg1.block b (hown.lt b hb).2 (fun e => by cases e; exact hrg.notRow hown hb)
      have hperm2 : Hid ((dn ++ [(pa, pg)] ++ (A ++ B)).Perm Ps) := by
        refine List.Perm.trans ?_ HP.out
        rw [HA.out, List.append_assoc]
        refine List.Perm.append_left _ ?_
        show ((pa, pg) :: (A ++ B)).Perm (A ++ (pa, pg) :: B)
        exact List.perm_middle.symm
      have hnr : some mb ≠ u3.ownBlock ∧ some w.heap.size ≠ u3.ownBlock := ⟨fun e => by have := (hown.lt mb e.symm).1; have := hmap.out.lt; omega, fun e => hrg.notRow hown e.symm⟩
      have hmlt := hrg1.map.lt
      have hrlt := hrg1.lt
      have hlen := hrg.left_eq
      have HLEN := Lib.hid hlen
      clear hlen
      by_cases hq : 0 < pa.q.length
      · have hq1 : (0 : Int) < (pa.q.length : Int) := by omega
        go_wp2_with (at_builtin; go_must (refine wpList_append_lies _ rfl _ _ 49 rfl w.heap.size 9 i0 (.string ⟨#[]⟩) 1 16 Try.underlying49 hi0 hz0 hz1' hz2 rfl (by decide) _ (waitL dn).length ((waitL dn).map encStr) rfl ((hown1.out.alloc _).alloc _) ⟨w1.heap.size + 1, 0, none⟩ 1 1 [.string pa.t] rfl rfl (news_one2 _ _ _) (one_str _) (by omega) (by have := hssm.out; unfold maxLen; omega) (by have := hssm.out; omega) (by have := HS1.out; simp; omega) (w1.heap.size + 1 + 1) (by simp) ?_); intro g2 cap2 w2 hown2 hgrow2 hat2 hlt2; refine Hid.out ?_)
        refine Lib.hid ?_
        go_wp2
        have hw2 : w1.heap.size + 1 + 1 ≤ w2.heap.size := by have := hgrow2.size; simpa using this
        have hrg2 : RangeIs Try.prog 52 w2 mb w.heap.size (Ps.map entry) ((A ++ B).map entry) := hrg1.kept
          ((hgrow2.block _ (by simp; omega) hnr.1).trans (((MapKept.heap_alloc _ _).2 _ (by simp; omega)).trans ((MapKept.heap_alloc _ _).2 _ hmlt)))
          ((hgrow2.block _ (by simp; omega) hnr.2).trans (((MapKept.heap_alloc _ _).2 _ (by simp; omega)).trans ((MapKept.heap_alloc _ _).2 _ hrlt)))
        have hbel2 : Below w.heap.size w w2 :=
          ((hb1.alloc (by have := HS1.out; omega) _).alloc (by have := HS1.out; simp; omega) _).grown hgrow2 (by have := HS1.out; simp; omega) fun k hk => (hown.lt k hk).1
        go_roundw
        case rel =>
          rw [HR.out]
          refine ⟨dn ++ [(pa, pg)], A ++ B, hperm2.out, hrg2, ?_, hbel2, by have := HS1.out; omega⟩
          rw [waitL_yes _ _ hq, List.map_append, List.length_append]
          have e : [pa.t.data.toList].map encStr = [.string pa.t] := by simp [encStr]
          rw [e]; exact hown2
        case measure =>
          rw [hrg2.left_eq, HLEN.out, HA.out]
          simp
      · have hq1 : ¬ (0 : Int) < (pa.q.length : Int) := by omega
        go_wp2
        have hrg2 : RangeIs Try.prog 52 (w1.alloc (.cells #[.string pa.f, .string pa.t] 52)) mb w.heap.size (Ps.map entry) ((A ++ B).map entry) := hrg1.kept ((MapKept.heap_alloc _ _).2 _ hmlt) ((MapKept.heap_alloc _ _).2 _ hrlt)
        go_roundw
        case rel =>
          rw [HR.out]
          refine ⟨dn ++ [(pa, pg)], A ++ B, hperm2.out, hrg2, ?_, hb1.alloc (by have := HS1.out; omega) _, by have := HS1.out; simp; omega⟩
          rw [waitL_no _ _ hq]
          exact hown1.out.alloc _
        case measure =>
          rw [hrg2.left_eq, HLEN.out, HA.out]
          simp
end
end Go.Proofs.Ytfmphhcdbocgnaa.Pipe
