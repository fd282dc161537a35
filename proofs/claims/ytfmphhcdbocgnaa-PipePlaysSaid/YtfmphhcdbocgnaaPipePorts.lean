/-
  How many ports there would be.
-/
import Derived.Test.YtfmphhcdbocgnaaPipeOnce
import Derived.Deep.RegionLaw
import Derived.Deep.DeepMust
import Derived.Deep.AppendLies
namespace Go.Proofs.Ytfmphhcdbocgnaa.Pipe
open Go.RowKit Base
open Go.Proofs (encStr)
theorem le_antisymm_bytes {a b : List UInt8} (h : a ≤ b) (k : b ≤ a) : a = b := List.le_antisymm h k
theorem sort_perm {l1 l2 : List (List UInt8)} (h : l1.Perm l2) : (l1.mergeSort fun x y => decide (x ≤ y)) = l2.mergeSort fun x y => decide (x ≤ y) := by
  have tr : ∀ a b c : List UInt8, decide (a ≤ b) = true → decide (b ≤ c) = true → decide (a ≤ c) = true := fun a b c h1 h2 => by
    rw [decide_eq_true_iff] at *; exact List.le_trans h1 h2
  have tot : ∀ a b : List UInt8, (decide (a ≤ b) || decide (b ≤ a)) = true := fun a b => by
    rw [Bool.or_eq_true, decide_eq_true_iff, decide_eq_true_iff]; exact List.le_total a b
  have p1 := List.pairwise_mergeSort tr tot l1
  have p2 := List.pairwise_mergeSort tr tot l2
  refine List.Perm.eq_of_pairwise (le := fun x y => decide (x ≤ y) = true) (fun a b _ _ h1 h2 => le_antisymm_bytes (of_decide_eq_true h1) (of_decide_eq_true h2)) p1 p2 ?_
  exact (List.mergeSort_perm _ _).trans (h.trans (List.mergeSort_perm _ _).symm)
theorem once_perm {l1 l2 : List (List UInt8)} (h : l1.Perm l2) : onceL l1 = onceL l2 := by unfold onceL; rw [sort_perm h]
/-- The two ports of an entry. -/
def keyStrs (x : Value × Value) : List (List UInt8) :=
  match x.1 with
  | .agg #[.string f, .string t] => [f.data.toList, t.data.toList]
  | _ => []
def portsOf (Ps : List (PA × PG)) : List (List UInt8) := Ps.flatMap fun p => [p.1.f.data.toList, p.1.t.data.toList]
theorem portsOf_eq (Ps : List (PA × PG)) : (Ps.map entry).flatMap keyStrs = portsOf Ps := by
  rw [List.flatMap_map]; rfl

theorem MapIs.alloc {k : TypeId} {w : World} {b : Nat} {L : List (Value × Value)} (h : MapIs Try.prog k w b L) (o : Obj) : MapIs Try.prog k (w.alloc o) b L := h.kept ((MapKept.heap_alloc _ _).2 _ h.lt)
theorem info9 : (Try.prog.info? 9).map (fun i => (i.zero, i.size, i.bytes)) = some (some (.string ⟨#[]⟩), 1, 16) := by kernel_rfl
theorem enc_str (s : ByteArray) : Value.string s = encStr s.data.toList := by simp [encStr]
theorem portsOf_len : ∀ dn : List (PA × PG), (portsOf dn).length = 2 * dn.length
  | [] => rfl
  | x :: r => by
    have := portsOf_len r
    unfold portsOf at this ⊢
    rw [List.flatMap_cons, List.length_append, this]
    simp only [List.length_cons, List.length_nil]
    omega
theorem portsOf_perm {a b : List (PA × PG)} (h : (a.map entry).Perm (b.map entry)) : (portsOf a).Perm (portsOf b) := by
  rw [← portsOf_eq, ← portsOf_eq]
  exact h.flatMap_right _
theorem portsOf_snoc (a : List (PA × PG)) (p : PA × PG) : portsOf (a ++ [p]) = portsOf a ++ [p.1.f.data.toList, p.1.t.data.toList] := by
  unfold portsOf
  rw [List.flatMap_append]; rfl
theorem row_kept2 {w w' : World} {B : Nat} {e : TypeId} {s : Nat} {v : Value} {n : Nat} {xs : List Value} (h : w.ownsRow B e s v n xs) (hk : ∀ b, v.ownBlock = some b → w'.heap[b]? = w.heap[b]?) : w'.ownsRow B e s v n xs := by
  refine ⟨h.1, ?_⟩
  rcases h.2 with hn | ⟨g, cap, cur, rfl, h1, h2, h3⟩
  · exact Or.inl hn
  · exact Or.inr ⟨g, cap, cur, rfl, h1, by rw [hk g rfl]; exact h2, h3⟩
theorem two_one (a b : ByteArray) : ∀ u ∈ [Value.string a, Value.string b], u.oneCell' = true := by
  intro u hu
  rcases List.mem_cons.1 hu with rfl | hu
  · rfl
  · rw [List.mem_singleton.1 hu]; rfl
theorem news_two (w : World) (x y : Value) (t t' : TypeId) : ∀ (j : Nat) (u : Value), [x, y][j]? = some u → ((w.alloc (.cells #[x, y] t')).alloc (.cells #[x, y] t)).cell? ((⟨w.heap.size + 1, 0, none⟩ : Addr).add j) = some u := by
  intro j u h
  have h0 := (MapKept.heap_alloc (w.alloc (.cells #[x, y] t')) (.cells #[x, y] t)).1
  have hj : j = 0 ∨ j = 1 := by
    have := (List.getElem?_eq_some_iff.1 h).1
    simp at this; omega
  rw [Addr.add_lit]
  unfold World.cell?
  simp only [World.alloc, Array.size_push] at h0 ⊢
  rw [h0]
  rcases hj with rfl | rfl <;> exact h
section
variable {own : Nat → Tag} {w : World} {g mb : Nat} {Ps : List (PA × PG)}
def PortsEnd (n : Nat) (w : World) (e : Ending) (w' : World) : Prop := e = .returned (.int .i64 (n : Int)) ∧ Below w.heap.size w w'
theorem cPorts (h : Holds own w g mb Ps) (f t : ByteArray) (hn : Ps.length ≤ 1000000) :
    Calls Try.prog 25 #[.pointer (some ⟨g, 0, none⟩), .agg #[.string f, .string t]] w (PortsEnd (onceL ([f.data.toList, t.data.toList] ++ portsOf Ps)).length w) := by
  obtain ⟨i0, hi0, hz0, hz1', hz2⟩ := info_parts info9
  have hc := h.cell
  have hglt := own_lt h.fresh h.rootOwn
  have hmap : Hid (MapIs Try.prog 52 w mb (Ps.map entry)) := h.map
  clear h
  obtain ⟨R, hR⟩ : ∃ R : Value → World → Prop, R = fun v wr => ∃ dn : List (PA × PG), ∃ rem : List (Value × Value), ∃ ss, (dn.map entry ++ rem).Perm (Ps.map entry) ∧ RangeIs Try.prog 52 wr mb (w.heap.size + 1 + 1) (Ps.map entry) rem ∧ wr.ownsRow w.heap.size 9 1 v ss.length (ss.map encStr) ∧
    ss = [f.data.toList, t.data.toList] ++ portsOf dn ∧ Below w.heap.size w wr ∧ w.heap.size + 3 ≤ wr.heap.size := ⟨_, rfl⟩
  have HR := Lib.hid hR
  clear hR
  go_enter Try.func25, Try.ntmps25
  go_wp2_with (first
    | (at_range; refine wpList_range_is _ rfl _ 42 rfl 52 54 Try.underlying42 mb _ rfl (MapIs.alloc (MapIs.alloc hmap.out _) _) (w.heap.size + 1 + 1) (by simp) ?_; intro w0 hrg hgr hsz; go_frame)
    | fail)
  go_loopw [5] (fun v wr => R v wr) (fun _ wr => wr.rangeLeft mb (w.heap.size + 1 + 1))
  case atStart =>
    rw [HR.out]
    have hb1 : Below w.heap.size w w0 := ((((Below.refl w.heap.size w).alloc (Nat.le_refl _) _).alloc (by simp) _).grown hgr (by simp; omega) fun k hk => by cases hk)
    refine ⟨[], Ps.map entry, [f.data.toList, t.data.toList], by simp, hrg, ?_, rfl, hb1, by omega⟩
    have hl : (w.alloc (.cells #[.string f, .string t] 52)).heap.size = w.heap.size + 1 := by simp
    have h0 := World.ownsRow_lit (w.alloc (.cells #[.string f, .string t] 52)) (base := w.heap.size) (e := 9) (size := 1) #[.string f, .string t] 2 (by simp) (by decide) rfl
    rw [hl] at h0
    have e : [f.data.toList, t.data.toList].map encStr = [.string f, .string t] := by simp [encStr]
    rw [e]
    exact row_kept2 h0 fun b hb => hgr.block b (by cases hb; simp) (by simp)
  case round =>
    rw [HR.out] at hrel
    obtain ⟨dn, rem, ss, hperm, hrg, hown, hss, hbel, hsz⟩ := hrel
    have HSS := Lib.hid hss
    have HP := Lib.hid hperm
    clear hss hperm
    go_wp2_with (first
      | (at_next; refine wpList_next_of _ (fun p : PA × PG => .agg #[.string p.1.f, .string p.1.t]) (fun p => .pointer (some ⟨p.2.pb, 0, none⟩)) Ps rfl _ rfl 52 mb (w.heap.size + 1 + 1) rem rfl hrg ?_ ?_)
      | fail)
    · intro hrem
      have HREM := Lib.hid hrem
      clear hrem
      have hssl : Hid (ss.length < 4611686018427387904) := by
        have e1 := HP.out.length_eq
        rw [HREM.out, List.append_nil, List.length_map, List.length_map] at e1
        rw [HSS.out, List.length_append, portsOf_len]
        show 2 + _ < _
        omega
      have hone : Hid (onceL ss = onceL ([f.data.toList, t.data.toList] ++ portsOf Ps)) := by
        rw [HSS.out]
        refine once_perm (List.Perm.append_left _ (portsOf_perm ?_))
        have := HP.out
        rwa [HREM.out, List.append_nil] at this
      go_wp2_with (go_at_call 31; refine (cOnce _ _ _ _ hown hssl.out).mono ?_; rintro e w2 ⟨v2, rfl, hown2, hg2, _⟩; rw [hone.out] at hown2; obtain ⟨a2, c2, hv2, _⟩ := row_form hown2; subst hv2; refine Hid.out ?_)
      refine Lib.hid ?_
      go_wp2
      go_ret
      exact ⟨rfl, hbel.grown hg2 hbel.size fun k hk => (hown.lt k hk).1⟩
    · intro A B pa pg w1 hA hmem hrg1 hg1 hs1 hen
      have HA := Lib.hid hA
      clear hA
      have hssm : Hid (ss.length ≤ 3000000) := by
        have e1 := HP.out.length_eq
        rw [List.length_append, List.length_map, List.length_map] at e1
        rw [HSS.out, List.length_append, portsOf_len]
        show 2 + _ ≤ _
        omega
      have hown1 : Hid (w1.ownsRow w.heap.size 9 1 u5 ss.length (ss.map encStr)) := row_kept2 hown fun b hb => hg1.block b (hown.lt b hb).2 (fun e => by cases e; exact hrg.notRow hown hb)
      have HS1 := Lib.hid hs1
      clear hs1
      go_wp2_with (at_builtin; go_must (refine wpList_append_lies _ rfl _ _ 49 rfl w.heap.size 9 i0 (.string ⟨#[]⟩) 1 16 Try.underlying49 hi0 hz0 hz1' hz2 rfl (by decide) _ ss.length (ss.map encStr) rfl ((hown1.out.alloc _).alloc _) ⟨w1.heap.size + 1, 0, none⟩ 2 2 [.string pa.f, .string pa.t] rfl rfl (news_two _ _ _ _ _) (two_one _ _) (by omega) (by have := hssm.out; unfold maxLen; omega) (by have := hssm.out; omega) (by have := HS1.out; simp; omega) (w1.heap.size + 1 + 1) (by simp) ?_); intro g2 cap2 w2 hown2 hgrow2 hat2 hlt2; refine Hid.out ?_)
      refine Lib.hid ?_
      go_wp2
      have hw2 : w1.heap.size + 1 + 1 ≤ w2.heap.size := by have := hgrow2.size; simpa using this
      have hnr : some mb ≠ u5.ownBlock ∧ some (w.heap.size + 1 + 1) ≠ u5.ownBlock := ⟨fun e => by have := (hown.lt mb e.symm).1; have := hmap.out.lt; omega, fun e => hrg.notRow hown e.symm⟩
      have hmlt := hrg1.map.lt
      have hrlt := hrg1.lt
      have hrg2 : RangeIs Try.prog 52 w2 mb (w.heap.size + 1 + 1) (Ps.map entry) (A ++ B) := hrg1.kept
        ((hgrow2.block _ (by simp; omega) hnr.1).trans (((MapKept.heap_alloc _ _).2 _ (by simp; omega)).trans ((MapKept.heap_alloc _ _).2 _ hmlt)))
        ((hgrow2.block _ (by simp; omega) hnr.2).trans (((MapKept.heap_alloc _ _).2 _ (by simp; omega)).trans ((MapKept.heap_alloc _ _).2 _ hrlt)))
      have hbel2 : Below w.heap.size w w2 := by
        have b1 : Below w.heap.size w w1 := hbel.grown hg1 hbel.size fun k hk => by cases hk; omega
        exact ((b1.alloc (by have := HS1.out; omega) _).alloc (by have := HS1.out; simp; omega) _).grown hgrow2 (by have := HS1.out; simp; omega) fun k hk => (hown.lt k hk).1
      go_roundw
      case rel =>
        rw [HR.out]
        refine ⟨dn ++ [(pa, pg)], A ++ B, ss ++ [pa.f.data.toList, pa.t.data.toList], ?_, hrg2, ?_, ?_, hbel2, by have := HS1.out; omega⟩
        · refine List.Perm.trans ?_ HP.out
          rw [HA.out, List.map_append, List.append_assoc]
          refine List.Perm.append_left _ ?_
          show (entry (pa, pg) :: (A ++ B)).Perm (A ++ entry (pa, pg) :: B)
          exact List.perm_middle.symm
        · rw [List.map_append, List.length_append]
          have e : [pa.f.data.toList, pa.t.data.toList].map encStr = [.string pa.f, .string pa.t] := by simp [encStr]
          rw [e]; exact hown2
        · rw [HSS.out, portsOf_snoc, List.append_assoc]
      case measure =>
        rw [hrg2.left_eq, hrg.left_eq, HA.out]
        simp
end
end Go.Proofs.Ytfmphhcdbocgnaa.Pipe
