/-
  slices.Clone of bytes; slices.Delete of the first of several.
-/
import Derived.Test.YtfmphhcdbocgnaaPipeLen
import Derived.Deep.RegionLaw
import Derived.Lib.SliceRun
namespace Go.Proofs.Ytfmphhcdbocgnaa.Pipe
open Go.RowKit Base
theorem cClone (w : World) {v : Value} {l : List UInt8} (hr : Reads w v l) (hl : l.length ≤ 65536) :
    Calls Try.prog 26 #[v] w (fun e w' => ∃ v', e = .returned v' ∧ Owns w' w.heap.size v' l ∧ Below w.heap.size w w') := by
  obtain ⟨a, c, hv⟩ := hr.form
  subst hv
  cases a with
  | none =>
    have h0 : l = [] := by
      rcases hr with ⟨h, _⟩ | ⟨b, o, c, he, _⟩
      · exact h
      · cases he
    subst h0
    have hnil : ∀ w, (binOp .eql 29 (.slice none 0 c) (.slice none 0 0)).run Try.prog w = .ok (.bool true) w := fun w => Lib.run_eql_slice_nil w 29 5 none 0 c 0 0 Try.underlying29
    go_enter Try.func26, Try.ntmps26
    go_wp2
    go_ret
    exact ⟨_, rfl, owns_nil _ _, Below.refl _ _⟩
  | some a =>
    have hnil : ∀ w, (binOp .eql 29 (.slice (some a) l.length c) (.slice none 0 0)).run Try.prog w = .ok (.bool false) w := fun w => Lib.run_eql_slice_nil w 29 5 (some a) l.length c 0 0 Try.underlying29
    have hr1 : Hid (Reads (w.alloc (.cells #[] 5)) (.slice (some a) l.length c) l) := hr.on (Below.alloc1 _ _)
    have ho : Hid (Owns (w.alloc (.cells #[] 5)) w.heap.size (.slice (some ⟨w.heap.size, 0, none⟩) 0 0) []) := owns_new w
    go_enter Try.func26, Try.ntmps26
    go_wp2_with (at_builtin; refine wp_append_reads _ rfl _ _ rfl w.heap.size _ _ [] l rfl rfl ho.out hr1.out (by simp; omega) (by simp) ?_; intro v' w' h1 h2; refine Hid.out ?_)
    refine Lib.hid ?_
    go_wp2
    go_ret
    exact ⟨_, rfl, h1, (Below.alloc1 _ _).trans (h2.mono (by simp))⟩

theorem cClone2 (w : World) {v : Value} {l : List UInt8} (hr : Reads w v l) (hl : l.length ≤ 65536) :
    Calls Try.prog 26 #[v] w (fun e w' => ∃ A1 c1, e = .returned (.slice A1 l.length c1) ∧ Owns w' w.heap.size (.slice A1 l.length c1) l ∧ Below w.heap.size w w') :=
  (cClone w hr hl).mono fun e w' ⟨v', h1, h2, h3⟩ => by
    obtain ⟨A, c, rfl⟩ := h2.reads.form
    exact ⟨A, c, h1, h2, h3⟩
theorem setCells_block (b : Nat) (t : TypeId) (fz : Nat × Nat) : ∀ (vs : List Value) (o : Nat) (w : World) (cur : Array Value), w.heap[b]? = some (.cells cur t fz) → o + vs.length ≤ cur.size →
    ∃ cur', (w.setCells b o vs).heap[b]? = some (.cells cur' t fz) ∧ cur'.size = cur.size ∧ ∀ i, cur'[i]? = if o ≤ i ∧ i < o + vs.length then vs[i - o]? else cur[i]?
  | [], o, w, cur, h, _ => ⟨cur, h, rfl, fun i => by rw [if_neg (by simp only [List.length_nil]; omega)]⟩
  | v :: r, o, w, cur, h, hl => by
    simp only [List.length_cons] at hl ⊢
    obtain ⟨cur', h1, h2, h3⟩ := setCells_block b t fz r (o + 1) (w.setCell ⟨b, o, none⟩ v) (cur.setIfInBounds o v) (heap_setCell_any w b o cur t fz v h) (by simp; omega)
    refine ⟨cur', h1, by simpa using h2, fun i => ?_⟩
    rw [h3 i, Array.getElem?_setIfInBounds]
    by_cases c1 : o + 1 ≤ i ∧ i < o + 1 + r.length
    · rw [if_pos c1, if_pos (by omega), show i - o = (i - (o + 1)) + 1 by omega]; rfl
    · rw [if_neg c1]
      by_cases c2 : o = i
      · subst c2
        rw [if_pos rfl, if_pos (by omega), if_pos (by omega)]; simp
      · rw [if_neg c2, if_neg (by omega)]
theorem setCells_keeps (b : Nat) : ∀ (vs : List Value) (o : Nat) (w : World), KeepX b w (w.setCells b o vs)
  | [], _, _ => KeepX.refl _ _
  | v :: r, o, w => (KeepX.set b w o v).trans (setCells_keeps b r (o + 1) _)
theorem setCells_size (b : Nat) : ∀ (vs : List Value) (o : Nat) (w : World), (w.setCells b o vs).heap.size = w.heap.size
  | [], _, _ => rfl
  | _ :: r, o, _ => (setCells_size b r (o + 1) _).trans (by simp [World.setCell])
theorem info29 : (Try.prog.info? 29).map (fun i => (i.zero, i.size, i.bytes)) = some (some (.slice none 0 0), 1, 24) := by kernel_rfl

/-- slices.Delete(s, 0, 1). -/
theorem cDelete (w : World) (b n c : Nat) (v0 : Value) (vs : List Value) (h : w.ownsRow 0 29 1 (.slice (some ⟨b, 0, none⟩) n c) n (v0 :: vs)) (h1 : ∀ v ∈ vs, v.oneCell' = true) :
    Calls Try.prog 27 #[.slice (some ⟨b, 0, none⟩) n c, .int .i64 0, .int .i64 1] w
      (fun e w' => e = .returned (.slice (some ⟨b, 0, none⟩) (n - 1) c) ∧ w'.ownsRow 0 29 1 (.slice (some ⟨b, 0, none⟩) (n - 1) c) (n - 1) vs ∧ KeepX b w w' ∧ w'.heap.size = w.heap.size) := by
  obtain ⟨i0, hi0, hz0, hz1, hz2⟩ := info_parts info29
  obtain ⟨hlen, hx⟩ := h
  simp only [List.length_cons, Nat.mul_one] at hlen
  rcases hx with ⟨hx, _⟩ | ⟨g, cap, cur, hx, _, hb, hnc, hcm, hcs, htk⟩
  · cases hx
  cases hx
  rw [Nat.mul_one] at hcs htk
  have hget : ∀ j, j < vs.length → cur[j + 1]? = vs[j]? := fun j hj => by
    have : (cur.toList.take n)[j + 1]? = (v0 :: vs)[j + 1]? := by rw [htk]
    rw [List.getElem?_take_of_lt (by omega), Array.getElem?_toList] at this
    rw [this]; rfl
  have hcellw : ∀ (w : World) (j : Nat), w.heap[b]? = some (.cells cur 29 (0, 0)) → w.cell? ⟨b, j, none⟩ = cur[j]? := fun w j hb => by unfold World.cell?; rw [hb]; rfl
  obtain ⟨m, rfl⟩ : ∃ m, n = m + 1 := ⟨n - 1, by omega⟩
  have hvl : vs.length = m := by omega
  have hbd : w.drew.heap[b]? = some (.cells cur 29 (0, 0)) := hb
  obtain ⟨A, hA, hnews⟩ : ∃ A : Addr, (if c = 1 then some (⟨b, 0, none⟩ : Addr) else some ⟨b, 1, none⟩) = some A ∧ Hid (∀ j u, vs[j]? = some u → w.drew.cell? (A.add j) = some u) := by
    by_cases hc1 : c = 1
    · refine ⟨⟨b, 0, none⟩, by simp [hc1], fun j u hu => ?_⟩
      have : vs = [] := List.eq_nil_of_length_eq_zero (by omega)
      rw [this] at hu; simp at hu
    · refine ⟨⟨b, 1, none⟩, by simp [hc1], fun j u hu => ?_⟩
      have hj : j < vs.length := (List.getElem?_eq_some_iff.1 hu).1
      rw [Addr.add_lit, show 1 + j = j + 1 by omega, hcellw _ _ hbd, hget j hj, hu]
  have s1 : Hid (vs.length = m * 1) := by rw [Nat.mul_one]; exact hvl
  have s2 : Hid (∀ u ∈ vs, u.oneCell' = true) := h1
  have hsz : ∀ j, j < c → (cur[j]?).isSome = true := fun j hj => by rw [Array.getElem?_eq_getElem (by omega)]; rfl
  have s3 : Hid (∀ j, j < vs.length → (w.drew.cell? ⟨b, 0 + 0 * 1 + j, none⟩).isSome = true ∧ w.drew.frozen? ⟨b, 0 + 0 * 1 + j, none⟩ = false) := by
    intro j hj
    rw [show 0 + 0 * 1 + j = j by omega, hcellw _ _ hbd]
    exact ⟨hsz j (by omega), by simp [World.frozen?, hbd]⟩
  obtain ⟨cur', k1, k2, k3⟩ := setCells_block b 29 (0, 0) vs 0 w.drew cur hbd (by omega)
  have hclear : ∀ ty, (Builtin.clear_ #[33] ty #[.slice (some ⟨b, m, none⟩) 1 (c - m)]).run Try.prog (w.drew.setCells b 0 vs) = .ok (.tuple #[]) ((w.drew.setCells b 0 vs).setCells b m (List.replicate 1 (.slice none 0 0))) := fun ty => by
    refine Lib.run_clear_slice _ 33 29 ty (.slice none 0 0) Try.underlying33 (fun w => by kernel_rfl) rfl rfl b m 1 (c - m) (by omega) (fun j hj => ?_) (fun j hj => by simp [World.frozen?, k1])
    unfold World.cell?
    rw [k1]
    show (cur'[m + j]?).isSome = true
    rw [Array.getElem?_eq_getElem (by omega)]; rfl
  obtain ⟨cur2, l1, l2, l3⟩ := setCells_block b 29 (0, 0) (List.replicate 1 (.slice none 0 0)) m _ cur' k1 (by simp; omega)
  have HF : Hid (((w.drew.setCells b 0 vs).setCells b m (List.replicate 1 (.slice none 0 0))).ownsRow 0 29 1 (.slice (some ⟨b, 0, none⟩) (m + 1 - 1) c) (m + 1 - 1) vs) := by
    refine ⟨by omega, Or.inr ⟨b, c, cur2, rfl, Nat.zero_le _, l1, by omega, hcm, by omega, ?_⟩⟩
    rw [Nat.mul_one]
    refine List.ext_getElem? fun i => ?_
    by_cases hi : i < m
    · rw [List.getElem?_take_of_lt (by omega), Array.getElem?_toList, l3 i, if_neg (by omega), k3 i, if_pos (by omega)]; rfl
    · rw [List.getElem?_take_eq_none (by omega), List.getElem?_eq_none (by omega)]
  have HK : Hid (KeepX b w ((w.drew.setCells b 0 vs).setCells b m (List.replicate 1 (.slice none 0 0)))) := ((KeepX.drewN 1).trans (setCells_keeps b _ _ _)).trans (setCells_keeps b _ _ _)
  have HZ : Hid (((w.drew.setCells b 0 vs).setCells b m (List.replicate 1 (.slice none 0 0))).heap.size = w.heap.size) := (setCells_size b _ _ _).trans (setCells_size b _ _ _)
  clear k1 k2 k3 l1 l2 l3 hget hcellw hsz hb hbd htk hcs
  have HV := Lib.hid hvl
  have HL := Lib.hid hlen
  clear hvl hlen h1
  unfold maxLen at hcm
  have hm0 : (0 : Int) ≤ (m : Int) := by omega
  have hm1 : (m : Int) ≤ (c : Int) := by omega
  have hm2 : (m : Int) + 1 ≤ (c : Int) := by omega
  have hm3 : (1 : Int) ≤ (m : Int) + 1 := by omega
  go_enter Try.func27, Try.ntmps27
  go_wp2_with fail
  go_region_law (refine step_append_room rfl (.tmp 22) (.tmp 25) 33 rfl 29 i0 1 Try.underlying33 hi0 hz1 b 0 0 c (by simp [Act.eval, Act.put]) A m (c - 1) vs (by simp [Act.eval, Act.put]) s1.out hnews.out s2.out (by omega) s3.out ?_)
  go_wp2
  go_ret
  refine ⟨?_, HF.out, HK.out, HZ.out⟩
  first | rfl | simp
end Go.Proofs.Ytfmphhcdbocgnaa.Pipe
