/-
  A pipe is made, or refused: none of those ports is there.
-/
import Derived.Test.YtfmphhcdbocgnaaPipeOpen
import Derived.Deep.RegionHeld3
import Derived.Outline
namespace Go.Proofs.Ytfmphhcdbocgnaa.Pipe
open Go.RowKit Base
section
variable {own : Nat → Tag} {w : World} {g mb : Nat} {Ps : List (PA × PG)}
/-- What the question reads. -/
structure OpS (g mb B : Nat) (f t : ByteArray) (w : World) : Prop where
  a : w.cell? ⟨g, 0, none⟩ = some (.map (some mb))
  b : w.cell? ⟨B, 0, none⟩ = some (.string f)
  c : w.cell? ⟨B, 1, none⟩ = some (.string t)
  d : (Instr.lookup 42 (.map (some mb)) (.agg #[.string f, .string t]) false).run Try.prog w = .ok (.pointer none) w
theorem OpS.mk' (h : Holds own w g mb Ps) (f t : ByteArray) (hf : f.size ≤ maxLen) (ht : t.size ≤ maxLen) (hn : ∀ p ∈ Ps, ¬ (p.1.f = f ∧ p.1.t = t)) {w' : World} (hb : Below (w.heap.size + 1) (w.alloc (.cells #[.string f, .string t] 52)) w') : OpS g mb w.heap.size f t w' := by
  have hb' : Below w.heap.size w w' := (Below.alloc1 w _).trans (hb.mono (by omega))
  have hbox : w'.heap[w.heap.size]? = some (.cells #[.string f, .string t] 52 (0, 0)) := (hb.block _ (by omega)).trans (MapKept.heap_alloc w _).1
  exact ⟨(h.on hb').cell, cell_of_row w' _ 0 _ _ _ hbox, cell_of_row w' _ 1 _ _ _ hbox, (h.on hb').none hf ht hn⟩
set_option maxRecDepth 100000 in
theorem cOpenFull (h : Holds own w g mb Ps) (f t : ByteArray) (most : Int) (hf : f.size ≤ maxLen) (ht : t.size ≤ maxLen) (hb : portB f.data.toList = true) (hb2 : portB t.data.toList = true) (hne : ¬ f = t)
    (hn : ∀ p ∈ Ps, ¬ (p.1.f = f ∧ p.1.t = t)) (hlen : Ps.length ≤ 1000000) (hm : 32 < (onceL ([f.data.toList, t.data.toList] ++ portsOf Ps)).length) :
    Calls Try.prog 10 #[.pointer (some ⟨g, 0, none⟩), .string f, .string t, .int .i64 most] w (AnsEnd 50 w) := by
  have hne2 := str_ne_b hne
  have HS := Lib.hid (fun w' => @OpS.mk' own w g mb Ps h f t hf ht hn w')
  have HP := fun n => cPorts (h.on (below_box w (.cells #[.string f, .string t] 52) n)) f t hlen
  obtain ⟨N, hN⟩ : ∃ N, N = (onceL ([f.data.toList, t.data.toList] ++ portsOf Ps)).length := ⟨_, rfl⟩
  rw [← hN] at hm HP
  clear hN
  have HP := Lib.hid HP
  have S1 := HS.out ((w.alloc (.cells #[.string f, .string t] 52)).drew) (below_drewN _ _ 1)
  obtain ⟨s1, s2, s3, s4⟩ := S1
  clear hn h
  have hm' : (32 : Int) < (N : Int) := by omega
  go_enter Try.func10, Try.ntmps10
  go_wp2_with fail
  go_region_held3 (fun w' => w'.cell? ⟨g, 0, none⟩ = some (.map (some mb)) ∧ w'.cell? ⟨w.heap.size, 0, none⟩ = some (.string f) ∧ w'.cell? ⟨w.heap.size, 1, none⟩ = some (.string t) ∧ (Instr.lookup 42 (.map (some mb)) (.agg #[.string f, .string t]) false).run Try.prog w' = .ok (.pointer none) w')
    (first
      | exact ⟨s1, s2, s3, s4⟩
      | exact ⟨k1, k2, k3, k4⟩
      | fail)
    (first
      | (go_at_call 24; refine (cIsPort _ _ (by assumption)).mono ?_; rintro e w' ⟨rfl, rfl⟩)
      | (go_at_call 25; refine (HP.out 1).mono ?_; rintro e w2 ⟨rfl, bb⟩; obtain ⟨k1, k2, k3, k4⟩ := HS.out w2 ((below_drewN _ _ 1).trans (bb.mono (by simp))))
      | fail)
  have bb2 : Below w.heap.size w w2 := (below_box w _ 1).trans (bb.mono (by simp))
  clear k1 k2 k3 k4 s1 s2 s3 s4
  go_wp2
  go_ret
  exact ⟨rfl, bb2⟩
set_option maxRecDepth 100000 in
theorem cOpenArg (h : Holds own w g mb Ps) (f t : ByteArray) (most : Int) (hf : f.size ≤ maxLen) (ht : t.size ≤ maxLen) (hb : portB f.data.toList = true) (hb2 : portB t.data.toList = true) (hne : ¬ f = t)
    (hn : ∀ p ∈ Ps, ¬ (p.1.f = f ∧ p.1.t = t)) (hlen : Ps.length ≤ 1000000) (hm : ¬ 32 < (onceL ([f.data.toList, t.data.toList] ++ portsOf Ps)).length) (hmost : most < 1 ∨ 64 < most) :
    Calls Try.prog 10 #[.pointer (some ⟨g, 0, none⟩), .string f, .string t, .int .i64 most] w (AnsEnd 1 w) := by
  have hne2 := str_ne_b hne
  have HS := Lib.hid (fun w' => @OpS.mk' own w g mb Ps h f t hf ht hn w')
  have HP := fun n => cPorts (h.on (below_box w (.cells #[.string f, .string t] 52) n)) f t hlen
  obtain ⟨N, hN⟩ : ∃ N, N = (onceL ([f.data.toList, t.data.toList] ++ portsOf Ps)).length := ⟨_, rfl⟩
  rw [← hN] at hm HP
  clear hN
  have HP := Lib.hid HP
  have S1 := HS.out ((w.alloc (.cells #[.string f, .string t] 52)).drew) (below_drewN _ _ 1)
  obtain ⟨s1, s2, s3, s4⟩ := S1
  clear hn h
  have hm' : ¬ (32 : Int) < (N : Int) := by omega
  go_enter Try.func10, Try.ntmps10
  go_wp2_with fail
  go_region_held3 (fun w' => w'.cell? ⟨g, 0, none⟩ = some (.map (some mb)) ∧ w'.cell? ⟨w.heap.size, 0, none⟩ = some (.string f) ∧ w'.cell? ⟨w.heap.size, 1, none⟩ = some (.string t) ∧ (Instr.lookup 42 (.map (some mb)) (.agg #[.string f, .string t]) false).run Try.prog w' = .ok (.pointer none) w')
    (first
      | exact ⟨s1, s2, s3, s4⟩
      | exact ⟨k1, k2, k3, k4⟩
      | fail)
    (first
      | (go_at_call 24; refine (cIsPort _ _ (by assumption)).mono ?_; rintro e w' ⟨rfl, rfl⟩)
      | (go_at_call 25; refine (HP.out 1).mono ?_; rintro e w2 ⟨rfl, bb⟩; obtain ⟨k1, k2, k3, k4⟩ := HS.out w2 ((below_drewN _ _ 1).trans (bb.mono (by simp))))
      | fail)
  have bb2 : Below w.heap.size w w2 := (below_box w _ 1).trans (bb.mono (by simp))
  clear k1 k2 k3 k4 s1 s2 s3 s4
  rcases hmost with h1 | h1
  · go_wp2
    go_ret
    exact ⟨rfl, bb2⟩
  · have h2 : ¬ most < 1 := by omega
    go_wp2
    go_ret
    exact ⟨rfl, bb2⟩
theorem portB_size {f : ByteArray} (h : portB f.data.toList = true) : f.size ≤ 32 := by
  unfold portB at h
  simp only [Bool.and_eq_true, decide_eq_true_eq] at h
  rw [str_len] at h
  exact h.1.2
theorem open_done (h : Holds own w g mb Ps) (f t : ByteArray) (most : Nat) (hf : f.size ≤ 32) (ht : t.size ≤ 32) (h1 : 1 ≤ most) (h2 : most ≤ 64) {w2 w3 : World} (bb : Below w.heap.size w w2) (hsz : w.heap.size < w2.heap.size)
    (hmap : MapIs Try.prog 52 w3 mb (Ps.map entry ++ [(.agg #[.string f, .string t], .pointer (some ⟨w2.heap.size, 0, none⟩))])) (hgr : ((w2.alloc (.cells #[.int .i64 (most : Int), .slice none 0 0] 57)).drew).grownBy w3 (some mb)) :
    ∃ own' G', Holds own' w3 g mb (Ps ++ [(⟨f, t, most, []⟩, G')]) ∧ Step own w own' w3 := by
  have hmb := own_lt h.fresh h.mapOwn
  have hs3 : w2.heap.size + 1 ≤ w3.heap.size := by have := hgr.size; simpa using this
  have blk : ∀ b, b < w2.heap.size → b ≠ mb → w3.heap[b]? = w2.heap[b]? := fun b hb hne => by
    rw [hgr.block b (by simp; omega) (fun e => hne (by cases e; rfl))]
    exact (MapKept.heap_alloc w2 _).2 b hb
  have hnew : w3.heap[w2.heap.size]? = some (.cells #[.int .i64 (most : Int), .slice none 0 0] 57 (0, 0)) := by
    rw [hgr.block _ (by simp) (fun e => by cases e; omega)]
    exact (MapKept.heap_alloc w2 _).1
  have hk : ∀ b t, own b = .p t → t ≠ .map → (if b < w.heap.size then own b else if b = w2.heap.size then Tag.p (.pipe Ps.length) else .no) = .p t ∧ w3.heap[b]? = w.heap[b]? := fun b t ht hne => by
    have hb := own_lt h.fresh ht
    refine ⟨by rw [if_pos hb]; exact ht, ?_⟩
    rw [blk b (by omega) (fun e => hne (by rw [e, h.mapOwn] at ht; cases ht; rfl)), bb.block b hb]
  refine ⟨fun b => if b < w.heap.size then own b else if b = w2.heap.size then .p (.pipe Ps.length) else .no, ⟨w2.heap.size, .slice none 0 0, [], 0⟩, ⟨?_, ?_, ?_, ?_, fun i p hp => ?_, fun b hb => ?_⟩, ?_⟩
  · rw [(hk _ _ h.rootOwn (by simp)).2]; exact h.root
  · exact (hk _ _ h.rootOwn (by simp)).1
  · rw [List.map_append]; exact hmap
  · show (if mb < w.heap.size then own mb else _) = _
    rw [if_pos hmb]; exact h.mapOwn
  · by_cases hi : i < Ps.length
    · rw [List.getElem?_append_left hi] at hp
      exact (h.pipes i p hp).kept fun b t ht hof => hk b t ht (fun e => by rw [e] at hof; cases hof)
    · have hi2 : i = Ps.length := by
        have := (List.getElem?_eq_some_iff.1 hp).1
        simp at this; omega
      subst hi2
      rw [List.getElem?_append_right (Nat.le_refl _), Nat.sub_self] at hp
      cases hp
      refine ⟨hnew, ?_, ⟨rfl, Or.inl ⟨rfl, rfl⟩⟩, (fun b hb => by cases hb), rfl, (fun j v l hj => by simp at hj), h1, h2, Nat.zero_le _, (fun l hl => by cases hl), hf, ht⟩
      show (if w2.heap.size < w.heap.size then _ else _) = _
      rw [if_neg (by omega), if_pos rfl]
  · rw [if_neg (by omega), if_neg (by omega)]
  · refine ⟨hgr.os.trans bb.os, hgr.tape.trans bb.tape, hgr.output.trans bb.output, by omega, fun b hb hn => ?_, fun b hb _ => if_pos hb⟩
    rw [blk b (by omega) (fun e => hn .map (by rw [e]; exact h.mapOwn)), bb.block b hb]
def OpenedEnd (own : Nat → Tag) (w : World) (g mb : Nat) (Ps : List (PA × PG)) (f t : ByteArray) (most : Nat) (e : Ending) (w' : World) : Prop :=
  e = .returned (.int .i64 0) ∧ ∃ own' G', Holds own' w' g mb (Ps ++ [(⟨f, t, most, []⟩, G')]) ∧ Step own w own' w'
set_option maxRecDepth 100000 in
theorem cOpenOk (h : Holds own w g mb Ps) (f t : ByteArray) (most : Nat) (hf : f.size ≤ maxLen) (ht : t.size ≤ maxLen) (hb : portB f.data.toList = true) (hb2 : portB t.data.toList = true) (hne : ¬ f = t)
    (hn : ∀ p ∈ Ps, ¬ (p.1.f = f ∧ p.1.t = t)) (hlen : Ps.length ≤ 1000000) (hm : ¬ 32 < (onceL ([f.data.toList, t.data.toList] ++ portsOf Ps)).length) (m1 : 1 ≤ most) (m2 : most ≤ 64) :
    Calls Try.prog 10 #[.pointer (some ⟨g, 0, none⟩), .string f, .string t, .int .i64 most] w (OpenedEnd own w g mb Ps f t most) := by
  have hne2 := str_ne_b hne
  have HS := Lib.hid (fun w' => @OpS.mk' own w g mb Ps h f t hf ht hn w')
  have HP := fun n => cPorts (h.on (below_box w (.cells #[.string f, .string t] 52) n)) f t hlen
  obtain ⟨N, hN⟩ : ∃ N, N = (onceL ([f.data.toList, t.data.toList] ++ portsOf Ps)).length := ⟨_, rfl⟩
  rw [← hN] at hm HP
  clear hN
  have HP := Lib.hid HP
  have S1 := HS.out ((w.alloc (.cells #[.string f, .string t] 52)).drew) (below_drewN _ _ 1)
  obtain ⟨s1, s2, s3, s4⟩ := S1
  have HD := Lib.hid (fun w2 w3 => @open_done own w g mb Ps h f t most (portB_size hb) (portB_size hb2) m1 m2 w2 w3)
  have hmap := Lib.hid h.map
  have hkey : ∀ p ∈ Ps.map entry, p.1 ≠ .agg #[.string f, .string t] := fun x hx e => by
    obtain ⟨p, hp, rfl⟩ := List.mem_map.1 hx
    simp [entry] at e
    exact hn p hp e
  have HK := Lib.hid hkey
  have HG := Lib.hid (own_lt h.fresh h.rootOwn)
  have HMB := Lib.hid (own_lt h.fresh h.mapOwn)
  clear hn h hkey
  have hm' : ¬ (32 : Int) < (N : Int) := by omega
  go_enter Try.func10, Try.ntmps10
  go_wp2_with fail
  go_region_held3 (fun w' => w'.cell? ⟨g, 0, none⟩ = some (.map (some mb)) ∧ w'.cell? ⟨w.heap.size, 0, none⟩ = some (.string f) ∧ w'.cell? ⟨w.heap.size, 1, none⟩ = some (.string t) ∧ (Instr.lookup 42 (.map (some mb)) (.agg #[.string f, .string t]) false).run Try.prog w' = .ok (.pointer none) w')
    (first
      | exact ⟨s1, s2, s3, s4⟩
      | exact ⟨k1, k2, k3, k4⟩
      | fail)
    (first
      | (go_at_call 24; refine (cIsPort _ _ (by assumption)).mono ?_; rintro e w' ⟨rfl, rfl⟩)
      | (go_at_call 25; refine (HP.out 1).mono ?_; rintro e w2 ⟨rfl, bb⟩; obtain ⟨k1, k2, k3, k4⟩ := HS.out w2 ((below_drewN _ _ 1).trans (bb.mono (by simp))))
      | fail)
  have bb2 : Below w.heap.size w w2 := (below_box w _ 1).trans (bb.mono (by simp))
  have hz2 : w.heap.size < w2.heap.size := by have := bb.size; simp at this; omega
  have hmap2 : MapIs Try.prog 52 ((w2.alloc (.cells #[.int .i64 (most : Int), .slice none 0 0] 57)).drew) mb (Ps.map entry) :=
    hmap.out.kept (((MapKept.heap_alloc w2 _).2 mb (Nat.lt_of_lt_of_le HMB.out bb2.size)).trans (bb2.block mb HMB.out))
  obtain ⟨w3, hrun, hm3, hg3, hs3⟩ := hmap2.storeNew klaw Try.underlying42 (v := .pointer (some ⟨w2.heap.size, 0, none⟩)) (by rw [List.length_map]; unfold maxLen; omega) (key_some f t hf ht) HK.out
  have HFIN := Lib.hid (HD.out w2 w3 bb2 hz2 hm3 hg3)
  have hg2 : g < w2.heap.size := Nat.lt_of_lt_of_le HG.out bb2.size
  clear hs3 hm3 hg3 hmap2 s1 s2 s3 s4 k4 bb bb2
  have h3 : ¬ (most : Int) < 1 := by omega
  have h4 : ¬ (64 : Int) < (most : Int) := by omega
  go_wp2_with fail
  go_region
  all_goals go_wp2
  all_goals go_ret
  all_goals exact ⟨rfl, HFIN.out⟩
end
end Go.Proofs.Ytfmphhcdbocgnaa.Pipe
