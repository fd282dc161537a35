/-
  THE DOCUMENT'S PIPES: where they lie, what keeps them, which one it is.
-/
import Derived.Test.YtfmphhcdbocgnaaPipeClear
import Derived.Test.YtfmphhcdbocgnaaPipeMath
import Derived.Test.YtfmphhcdbocgnaaRowBase
namespace Go.Proofs.Ytfmphhcdbocgnaa.Pipe
open Go.RowKit Base
structure RG where
  lv : Value
  vs : List Value
def cells4 (p : PA × RG) : List Value := [.string p.1.f, .string p.1.t, .int .i64 (p.1.most : Int), p.2.lv]
structure RefAt (own : Nat → Tag) (w : World) (i : Nat) (p : PA × RG) : Prop where
  row : w.ownsRow 0 29 1 p.2.lv p.1.q.length p.2.vs
  rowOwn : ∀ b, p.2.lv.ownBlock = some b → own b = .r (.lrow i)
  len : p.2.vs.length = p.1.q.length
  msgs : ∀ (j : Nat) (v : Value) (l : List UInt8), p.2.vs[j]? = some v → p.1.q[j]? = some l → Owns w 0 v l ∧ ∀ b, v.ownBlock = some b → own b = .r .msg
structure RHolds (own : Nat → Tag) (w : World) (g : Nat) (rv : Value) (Rs : List (PA × RG)) : Prop where
  root : w.heap[g]? = some (.cells #[rv] 47 (0, 0))
  rootOwn : own g = .r .root
  row : w.ownsRow 0 62 4 rv Rs.length (Rs.flatMap cells4)
  rowOwn : ∀ b, rv.ownBlock = some b → own b = .r .row
  pipes : ∀ (i : Nat) (p : PA × RG), Rs[i]? = some p → RefAt own w i p
  fresh : ∀ b, w.heap.size ≤ b → own b = .no
structure StepR (own : Nat → Tag) (w : World) (own' : Nat → Tag) (w' : World) : Prop where
  os : w'.os = w.os
  tape : w'.tape = w.tape
  output : w'.output = w.output
  size : w.heap.size ≤ w'.heap.size
  block : ∀ b, b < w.heap.size → (∀ t, own b ≠ .r t) → w'.heap[b]? = w.heap[b]?
  tags : ∀ b, b < w.heap.size → (∀ t, own b ≠ .r t) → own' b = own b
theorem StepR.refl (own : Nat → Tag) (w : World) : StepR own w own w := ⟨rfl, rfl, rfl, Nat.le_refl _, fun _ _ _ => rfl, fun _ _ _ => rfl⟩
theorem StepR.trans {o1 o2 o3 : Nat → Tag} {w1 w2 w3 : World} (h : StepR o1 w1 o2 w2) (k : StepR o2 w2 o3 w3) : StepR o1 w1 o3 w3 :=
  ⟨k.os.trans h.os, k.tape.trans h.tape, k.output.trans h.output, Nat.le_trans h.size k.size,
   fun b hb hn => (k.block b (Nat.lt_of_lt_of_le hb h.size) (by rw [h.tags b hb hn]; exact hn)).trans (h.block b hb hn),
   fun b hb hn => (k.tags b (Nat.lt_of_lt_of_le hb h.size) (by rw [h.tags b hb hn]; exact hn)).trans (h.tags b hb hn)⟩
theorem StepR.of_below {own : Nat → Tag} {w w' : World} (h : Below w.heap.size w w') : StepR own w own w' := ⟨h.os, h.tape, h.output, h.size, fun b hb _ => h.block b hb, fun _ _ _ => rfl⟩
theorem flat4 : ∀ (Rs : List (PA × RG)) (i k : Nat) (p : PA × RG), Rs[i]? = some p → k < 4 → (Rs.flatMap cells4)[i * 4 + k]? = (cells4 p)[k]?
  | [], i, k, p, h, _ => by simp at h
  | x :: r, 0, k, p, h, hk => by
    simp at h; subst h
    rw [List.flatMap_cons, List.getElem?_append_left (by simp [cells4]; omega)]; simp
  | x :: r, i + 1, k, p, h, hk => by
    rw [List.flatMap_cons, List.getElem?_append_right (by simp [cells4]; omega)]
    have := flat4 r i k p h hk
    rw [show (i + 1) * 4 + k - (cells4 x).length = i * 4 + k by simp [cells4]; omega]
    exact this
theorem flat4_len (Rs : List (PA × RG)) : (Rs.flatMap cells4).length = Rs.length * 4 := by
  induction Rs with
  | nil => rfl
  | cons x r ih => rw [List.flatMap_cons, List.length_append, ih, List.length_cons]; simp [cells4]; omega
section
variable {own own' : Nat → Tag} {w w' : World} {g : Nat} {rv : Value} {Rs : List (PA × RG)}
theorem own_ltR (hf : ∀ b, w.heap.size ≤ b → own b = .no) {b : Nat} {t : RT} (h : own b = .r t) : b < w.heap.size := by
  rcases Nat.lt_or_ge b w.heap.size with h' | h'
  · exact h'
  · rw [hf b h'] at h; cases h
theorem RefAt.kept {i : Nat} {p : PA × RG} (h : RefAt own w i p) (hk : ∀ b t, own b = .r t → t = .lrow i ∨ t = .msg → own' b = .r t ∧ w'.heap[b]? = w.heap[b]?) : RefAt own' w' i p :=
  ⟨row_kept h.row fun b hb => (hk _ _ (h.rowOwn b hb) (Or.inl rfl)).2, fun b hb => (hk _ _ (h.rowOwn b hb) (Or.inl rfl)).1, h.len,
   fun j v l h1 h2 => ⟨Owns.keptO (h.msgs j v l h1 h2).1 fun b hb => (hk _ _ ((h.msgs j v l h1 h2).2 b hb) (Or.inr rfl)).2, fun b hb => (hk _ _ ((h.msgs j v l h1 h2).2 b hb) (Or.inr rfl)).1⟩⟩
theorem RHolds.kept (h : RHolds own w g rv Rs) (hk : ∀ b t, own b = .r t → own' b = .r t ∧ w'.heap[b]? = w.heap[b]?) (hf : ∀ b, w'.heap.size ≤ b → own' b = .no) : RHolds own' w' g rv Rs :=
  ⟨by rw [(hk _ _ h.rootOwn).2]; exact h.root, (hk _ _ h.rootOwn).1, row_kept h.row fun b hb => (hk _ _ (h.rowOwn b hb)).2, fun b hb => (hk _ _ (h.rowOwn b hb)).1,
   fun i p hp => (h.pipes i p hp).kept fun b t ht _ => hk b t ht, hf⟩
theorem RHolds.on (h : RHolds own w g rv Rs) (hb : Below w.heap.size w w') : RHolds own w' g rv Rs :=
  h.kept (fun b _ ht => ⟨ht, hb.block b (own_ltR h.fresh ht)⟩) fun b hle => h.fresh b (Nat.le_trans hb.size hle)
/-- The program's step leaves the document's pipes, and the other way. -/
theorem RHolds.stepP (h : RHolds own w g rv Rs) (hs : Step own w own' w') (hf : ∀ b, w'.heap.size ≤ b → own' b = .no) : RHolds own' w' g rv Rs :=
  h.kept (fun b t ht => ⟨by rw [hs.tags b (own_ltR h.fresh ht) (fun t e => by rw [ht] at e; cases e)]; exact ht, hs.block b (own_ltR h.fresh ht) (fun t e => by rw [ht] at e; cases e)⟩) hf
theorem Holds.stepR {mb : Nat} {Ps : List (PA × PG)} (h : Holds own w g mb Ps) (hs : StepR own w own' w') (hf : ∀ b, w'.heap.size ≤ b → own' b = .no) : Holds own' w' g mb Ps :=
  h.kept (fun b t ht => ⟨by rw [hs.tags b (own_lt h.fresh ht) (fun t e => by rw [ht] at e; cases e)]; exact ht, hs.block b (own_lt h.fresh ht) (fun t e => by rw [ht] at e; cases e)⟩) hf
theorem RHolds.cell (h : RHolds own w g rv Rs) : w.cell? ⟨g, 0, none⟩ = some rv ∧ w.frozen? ⟨g, 0, none⟩ = false := ⟨cell_of_row w g 0 _ _ _ h.root, by simp [World.frozen?, h.root]⟩
theorem RHolds.at (h : RHolds own w g rv Rs) {i : Nat} {p : PA × RG} (hp : Rs[i]? = some p) : ∃ rb c, rv = .slice (some ⟨rb, 0, none⟩) Rs.length c ∧ i < Rs.length ∧ Rs.length ≤ c ∧
    w.cell? ⟨rb, i * 4, none⟩ = some (.string p.1.f) ∧ w.cell? ⟨rb, i * 4 + 1, none⟩ = some (.string p.1.t) ∧ w.cell? ⟨rb, i * 4 + 2, none⟩ = some (.int .i64 (p.1.most : Int)) ∧ w.cell? ⟨rb, i * 4 + 3, none⟩ = some p.2.lv ∧
    (∀ j, w.frozen? ⟨rb, j, none⟩ = false) ∧ own rb = .r .row ∧ rb < w.heap.size := by
  have hil := (List.getElem?_eq_some_iff.1 hp).1
  have hrow := h.row
  rcases hrow.2 with ⟨_, hn⟩ | ⟨rb, c, cur, hx, _, hb, hc, _⟩
  · omega
  · subst hx
    have ce : ∀ k, k < 4 → w.cell? ⟨rb, i * 4 + k, none⟩ = (cells4 p)[k]? := fun k hk => by
      rw [World.ownsRow.cellAt hrow (i * 4 + k) (by omega), flat4 Rs i k p hp hk]
    exact ⟨rb, c, rfl, hil, hc, ce 0 (by omega), ce 1 (by omega), ce 2 (by omega), ce 3 (by omega), fun j => World.ownsRow.frozenAt hrow j, h.rowOwn rb rfl, heap_lt hb⟩
theorem RHolds.form (h : RHolds own w g rv Rs) : ∃ a c, rv = .slice a Rs.length c ∧ Rs.length ≤ c := row_form h.row

theorem cPlace (h : RHolds own w g rv Rs) {i : Nat} {p : PA × RG} (hp : Rs[i]? = some p) (hfst : ∀ j q, j < i → Rs[j]? = some q → ¬ (q.1.f = p.1.f ∧ q.1.t = p.1.t)) (hn : Rs.length ≤ 1000000) :
    Calls Try.prog 30 #[.pointer (some ⟨g, 0, none⟩), .string p.1.f, .string p.1.t] w (fun e w' => e = .returned (.int .i64 (i : Int)) ∧ w = w') := by
  obtain ⟨hc, _⟩ := h.cell
  obtain ⟨rb, c, hrv, hil, _, _, _, _, _, _⟩ := h.at hp
  have H := Lib.hid h
  have HF := Lib.hid hfst
  have HP := Lib.hid hp
  subst hrv
  clear h hfst hp
  go_enter Try.func30, Try.ntmps30
  go_wp2
  go_loop [7] (fun v => ∃ k : Nat, k ≤ i ∧ v = .int .i64 k) (fun v => i - (intOf v).toNat)
  case atStart => exact ⟨0, Nat.zero_le _, rfl⟩
  case round =>
    obtain ⟨k, hk, rfl⟩ := hrel
    by_cases hlt : k < i
    · obtain ⟨q, hq⟩ : ∃ q, Rs[k]? = some q := ⟨Rs[k], List.getElem?_eq_getElem (by omega)⟩
      have hne := HF.out k q hlt hq
      obtain ⟨rb2, c2, he, hkl, _, d0, d1, _⟩ := H.out.at hq
      cases he
      clear hq
      by_cases h1 : q.1.f = p.1.f
      · have h2 : ¬ q.1.t = p.1.t := fun h2 => hne ⟨h1, h2⟩
        have e1 := str_eq_b h1
        have e2 := str_ne_b h2
        clear h1 h2 hne
        go_wp2
        go_round
        case rel => exact ⟨k + 1, by omega, by go_num⟩
        case measure => simp [intOf]; omega
      · have e1 := str_ne_b h1
        clear h1 hne
        go_wp2
        go_round
        case rel => exact ⟨k + 1, by omega, by go_num⟩
        case measure => simp [intOf]; omega
    · obtain rfl : k = i := by omega
      obtain ⟨rb2, c2, he, hkl, _, d0, d1, _⟩ := H.out.at HP.out
      cases he
      have e1 := str_eq_b (rfl : p.1.f = p.1.f)
      have e2 := str_eq_b (rfl : p.1.t = p.1.t)
      go_wp2
      go_ret
      exact ⟨rfl, rfl⟩
theorem cPlaceNo (h : RHolds own w g rv Rs) (f t : ByteArray) (hno : ∀ q ∈ Rs, ¬ (q.1.f = f ∧ q.1.t = t)) (hn : Rs.length ≤ 1000000) :
    Calls Try.prog 30 #[.pointer (some ⟨g, 0, none⟩), .string f, .string t] w (fun e w' => e = .returned (.int .i64 (-1)) ∧ w = w') := by
  obtain ⟨hc, _⟩ := h.cell
  obtain ⟨ra, c, hrv, _⟩ := h.form
  have H := Lib.hid h
  have HF := Lib.hid hno
  subst hrv
  clear h hno
  go_enter Try.func30, Try.ntmps30
  go_wp2
  go_loop [7] (fun v => ∃ k : Nat, k ≤ Rs.length ∧ v = .int .i64 k) (fun v => Rs.length - (intOf v).toNat)
  case atStart => exact ⟨0, Nat.zero_le _, rfl⟩
  case round =>
    obtain ⟨k, hk, rfl⟩ := hrel
    by_cases hlt : k < Rs.length
    · obtain ⟨q, hq⟩ : ∃ q, Rs[k]? = some q := ⟨Rs[k], List.getElem?_eq_getElem hlt⟩
      have hne := HF.out q (List.mem_of_getElem? hq)
      obtain ⟨rb2, c2, he, hkl, _, d0, d1, _⟩ := H.out.at hq
      cases he
      clear hq
      by_cases h1 : q.1.f = f
      · have h2 : ¬ q.1.t = t := fun h2 => hne ⟨h1, h2⟩
        have e1 := str_eq_b h1
        have e2 := str_ne_b h2
        clear h1 h2 hne
        go_wp2
        go_round
        case rel => exact ⟨k + 1, by omega, by go_num⟩
        case measure => simp [intOf]; omega
      · have e1 := str_ne_b h1
        clear h1 hne
        go_wp2
        go_round
        case rel => exact ⟨k + 1, by omega, by go_num⟩
        case measure => simp [intOf]; omega
    · go_wp2
      go_ret
      exact ⟨rfl, rfl⟩
def KeysApart (L : List PA) : Prop := L.Pairwise fun p q => ¬ (p.f = q.f ∧ p.t = q.t)
theorem apart_first (hk : KeysApart (Rs.map Prod.fst)) {i : Nat} {p : PA × RG} (hp : Rs[i]? = some p) : ∀ j q, j < i → Rs[j]? = some q → ¬ (q.1.f = p.1.f ∧ q.1.t = p.1.t) := fun j q hj hq => by
  unfold KeysApart at hk
  rw [List.pairwise_map] at hk
  have hil := (List.getElem?_eq_some_iff.1 hp).1
  have := List.pairwise_iff_getElem.1 hk j i (by omega) hil hj
  rw [(List.getElem?_eq_some_iff.1 hp).2, (List.getElem?_eq_some_iff.1 hq).2] at this
  exact this
/-- Len, Room. -/
theorem rLen (h : RHolds own w g rv Rs) (hk : KeysApart (Rs.map Prod.fst)) {i : Nat} {p : PA × RG} (hp : Rs[i]? = some p) (hn : Rs.length ≤ 1000000) :
    Calls Try.prog 22 #[.pointer (some ⟨g, 0, none⟩), .string p.1.f, .string p.1.t] w (fun e w' => e = .returned (.int .i64 (p.1.q.length : Int)) ∧ w = w') := by
  have HPL := Lib.hid (cPlace h hp (apart_first hk hp) hn)
  obtain ⟨hc, _⟩ := h.cell
  obtain ⟨rb, c, hrv, hil, hlc, d0, d1, d2, d3, _⟩ := h.at hp
  obtain ⟨la, lc, hlv, _⟩ := row_form (h.pipes i p hp).row
  subst hrv
  rw [hlv] at d3
  clear h hk hp hlv
  go_enter Try.func22, Try.ntmps22
  go_wp2_with (go_at_call 30; refine HPL.out.mono ?_; rintro e w1 ⟨rfl, rfl⟩)
  go_ret
  exact ⟨rfl, rfl⟩
theorem rLenNo (h : RHolds own w g rv Rs) (f t : ByteArray) (hno : ∀ q ∈ Rs, ¬ (q.1.f = f ∧ q.1.t = t)) (hn : Rs.length ≤ 1000000) :
    Calls Try.prog 22 #[.pointer (some ⟨g, 0, none⟩), .string f, .string t] w (fun e w' => e = .returned (.int .i64 0) ∧ w = w') := by
  have HPL := Lib.hid (cPlaceNo h f t hno hn)
  clear h hno
  go_enter Try.func22, Try.ntmps22
  go_wp2_with (go_at_call 30; refine HPL.out.mono ?_; rintro e w1 ⟨rfl, rfl⟩)
  go_ret
  exact ⟨rfl, rfl⟩
theorem rRoom (h : RHolds own w g rv Rs) (hk : KeysApart (Rs.map Prod.fst)) {i : Nat} {p : PA × RG} (hp : Rs[i]? = some p) (hn : Rs.length ≤ 1000000) (hm : p.1.most ≤ 64) (hf : p.1.q.length ≤ p.1.most) :
    Calls Try.prog 23 #[.pointer (some ⟨g, 0, none⟩), .string p.1.f, .string p.1.t] w (fun e w' => e = .returned (.int .i64 ((p.1.most : Int) - (p.1.q.length : Int))) ∧ Below w.heap.size w w') := by
  have HPL := Lib.hid (cPlace h hp (apart_first hk hp) hn)
  obtain ⟨hc, _⟩ := h.cell
  obtain ⟨rb, c, hrv, hil, hlc, d0, d1, d2, d3, _⟩ := h.at hp
  obtain ⟨la, lc, hlv, _⟩ := row_form (h.pipes i p hp).row
  subst hrv
  rw [hlv] at d3
  clear h hk hp hlv
  have i0 : (0 : Int) ≤ (i : Int) := by omega
  have i1 : (i : Int) < (Rs.length : Int) := by omega
  go_enter Try.func23, Try.ntmps23
  go_wp2_with (go_at_call 30; refine HPL.out.mono ?_; rintro e w1 ⟨rfl, rfl⟩)
  go_quiet (fail)
  go_wp2
  go_ret
  exact ⟨ret_int (by first | rfl | (simp; done)), below_drewN _ _ _⟩
theorem rRoomNo (h : RHolds own w g rv Rs) (f t : ByteArray) (hno : ∀ q ∈ Rs, ¬ (q.1.f = f ∧ q.1.t = t)) (hn : Rs.length ≤ 1000000) :
    Calls Try.prog 23 #[.pointer (some ⟨g, 0, none⟩), .string f, .string t] w (fun e w' => e = .returned (.int .i64 0) ∧ w = w') := by
  have HPL := Lib.hid (cPlaceNo h f t hno hn)
  clear h hno
  go_enter Try.func23, Try.ntmps23
  go_wp2_with (go_at_call 30; refine HPL.out.mono ?_; rintro e w1 ⟨rfl, rfl⟩)
  go_ret
  exact ⟨rfl, rfl⟩
end
end Go.Proofs.Ytfmphhcdbocgnaa.Pipe
