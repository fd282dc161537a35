/-
  Both sides show the same: the walk.
-/
import Derived.Test.YtfmphhcdbocgnaaPipeLooks
import Derived.BigQuiet
namespace Go.Proofs.Ytfmphhcdbocgnaa.Pipe
open Go.RowKit Base
open Go.Proofs (encStr)
attribute [local go_sem ↓] Go.wp_at_zero Go.wp_at_succ
section
variable {w0 w w' : World} {own own' : Nat → Tag} {g mb gr : Nat} {L : List PA} {Ps : List (PA × PG)} {rv : Value} {Rs : List (PA × RG)} {f t : ByteArray}
def LookEnd (w0 : World) (own : Nat → Tag) (g mb gr : Nat) (L : List PA) (Ps : List (PA × PG)) (rv : Value) (Rs : List (PA × RG)) (e : Ending) (w' : World) : Prop :=
  e = .returned (.bool true) ∧ Duo w0 w' own g mb gr L L Ps rv Rs
theorem LookR.drew {n k : Nat} {xs : List Value} {B : Nat} {A1 A2 : Option Addr} {w3 wr : World} (h : LookR n xs B A1 A2 w3 k wr) (hn : n ≠ 0) : LookR n xs B A1 A2 w3 k wr.drew := by
  rcases h with ⟨h0, _⟩ | ⟨b, b2, e1, e2, hne, hB, ⟨⟨⟨k1, k2, k3, k4, k5⟩, z, cur, h1, h2⟩, h3⟩, h4⟩
  · exact absurd h0 hn
  · exact Or.inr ⟨b, b2, e1, e2, hne, hB, ⟨⟨⟨k1, k2, k3, k4, k5⟩, z, cur, h1, h2⟩, h3⟩, h4⟩
/-- What the last three statements keep. -/
def LookS (wr : World) (b : Nat) (f t : ByteArray) (w' : World) : Prop := Below wr.heap.size wr w' ∧ w'.cell? ⟨b, 1, none⟩ = some (.string f) ∧ w'.cell? ⟨b, 2, none⟩ = some (.string t)
theorem look_start0 {wr : World} {b : Nat} {v0 v3 v4 : Value} {ty : TypeId} (h : wr.heap[b]? = some (.cells #[v0, .string f, .string t, v3, v4] ty (0, 0))) : LookS wr b f t wr.drew :=
  ⟨⟨rfl, rfl, rfl, Nat.le_refl _, fun _ _ => rfl⟩, cell_of_row (wr.drew) b 1 _ _ _ h, cell_of_row (wr.drew) b 2 _ _ _ h⟩
theorem look_drew {wr w1 : World} {b : Nat} (h : LookS wr b f t w1) : LookS wr b f t w1.drew := ⟨h.1.trans (⟨rfl, rfl, rfl, Nat.le_refl _, fun _ _ => rfl⟩), h.2.1, h.2.2⟩
theorem look_keep {wr w1 w2 : World} {b : Nat} (h : LookS wr b f t w1) (hb : Below w1.heap.size w1 w2) : LookS wr b f t w2 :=
  ⟨h.1.trans (hb.mono h.1.size), (hb.cell (p := ⟨b, 1, none⟩) (World.block_lt_of_cell? w1 _ h.2.1)).trans h.2.1, (hb.cell (p := ⟨b, 2, none⟩) (World.block_lt_of_cell? w1 _ h.2.2)).trans h.2.2⟩
set_option maxHeartbeats 8000000 in
set_option maxRecDepth 100000 in
theorem looksAll (h : Duo w0 w own g mb gr L L Ps rv Rs) (hn : L.length ≤ 1000000) {k most : Int} {v : Value} (hf : f.size ≤ maxLen) (ht : t.size ≤ maxLen) :
    Calls Try.prog 9 #[.pointer (some ⟨g, 0, none⟩), .pointer (some ⟨gr, 0, none⟩), .agg #[.int .i64 k, .string f, .string t, .int .i64 most, v]] w (LookEnd w0 own g mb gr L Ps rv Rs) := by
  have HL := Lib.hid hn
  have H := Lib.hid h
  have hbox0 := Lib.hid (MapKept.heap_alloc w (.cells #[.int .i64 k, .string f, .string t, .int .i64 most, v] 31)).1
  have H0 := Lib.hid (h.on (Below.alloc1 _ (.cells #[.int .i64 k, .string f, .string t, .int .i64 most, v] 31)))
  clear h hn
  go_enter Try.func9, Try.ntmps9
  go_wp2_with (go_at_call 20; refine (duoWaitP H0.out HL.out).mono ?_; rintro e w1 ⟨v1, rfl, o1, b1⟩; refine Hid.out ?_)
  refine Lib.hid ?_
  obtain ⟨A1, c1, rfl, _⟩ := row_form o1
  have H1 := Lib.hid (H0.out.on b1)
  have HO1 := Lib.hid o1
  have HB1 := Lib.hid b1
  clear o1 b1
  go_wp2_with (go_at_call 21; refine (duoWaitR H1.out HL.out).mono ?_; rintro e w2 ⟨v2, rfl, o2, b2⟩; refine Hid.out ?_)
  refine Lib.hid ?_
  obtain ⟨A2, c2, rfl, _⟩ := row_form o2
  have H2 := Lib.hid (H1.out.on b2)
  obtain ⟨n, hn⟩ : ∃ n, n = (onceL (waitA L)).length := ⟨_, rfl⟩
  have HO2 := Lib.hid o2
  have HB2 := Lib.hid b2
  clear o2 b2
  have HST := Lib.hid (look_start (B := w.heap.size + 1) (by have := HB1.out.size; simp at this ⊢) HO1.out HB2.out HO2.out)
  have HNO : Hid (∀ b, A1 = some ⟨b, 0, none⟩ → own b = .no) := fun b hb => H0.out.p.fresh b (by
    subst hb
    exact (World.ownsRow.lt HO1.out b rfl).1)
  have HBX : Hid (w2.heap[w.heap.size]? = some (.cells #[.int .i64 k, .string f, .string t, .int .i64 most, v] 31 (0, 0)) ∧ w.heap.size < w2.heap.size) := by
    have z : (w.alloc (.cells #[.int .i64 k, .string f, .string t, .int .i64 most, v] 31)).heap.size = w.heap.size + 1 := by simp
    have z1 := HB1.out.size
    have z2 := HB2.out.size
    rw [z] at z1
    exact ⟨((HB2.out.block _ (by omega)).trans (HB1.out.block _ (by rw [z]; omega))).trans hbox0.out, by omega⟩
  have HN := Lib.hid hn
  obtain ⟨R, hR⟩ : ∃ R : Value → World → Prop, R = fun i wr => ∃ k : Nat, k ≤ n ∧ i = .int .i64 k ∧ LookR n ((onceL (waitA L)).map encStr) (w.heap.size + 1) A1 A2 w2 k wr := ⟨_, rfl⟩
  have hn6 : n ≤ 1000000 := by
    have h1 := compact_len ((waitA L).mergeSort fun x y => decide (x ≤ y))
    have h2 := waitA_len L
    have h3 := HL.out
    rw [List.length_mergeSort] at h1
    unfold onceL at hn
    omega
  have HN6 := Lib.hid hn6
  rw [← hn] at HST
  rw [← hn]
  have HR := Lib.hid hR
  clear hR hn hn6
  go_wp2
  go_loopw [9] (fun i wr => R i wr) (fun i _ => n - (intOf i).toNat)
  case atStart => rw [HR.out]; exact ⟨0, Nat.zero_le _, rfl, HST.out⟩
  case round =>
    rw [HR.out] at hrel
    obtain ⟨k, hk, rfl, hs⟩ := hrel
    have hn6 := HN6.out
    by_cases hlt : k < n
    · obtain ⟨b, b2, rfl, rfl, c1', c2', z1, hs2⟩ := hs.cells hlt
      obtain ⟨s, hs0⟩ : ∃ s, ((onceL (waitA L)).map encStr)[k]? = some (.string s) := by
        rw [List.getElem?_map, List.getElem?_eq_getElem (by rw [← HN.out]; exact hlt)]
        exact ⟨_, rfl⟩
      rw [hs0] at c1' c2'
      have HS := Lib.hid hs2
      have i1 : (k : Int) < (n : Int) := by omega
      have i0 : (0 : Int) ≤ (k : Int) := by omega
      clear hs hs2 hs0
      go_wp2
      go_region
      go_wp2
      go_roundw
      case rel => rw [HR.out]; exact ⟨k + 1, by omega, by go_num, HS.out.drew (by omega)⟩
      case measure => simp [intOf]; omega
    · have i1 : ¬ (k : Int) < (n : Int) := by omega
      have HD := Lib.hid (hs.duo H2.out HNO.out (by have := H.out.below.size; omega))
      have HS0 := Lib.hid (look_start0 (f := f) (t := t) ((hs.box (x := w.heap.size) (by omega) HBX.out.2).trans HBX.out.1))
      clear hs
      go_wp2
      go_region_held3 (fun w' => Below wr.heap.size wr w' ∧ w'.cell? ⟨w.heap.size, 1, none⟩ = some (.string f) ∧ w'.cell? ⟨w.heap.size, 2, none⟩ = some (.string t))
        (first | exact HS0.out | exact look_keep (by assumption) hb | fail)
        (first
          | (go_at_call 13; refine (duoLenP (HD.out.on (And.left (by assumption))) hf ht).mono ?_; rintro e wn ⟨rfl, hb⟩)
          | (go_at_call 22; refine (duoLenR (HD.out.on (And.left (by assumption))) H.out.keysP HL.out _ _).mono ?_; rintro e wn ⟨rfl, hb⟩)
          | fail)
      all_goals
        go_wp2
        go_region_held3 (fun w' => Below wr.heap.size wr w' ∧ w'.cell? ⟨w.heap.size, 1, none⟩ = some (.string f) ∧ w'.cell? ⟨w.heap.size, 2, none⟩ = some (.string t))
        (first | exact look_drew (by assumption) | exact look_keep (by assumption) hb | fail)
        (first
          | (go_at_call 14; refine (duoRoomP (HD.out.on (And.left (by assumption))) hf ht).mono ?_; rintro e wn ⟨rfl, hb⟩)
          | (go_at_call 23; refine (duoRoomR (HD.out.on (And.left (by assumption))) H.out.keysP H.out.fineP HL.out _ _).mono ?_; rintro e wn ⟨rfl, hb⟩)
          | fail)
      all_goals
        go_wp2
        go_region_held3 (fun w' => Below wr.heap.size wr w' ∧ w'.cell? ⟨w.heap.size, 1, none⟩ = some (.string f) ∧ w'.cell? ⟨w.heap.size, 2, none⟩ = some (.string t))
        (first | exact look_drew (by assumption) | exact look_keep (by assumption) hb | fail)
        (first
          | (go_at_call 13; refine (duoLenP (HD.out.on (And.left (by assumption))) ht hf).mono ?_; rintro e wn ⟨rfl, hb⟩)
          | (go_at_call 22; refine (duoLenR (HD.out.on (And.left (by assumption))) H.out.keysP HL.out _ _).mono ?_; rintro e wn ⟨rfl, hb⟩)
          | fail)
      all_goals
        go_wp2
        go_ret
        exact ⟨rfl, HD.out.on (And.left (by assumption))⟩
end
end Go.Proofs.Ytfmphhcdbocgnaa.Pipe
