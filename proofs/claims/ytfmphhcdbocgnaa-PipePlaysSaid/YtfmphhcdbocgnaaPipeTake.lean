/-
  A message is taken.
-/
import Derived.Test.YtfmphhcdbocgnaaPipeSend2
namespace Go.Proofs.Ytfmphhcdbocgnaa.Pipe
open Go.RowKit Base
section
variable {own : Nat → Tag} {w : World} {g mb : Nat} {Ps : List (PA × PG)}
theorem ret2 (v : Value) (n : Int) : Ending.returned (.tuple #[v, .int .i64 n]) = .returned (.tuple #[v, .int .i64 n]) := rfl
def NoneEnd (n : Int) (w : World) (e : Ending) (w' : World) : Prop := e = .returned (.tuple #[.slice none 0 0, .int .i64 n]) ∧ w = w'
theorem cTakeNo (h : Holds own w g mb Ps) {f t : ByteArray} (hf : f.size ≤ maxLen) (ht : t.size ≤ maxLen) (hn : ∀ p ∈ Ps, ¬ (p.1.f = f ∧ p.1.t = t)) :
    Calls Try.prog 12 #[.pointer (some ⟨g, 0, none⟩), .string f, .string t] w (NoneEnd 52 w) := by
  have hc := h.cell
  have hl := h.none hf ht hn
  clear hn
  go_enter Try.func12, Try.ntmps12
  go_wp2
  go_ret2
  exact ⟨rfl, rfl⟩
theorem cTakeEmpty (h : Holds own w g mb Ps) {i : Nat} {p : PA × PG} (hp : Ps[i]? = some p) (he : p.1.q = []) :
    Calls Try.prog 12 #[.pointer (some ⟨g, 0, none⟩), .string p.1.f, .string p.1.t] w (NoneEnd 54 w) := by
  have hc := h.cell
  have hfind := h.find hp
  have hP := h.pipes i p hp
  obtain ⟨a, c, hsv, _⟩ := row_form hP.row
  obtain ⟨c0, c1, c2⟩ := hP.cells
  rw [hsv, he] at c1
  clear hsv he
  go_enter Try.func12, Try.ntmps12
  go_wp2
  go_ret2
  exact ⟨rfl, rfl⟩

theorem take_done (h : Holds own w g mb Ps) {i : Nat} {p : PA × PG} (hp : Ps[i]? = some p) {l : List UInt8} {q : List (List UInt8)} (hq : p.1.q = l :: q) {v0 : Value} {vs : List Value} (hvs : p.2.vs = v0 :: vs) {b n c : Nat}
    (hsv : p.2.sv = .slice (some ⟨b, 0, none⟩) n c) {w1 : World} (hrow : w1.ownsRow 0 29 1 (.slice (some ⟨b, 0, none⟩) (n - 1) c) (n - 1) vs) (hk : KeepX b w w1) (hn : n = p.1.q.length) (hz : w1.heap.size = w.heap.size) :
    ∃ own' G', Holds own' (w1.setCell ⟨p.2.pb, 1, none⟩ (.slice (some ⟨b, 0, none⟩) (n - 1) c)) g mb (Ps.set i ({ p.1 with q := q }, G')) ∧ Step own w own' (w1.setCell ⟨p.2.pb, 1, none⟩ (.slice (some ⟨b, 0, none⟩) (n - 1) c)) ∧
      Owns (w1.setCell ⟨p.2.pb, 1, none⟩ (.slice (some ⟨b, 0, none⟩) (n - 1) c)) 0 v0 l ∧ ∀ x, v0.ownBlock = some x → own' x = .no ∧ ∃ t, own x = .p t := by
  have hP := h.pipes i p hp
  have hpb := own_lt h.fresh hP.boxOwn
  have hbo : own b = .p (.row i) := hP.rowOwn b (by rw [hsv]; rfl)
  have hbne : b ≠ p.2.pb := fun e => by rw [e, hP.boxOwn] at hbo; cases hbo
  obtain ⟨m0, m1⟩ := hP.msgs 0 v0 l (by rw [hvs]; rfl) (by rw [hq]; rfl)
  have hlen : n = q.length + 1 := by rw [hn, hq]; rfl
  have hbox2 : w1.heap[p.2.pb]? = some (.cells #[.int .i64 (p.1.most : Int), p.2.sv] 57 (0, 0)) := (hk.block _ hpb (fun e => hbne e.symm)).trans hP.box
  have blk : ∀ x, x < w.heap.size → x ≠ b → x ≠ p.2.pb → (w1.setCell ⟨p.2.pb, 1, none⟩ (.slice (some ⟨b, 0, none⟩) (n - 1) c)).heap[x]? = w.heap[x]? := fun x hx h1 h2 => by
    rw [Below.heap_setCell _ _ _ _ h2, hk.block x hx h1]
  have hkeep : ∀ x t, own x = .p t → t ≠ .row i → t ≠ .pipe i → (w1.setCell ⟨p.2.pb, 1, none⟩ (.slice (some ⟨b, 0, none⟩) (n - 1) c)).heap[x]? = w.heap[x]? := fun x t ht h1 h2 =>
    blk x (own_lt h.fresh ht) (fun e => h1 (by rw [e, hbo] at ht; cases ht; rfl)) (fun e => h2 (by rw [e, hP.boxOwn] at ht; cases ht; rfl))
  refine ⟨fun x => if v0.ownBlock = some x then .no else own x, ⟨p.2.pb, .slice (some ⟨b, 0, none⟩) (n - 1) c, vs, p.2.done + 1⟩, ?_, ?_, Owns.keptO m0 fun x hx => hkeep x _ (m1 x hx) (by simp) (by simp), fun x hx => ⟨if_pos hx, _, m1 x hx⟩⟩
  · have tagk : ∀ x t, own x = .p t → t ≠ .msg i p.2.done → (if v0.ownBlock = some x then Tag.no else own x) = .p t := fun x t ht hne => by
      rw [if_neg (fun e => hne (by have := m1 x e; rw [ht] at this; cases this; simp))]; exact ht
    refine h.turned hp rfl (fun x t ht hof => ⟨tagk x t ht (fun e => hof (by rw [e]; rfl)), hkeep x t ht (fun e => hof (by rw [e]; rfl)) (fun e => hof (by rw [e]; rfl))⟩) ?_ (fun x hx => ?_)
    · refine ⟨heap_setCell_any w1 _ 1 _ _ _ _ hbox2 |>.trans rfl, tagk _ _ hP.boxOwn (by simp), ?_, fun x hx => ?_, ?_, fun j v l' hj hj' => ?_, hP.most1, hP.most2, ?_, fun x hx => hP.short x (by rw [hq]; exact List.mem_cons_of_mem _ hx), hP.fsz, hP.tsz⟩
      · have : n - 1 = q.length := by omega
        simp only [← this]
        exact row_kept hrow fun x hx => by cases hx; exact Below.heap_setCell _ _ _ _ hbne
      · cases hx; exact tagk b _ hbo (by simp)
      · have := hP.len; rw [hvs, hq] at this; simpa using this
      · obtain ⟨k1, k2⟩ := hP.msgs (j + 1) v l' (by rw [hvs]; exact hj) (by rw [hq]; exact hj')
        refine ⟨Owns.keptO k1 fun x hx => hkeep x _ (k2 x hx) (by simp) (by simp), fun x hx => ?_⟩
        rw [show p.2.done + 1 + j = p.2.done + (j + 1) by omega]
        exact tagk x _ (k2 x hx) (by simp)
      · have := hP.fits; rw [hq] at this; simp at this ⊢; omega
    · have hb' : w.heap.size ≤ x := by rw [← hz]; simpa [World.setCell] using hx
      split
      · rfl
      · exact h.fresh x hb'
  · refine ⟨hk.os, hk.tape, hk.output, by simp [World.setCell]; omega, fun x hx hn => blk x hx (fun e => hn (.row i) (by rw [e]; exact hbo)) (fun e => hn (.pipe i) (by rw [e]; exact hP.boxOwn)), fun x hx hn => ?_⟩
    split
    · rename_i hv
      exact absurd (m1 x hv) (hn _)
    · rfl

def TookEnd (own : Nat → Tag) (w : World) (g mb : Nat) (Ps : List (PA × PG)) (i : Nat) (p : PA × PG) (l : List UInt8) (q : List (List UInt8)) (e : Ending) (w' : World) : Prop :=
  ∃ v own' G', e = .returned (.tuple #[v, .int .i64 0]) ∧ Holds own' w' g mb (Ps.set i ({ p.1 with q := q }, G')) ∧ Step own w own' w' ∧ Owns w' 0 v l ∧ ∀ x, v.ownBlock = some x → own' x = .no ∧ ∃ t, own x = .p t
theorem cTakeOk (h : Holds own w g mb Ps) {i : Nat} {p : PA × PG} (hp : Ps[i]? = some p) {l : List UInt8} {q : List (List UInt8)} (hq : p.1.q = l :: q) :
    Calls Try.prog 12 #[.pointer (some ⟨g, 0, none⟩), .string p.1.f, .string p.1.t] w (TookEnd own w g mb Ps i p l q) := by
  have hc := h.cell
  have hfind := h.find hp
  have hP := h.pipes i p hp
  have hpb := own_lt h.fresh hP.boxOwn
  have hlen : p.1.q.length = q.length + 1 := by rw [hq]; rfl
  obtain ⟨v0, vs, hvs⟩ : ∃ v0 vs, p.2.vs = v0 :: vs := by
    have := hP.len
    cases hv : p.2.vs with
    | nil => rw [hv, hq] at this; simp at this
    | cons a b => exact ⟨a, b, rfl⟩
  obtain ⟨A0, k0, hv0⟩ := (hP.msgs 0 v0 l (by rw [hvs]; rfl) (by rw [hq]; rfl)).1.reads.form
  subst hv0
  have hone : ∀ v ∈ vs, v.oneCell' = true := fun v hv => by
    obtain ⟨j, hj⟩ := List.getElem?_of_mem hv
    have hjl : j + 1 < p.1.q.length := by rw [← hP.len, hvs]; simpa using (List.getElem?_eq_some_iff.1 hj).1
    obtain ⟨A, k, rfl⟩ := (hP.msgs (j + 1) v _ (by rw [hvs]; exact hj) (List.getElem?_eq_getElem hjl)).1.reads.form
    rfl
  have hrow := hP.row
  obtain ⟨b, c, hsv⟩ : ∃ b c, p.2.sv = .slice (some ⟨b, 0, none⟩) p.1.q.length c := by
    rcases hrow.2 with ⟨_, hn⟩ | ⟨g, cap, cur, hx, _⟩
    · omega
    · exact ⟨g, cap, hx⟩
  have hdone := fun w1 => @take_done own w g mb Ps h i p hp l q hq _ vs hvs b p.1.q.length c hsv w1
  have hbo : own b = .p (.row i) := hP.rowOwn b (by rw [hsv]; rfl)
  have hbne : p.2.pb ≠ b := fun e => by rw [← e, hP.boxOwn] at hbo; cases hbo
  obtain ⟨c0, c1, c2⟩ := hP.cells
  rw [hsv] at c1 hrow
  rw [hvs] at hrow
  have cel : w.cell? ⟨b, 0, none⟩ = some (.slice A0 l.length k0) := by
    have := World.ownsRow.cellAt hrow 0 (by omega)
    simpa using this
  rw [hlen] at hrow c1 hdone
  have HR := Lib.hid hrow
  have HD := Lib.hid hdone
  have HO := Lib.hid hone
  have hnz : (0 : Int) < (q.length : Int) + 1 := by omega
  have hnz2 : (((q.length : Int) + 1) == 0) = false := by rw [beq_eq_false_iff_ne]; omega
  clear hrow hdone hone hlen hvs hq hsv hbo
  go_enter Try.func12, Try.ntmps12
  go_wp2_with (go_at_call 27; refine (cDelete _ _ _ _ _ _ HR.out HO.out).mono ?_; rintro e w1 ⟨rfl, r1, k1, z1⟩; refine Hid.out ?_)
  refine Lib.hid ?_
  have e1 : w1.cell? ⟨p.2.pb, 1, none⟩ = some (.slice (some ⟨b, 0, none⟩) (q.length + 1) c) := (World.cell?_of_block (k1.block _ hpb hbne)).trans c1
  have e2 : w1.frozen? ⟨p.2.pb, 1, none⟩ = false := (World.frozen?_of_block (k1.block _ hpb hbne)).trans c2
  go_wp2
  go_ret2
  obtain ⟨own', G', r2, r3, r4, r5⟩ := HD.out w1 r1 k1 (by first | trivial | rfl) z1
  exact ⟨_, own', G', rfl, r2, r3, r4, r5⟩
end
end Go.Proofs.Ytfmphhcdbocgnaa.Pipe
