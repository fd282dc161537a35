/-
  A message is sent.
-/
import Derived.Test.YtfmphhcdbocgnaaPipeClone
import Derived.Deep.AppendLies
import Derived.Deep.RegionLaw
namespace Go.Proofs.Ytfmphhcdbocgnaa.Pipe
open Go.RowKit Base
section
variable {own : Nat → Tag} {w : World} {g mb : Nat} {Ps : List (PA × PG)}
theorem World.cell_alloc_old {W : World} {a : Addr} {v : Value} (h : W.cell? a = some v) (o : Obj) : (W.alloc o).cell? a = some v := Lib.cell?_alloc_some o h
theorem owns_lt {w : World} {B : Nat} {v : Value} {l : List UInt8} (h : Owns w B v l) {b : Nat} (hb : v.ownBlock = some b) : b < w.heap.size := (h.ge b hb).2
theorem row_lt {B : Nat} {e : TypeId} {s n : Nat} {v : Value} {xs : List Value} (h : w.ownsRow B e s v n xs) {b : Nat} (hb : v.ownBlock = some b) : b < w.heap.size := by
  rcases h.2 with ⟨rfl, _⟩ | ⟨g, cap, cur, rfl, _, h2, _⟩
  · cases hb
  · cases hb; exact heap_lt h2

theorem send_done (h : Holds own w g mb Ps) {i : Nat} {p : PA × PG} (hp : Ps[i]? = some p) {l : List UInt8} (hl : l.length ≤ 65536) (hroom : p.1.q.length < p.1.most) {w1 w2 : World} {v1 : Value} {g2 cap2 : Nat}
    (b1 : Below w.heap.size w w1) (ow1 : Owns w1 w.heap.size v1 l) (hown2 : w2.ownsRow 0 29 1 (.slice (some ⟨g2, 0, none⟩) (p.1.q.length + 1) cap2) (p.1.q.length + 1) (p.2.vs ++ [v1]))
    (hgrow2 : (w1.alloc (.cells #[v1] 29)).grownBy w2 p.2.sv.ownBlock) (hat : p.2.sv.ownBlock = some g2 ∨ g2 = w1.heap.size + 1) (hlt : g2 < w2.heap.size) :
    ∃ own' G', Holds own' (w2.setCell ⟨p.2.pb, 1, none⟩ (.slice (some ⟨g2, 0, none⟩) (p.1.q.length + 1) cap2)) g mb (Ps.set i ({ p.1 with q := p.1.q ++ [l] }, G')) ∧ Step own w own' (w2.setCell ⟨p.2.pb, 1, none⟩ (.slice (some ⟨g2, 0, none⟩) (p.1.q.length + 1) cap2)) := by
  have hP := h.pipes i p hp
  have hpb := own_lt h.fresh hP.boxOwn
  have hs1 : w.heap.size ≤ w1.heap.size := b1.size
  have hs2 : w1.heap.size + 1 ≤ w2.heap.size := by have := hgrow2.size; simpa using this
  have hsv : ∀ b, p.2.sv.ownBlock = some b → b < w.heap.size := fun b hb => row_lt hP.row hb
  have hv1 : ∀ b, v1.ownBlock = some b → w.heap.size ≤ b ∧ b < w1.heap.size := ow1.ge
  -- blocks
  have blk : ∀ b, b < w1.heap.size → p.2.sv.ownBlock ≠ some b → b ≠ p.2.pb → (w2.setCell ⟨p.2.pb, 1, none⟩ (.slice (some ⟨g2, 0, none⟩) (p.1.q.length + 1) cap2)).heap[b]? = w1.heap[b]? := fun b hb hn hne => by
    rw [Below.heap_setCell _ _ _ _ hne, hgrow2.block b (by simp; omega) (fun e => hn e.symm)]
    exact (MapKept.heap_alloc w1 _).2 b hb
  have hbox2 : w2.heap[p.2.pb]? = some (.cells #[.int .i64 (p.1.most : Int), p.2.sv] 57 (0, 0)) := by
    rw [hgrow2.block _ (by simp; omega) (fun e => by have := hP.rowOwn _ e.symm; rw [hP.boxOwn] at this; cases this), (MapKept.heap_alloc w1 _).2 _ (by omega), b1.block _ hpb]
    exact hP.box
  have hg2 : g2 < w.heap.size ∨ g2 = w1.heap.size + 1 := by
    rcases hat with h' | h'
    · exact Or.inl (hsv g2 h')
    · exact Or.inr h'
  refine ⟨fun b => if b < w.heap.size then own b else if v1.ownBlock = some b then .p (.msg i (p.2.done + p.1.q.length)) else if b = g2 then .p (.row i) else .no,
    ⟨p.2.pb, .slice (some ⟨g2, 0, none⟩) (p.1.q.length + 1) cap2, p.2.vs ++ [v1], p.2.done⟩, ?_, ?_⟩
  · have hkeep : ∀ b t, own b = .p t → t ≠ .row i → t ≠ .pipe i → (w2.setCell ⟨p.2.pb, 1, none⟩ (.slice (some ⟨g2, 0, none⟩) (p.1.q.length + 1) cap2)).heap[b]? = w.heap[b]? := fun b t ht h1 h2 => by
      have hb := own_lt h.fresh ht
      rw [blk b (by omega) (fun e => h1 (by have := hP.rowOwn b e; rw [ht] at this; cases this; rfl)) (fun e => h2 (by subst e; have := hP.boxOwn; rw [ht] at this; cases this; rfl)), b1.block b hb]
    refine h.turned hp rfl (fun b t ht hof => ⟨by rw [if_pos (own_lt h.fresh ht)]; exact ht, hkeep b t ht (fun e => hof (by rw [e]; rfl)) (fun e => hof (by rw [e]; rfl))⟩) ?_ (fun b hb => ?_)
    · have hrow : (w2.setCell ⟨p.2.pb, 1, none⟩ (.slice (some ⟨g2, 0, none⟩) (p.1.q.length + 1) cap2)).ownsRow 0 29 1 (.slice (some ⟨g2, 0, none⟩) (p.1.q.length + 1) cap2) (p.1.q.length + 1) (p.2.vs ++ [v1]) :=
        row_kept hown2 fun b hb => by
          cases hb
          have hne : g2 ≠ p.2.pb := fun e => by
            rcases hat with h' | h'
            · have := hP.rowOwn _ h'; rw [e, hP.boxOwn] at this; cases this
            · omega
          exact Below.heap_setCell _ _ _ _ hne
      refine ⟨heap_setCell_any w2 _ 1 _ _ _ _ hbox2 |>.trans rfl, by simp only [if_pos hpb]; exact hP.boxOwn, ?_, fun b hb => ?_, by simp [hP.len], fun j v l' hj hj' => ?_, hP.most1, hP.most2, by simp; omega, fun x hx => ?_, hP.fsz, hP.tsz⟩
      · simpa using hrow
      · cases hb
        simp only
        rcases hat with h' | h'
        · rw [if_pos (hsv g2 h')]; exact hP.rowOwn g2 h'
        · rw [if_neg (by omega), if_neg (fun e => by have := (hv1 _ e).2; omega), if_pos trivial]
      · have hjl : j < p.2.vs.length ∨ j = p.2.vs.length := by
          have := (List.getElem?_eq_some_iff.1 hj).1
          simp at this; omega
        rcases hjl with hjl | rfl
        · rw [List.getElem?_append_left hjl] at hj
          simp only at hj'
          rw [List.getElem?_append_left (by rw [← hP.len]; exact hjl)] at hj'
          obtain ⟨m1, m2⟩ := hP.msgs j v l' hj hj'
          refine ⟨Owns.keptO m1 fun b hb => hkeep b _ (m2 b hb) (by simp) (by simp), fun b hb => ?_⟩
          simp only
          rw [if_pos (own_lt h.fresh (m2 b hb))]
          exact m2 b hb
        · simp only at hj'
          rw [List.getElem?_append_right (Nat.le_refl _), Nat.sub_self] at hj
          rw [hP.len, List.getElem?_append_right (Nat.le_refl _), Nat.sub_self] at hj'
          cases hj; cases hj'
          refine ⟨Owns.mono (Owns.keptB ow1 fun b hb _ => ?_) (Nat.zero_le _), fun b hb => ?_⟩
          · have := hv1 b hb
            exact blk b this.2 (fun e => by have := hsv b e; omega) (by omega)
          · have := hv1 b hb
            simp only
            rw [if_neg (by omega), if_pos hb, hP.len]
      · simp only [List.mem_append, List.mem_singleton] at hx
        rcases hx with hx | rfl
        · exact hP.short x hx
        · exact hl
    · have hb' : w2.heap.size ≤ b := by simpa [World.setCell] using hb
      rw [if_neg (by omega), if_neg (fun e => by have := (hv1 _ e).2; omega), if_neg (by omega)]
  · refine ⟨?_, ?_, ?_, ?_, fun b hb hn => ?_, fun b hb hn => by rw [if_pos hb]⟩
    · exact hgrow2.os.trans b1.os
    · exact hgrow2.tape.trans b1.tape
    · exact hgrow2.output.trans b1.output
    · simp [World.setCell]; omega
    · rw [blk b (by omega) (fun e => hn _ (hP.rowOwn b e)) (fun e => hn _ (by rw [e]; exact hP.boxOwn)), b1.block b hb]

theorem row_old {w w1 : World} {B : Nat} {e : TypeId} {s n : Nat} {v : Value} {xs : List Value} {o : Obj} (h : w.ownsRow B e s v n xs) (hb : Below w.heap.size w w1) : (w1.alloc o).ownsRow B e s v n xs := by
  refine ⟨h.1, ?_⟩
  rcases h.2 with hn | ⟨g, cap, cur, rfl, h1, h2, h3⟩
  · exact Or.inl hn
  · exact Or.inr ⟨g, cap, cur, rfl, h1, by rw [(MapKept.heap_alloc w1 _).2 _ (Nat.lt_of_lt_of_le (heap_lt h2) hb.size), hb.block g (heap_lt h2)]; exact h2, h3⟩
theorem news_one (w : World) (x : Value) (t : TypeId) : ∀ (j : Nat) (u : Value), [x][j]? = some u → (w.alloc (.cells #[x] t)).cell? ((⟨w.heap.size, 0, none⟩ : Addr).add j) = some u := by
  intro j u h
  have hj : j = 0 := by
    have := (List.getElem?_eq_some_iff.1 h).1
    simpa using this
  subst hj
  simp at h
  subst h
  rw [Addr.add_lit]
  have h0 := (MapKept.heap_alloc w (.cells #[x] t)).1
  unfold World.cell?
  rw [show (⟨w.heap.size, 0 + 0, none⟩ : Addr).block = w.heap.size from rfl, h0]
  rfl
theorem append_cell {W w2 : World} {v x : Value} {b o : Nat} (hn : ∀ g, v.ownBlock = some g → g ≠ b) (h : W.cell? ⟨b, o, none⟩ = some x) (hlt : b < W.heap.size) (hg : W.grownBy w2 v.ownBlock) : w2.cell? ⟨b, o, none⟩ = some x := by
  rw [World.cell?_of_block (hg.block b hlt (fun e => hn b e.symm rfl))]; exact h
theorem append_frozen {w w1 w2 : World} {v : Value} {b o : Nat} {ob : Obj} (hn : ∀ g, v.ownBlock = some g → g ≠ b) (hb : Below w.heap.size w w1) (hlt : b < w.heap.size) (h : w.frozen? ⟨b, o, none⟩ = false) (hg : (w1.alloc ob).grownBy w2 v.ownBlock) : w2.frozen? ⟨b, o, none⟩ = false := by
  have hb1 : b < w1.heap.size := Nat.lt_of_lt_of_le hlt hb.size
  rw [World.frozen?_of_block (hg.block b (by simp; omega) (fun e => hn b e.symm rfl)), World.frozen?_of_block ((MapKept.heap_alloc w1 _).2 b hb1), World.frozen?_of_block (hb.block b hlt)]; exact h
def SentEnd (own : Nat → Tag) (w : World) (g mb : Nat) (Ps : List (PA × PG)) (i : Nat) (p : PA × PG) (l : List UInt8) (e : Ending) (w' : World) : Prop :=
  e = .returned (.int .i64 0) ∧ ∃ own' G', Holds own' w' g mb (Ps.set i ({ p.1 with q := p.1.q ++ [l] }, G')) ∧ Step own w own' w'
theorem cSendOk (h : Holds own w g mb Ps) {i : Nat} {p : PA × PG} (hp : Ps[i]? = some p) {v : Value} {l : List UInt8} (hr : Reads w v l) (hl : l.length ≤ 65536) (hroom : p.1.q.length < p.1.most) :
    Calls Try.prog 11 #[.pointer (some ⟨g, 0, none⟩), .string p.1.f, .string p.1.t, v] w (SentEnd own w g mb Ps i p l) := by
  obtain ⟨i0, hi0, hz0, hz1, hz2⟩ := info_parts info29
  have hdone := fun (w1 w2 : World) (v1 : Value) (g2 cap2 : Nat) => @send_done own w g mb Ps h i p hp l hl hroom w1 w2 v1 g2 cap2
  have hc := h.cell
  have hfind := h.find hp
  have hP := h.pipes i p hp
  have hpb := own_lt h.fresh hP.boxOwn
  have hr0 : Hid (∀ n, Reads (w.drewN n) v l) := fun n => hr.on (below_drewN _ _ _)
  obtain ⟨va, vc, hv⟩ := hr.form
  subst hv
  obtain ⟨a, c, hsv, _⟩ := row_form hP.row
  have hrow := Lib.hid hP.row
  obtain ⟨c0, c1, c2⟩ := hP.cells
  rw [hsv] at c1 hdone hrow
  have b1 := hP.most2
  have b2 := hP.fits
  have d1 : (((p.1.q.length : Nat) : Int) == (p.1.most : Int)) = false := by rw [beq_eq_false_iff_ne]; omega
  have hsvb : Hid (∀ b, (Value.slice a p.1.q.length c).ownBlock = some b → b ≠ p.2.pb) := fun b hb e => by
    rw [← hsv] at hb
    have := hP.rowOwn b hb
    rw [e, hP.boxOwn] at this; cases this
  clear hsv
  have HD := Lib.hid hdone
  clear hdone
  clear hr
  go_enter Try.func11, Try.ntmps11
  go_wp2_with fail
  go_quiet (fail)
  go_wp2_with fail
  have e0 : (w.drewN nq).drew.cell? ⟨p.2.pb, 1, none⟩ = some (.slice a p.1.q.length c) := c1
  go_region_law
    (first
      | (go_simp; go_at_call 26; refine (cClone2 _ (hr0.out _) hl).mono ?_; rintro ee w1 ⟨A1, k1, rfl, ow1, bb0⟩; have bb1 : Below w.heap.size w w1 := (below_drewN _ _ _).trans bb0; clear bb0; have e1 := (bb1.cell (p := ⟨p.2.pb, 1, none⟩) hpb).trans c1; have z1 : p.2.pb < w1.heap.size := Nat.lt_of_lt_of_le hpb bb1.size; have e2 := World.cell_alloc_old e1 (.cells #[.slice A1 l.length k1] 29))
      | (refine step_append_lies _ (by rfl) _ _ _ (by rfl) 0 29 i0 (.slice none 0 0) 1 24 Try.underlying33 hi0 hz0 hz1 hz2 rfl (by decide) (.slice a p.1.q.length c) p.1.q.length p.2.vs (by simp [Act.eval]) (row_old hrow.out bb1) ⟨w1.heap.size, 0, none⟩ 1 1 [.slice A1 l.length k1] (by simp [Act.eval]) rfl (news_one _ _ _) (by intro u hu; rw [List.mem_singleton.1 hu]; rfl) (by omega) (by unfold maxLen; omega) (by omega) (Nat.zero_le _) (w1.heap.size + 1) (by simp) ?_; intro g2 cap2 w2 hown2 hgrow2 hat2 hlt2; have e3 := append_cell hsvb.out e2 (by simp; omega) hgrow2; have e4 := append_frozen hsvb.out bb1 hpb c2 hgrow2))
  all_goals
    go_wp2
    go_ret
    exact ⟨rfl, HD.out _ _ _ _ _ bb1 ow1 hown2 hgrow2 hat2 hlt2⟩
end
end Go.Proofs.Ytfmphhcdbocgnaa.Pipe
