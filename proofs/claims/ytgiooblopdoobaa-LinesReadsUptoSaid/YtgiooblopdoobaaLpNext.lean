/-
  LINES, the program: Next: the walk.
-/
import Derived.Test.YtgiooblopdoobaaLpNextP
namespace Go.Proofs.Ytgiooblopdoobaa.Lines
open Go.RowKit Base
theorem tell_fst (most : Nat) (y : List UInt8) (ends : Bool) : (tellOf most y ends).1 = y.take (min y.length most) := by
  unfold tellOf
  split
  · rw [Nat.min_eq_right (by omega)]
  · have : y.take (min y.length most) = y := by rw [Nat.min_eq_left (by omega)]; exact List.take_length
    rw [this]
    split
    · rfl
    · split <;> rfl
/-- What follows the cut: the line's own bytes, and what is wrong with it. -/
theorem next_tail {g b o c most s E m : Nat} {l y : List UInt8} {ends : Bool} {w w1 : World} (hl : l.length ≤ 200000000000000) (hp : PdAt w1 g (.slice (some ⟨b, o, none⟩) l.length c) most s l) (hb : Below w.heap.size w w1)
    (he : endOf l = E) (hlt : E < l.length) (hye : bareOf (l.take E) = (y, ends)) (hm : m = y.length) (vt : Value) (hvt : OwnsT w1 0 vt (l.drop (E + 1))) (hvb : vt.ownBlock = some b) :
    Calls Try.prog 24 #[.slice (some ⟨b, o, none⟩) (min (m : Int) (most : Int)).toNat c] ((w1.setCell ⟨g, 1, none⟩ vt).setCell ⟨g, 2, none⟩ (.int .i64 0)) fun e w4 => ∃ u, e = .returned u ∧
      Hid (Calls Try.prog 25 #[.pointer (some ⟨g, 0, none⟩), .slice (some ⟨b, o, none⟩) m c, .bool ends] w4 (fun e w' => e = .returned (.int .i64 ((tellOf most y ends).2 : Int)) ∧ w4 = w')) ∧
      Hid (PNextEnd g (.slice (some ⟨b, o, none⟩) l.length c) most l w (.returned (.tuple #[u, .int .i64 ((tellOf most y ends).2 : Int), .bool true])) w4) := by
  obtain ⟨hy1, hy2⟩ := bare_take (l.take E)
  rw [hye] at hy1 hy2
  dsimp only at hy1 hy2
  have hy4 : m ≤ E := by rw [List.length_take] at hy2; omega
  have hy3 : y = l.take m := by
    rw [List.take_take, Nat.min_eq_left (by omega), ← hm] at hy1
    exact hy1
  have hbg : b ≠ g := fun e => hp.2.2 (by rw [e]; rfl)
  have p1 : PdAt (w1.setCell ⟨g, 1, none⟩ vt) g vt most s (l.drop (E + 1)) := PdAt.put hp.1 hvt (by rw [hvb]; intro e; cases e; exact hbg rfl)
  have p2 := p1.known 0
  obtain ⟨w3, hw3⟩ : ∃ w3, w3 = (w1.setCell ⟨g, 1, none⟩ vt).setCell ⟨g, 2, none⟩ (.int .i64 0) := ⟨_, rfl⟩
  have p3 : PdAt w3 g vt most 0 (l.drop (E + 1)) := by rw [hw3]; exact p2
  have kx : KeepX g w1 w3 := by rw [hw3]; exact (KeepX.set g w1 1 vt).trans (KeepX.set g _ 2 _)
  have hr1 : Reads w1 (.slice (some ⟨b, o, none⟩) m c) y := by
    rw [hy3]
    exact reads_cut hp.2.1.reads m (by omega)
  have hr3 : Reads w3 (.slice (some ⟨b, o, none⟩) m c) y := by
    have hblt := (hp.2.1.ge b rfl).2
    rcases hr1 with h | ⟨b', o', c', e, h1, h2⟩
    · exact Or.inl h
    · cases e
      exact Or.inr ⟨b, o, c, by rw [hm], h1, fun i hi => by rw [World.cell?_of_block (kx.block b hblt hbg), h2 i hi]⟩
  have hk : (min (m : Int) (most : Int)).toNat = min m most := by omega
  have hr4 := reads_cut (show Reads w3 (.slice (some ⟨b, o, none⟩) m c) y from hr3) (min m most) (by omega)
  rw [hk, ← hw3]
  have kr : KeepR g (.slice (some ⟨b, o, none⟩) l.length c) w w3 := ⟨kx.os.trans hb.os, kx.tape.trans hb.tape, kx.output.trans hb.output, Nat.le_trans hb.size kx.size, fun k hk hg _ => (kx.block k (Nat.lt_of_lt_of_le hk hb.size) hg).trans (hb.block k hk)⟩
  refine (pClone hr4 (by rw [List.length_take]; omega)).mono ?_
  rintro e w4 ⟨u, rfl, ho, hbl⟩
  have p4 : PdAt w4 g vt most 0 (l.drop (E + 1)) := p3.on hbl.size (hbl.block g (heap_lt p3.1)) fun q hq => hbl.block q (p3.2.1.ge q hq).2
  refine ⟨u, rfl, pWrong (hr3.on hbl) most (three_cells p4.1).1 ends, ?_⟩
  show PNextEnd _ _ _ _ _ _ _
  unfold PNextEnd
  rw [he, if_pos hlt]
  refine ⟨u, vt, ?_, ?_, ?_, p4, hvb⟩
  · unfold lineTold; rw [hye]
  · unfold lineTold
    rw [hye, tell_fst, ← hm]
    exact ho.mono kr.size
  · exact ⟨hbl.os.trans kr.os, hbl.tape.trans kr.tape, hbl.output.trans kr.output, Nat.le_trans kr.size hbl.size, fun k hk hg hv => (hbl.block k (Nat.lt_of_lt_of_le hk kr.size)).trans (kr.block k hk hg hv)⟩
set_option maxHeartbeats 8000000 in
set_option maxRecDepth 100000 in
theorem pNextA (g b o c : Nat) (most s : Nat) (l : List UInt8) (w : World) (hl : l.length ≤ 200000000000000) (h : PdAt w g (.slice (some ⟨b, o, none⟩) l.length c) most s l) (hs : s ≤ endOf l) :
    Calls Try.prog 12 #[.pointer (some ⟨g, 0, none⟩)] w (PNextEnd g (.slice (some ⟨b, o, none⟩) l.length c) most l w) := by
  obtain ⟨N, hN⟩ : ∃ N, N = l.length := ⟨_, rfl⟩
  obtain ⟨c0, c1, c2, f0, f1, f2⟩ := three_cells h.1
  have HG := Lib.hid (heap_lt h.1)
  have HH := Lib.hid h
  have hel := endOf_le l
  have HRD := Lib.hid h.2.1.reads
  obtain ⟨_, hlc⟩ := reads_len h.2.1.reads
  have HT := Lib.hid (Reads.tail h.2.1.reads (at_ := s) (by omega))
  have hED := endOf_drop l s hs
  have hidx := idx_end (l.drop s)
  rw [hED, List.length_drop] at hidx
  clear hED
  have HN := Lib.hid hN
  rw [← hN] at hlc hl c1 HT hidx hel ⊢
  have sN : s ≤ N := by omega
  have sc : s ≤ c := by omega
  have d0 : (0 : Int) ≤ (s : Int) := by omega
  have d1 : (s : Int) ≤ (N : Int) := by omega
  have hN0 := hN
  clear hN
  by_cases hf : endOf l < N
  · obtain ⟨d, hd⟩ : ∃ d, endOf l = s + d := ⟨endOf l - s, by omega⟩
    have hcs : ¬ c = s := by omega
    rw [if_pos (by omega), hd, Nat.add_sub_cancel_left] at hidx
    have HT2 : Hid (Reads w (.slice (some ⟨b, o + s, none⟩) (N - s) (c - s)) (l.drop s)) := by
      have := HT.out
      rw [if_neg hcs] at this
      show Reads _ _ _
      simpa [Addr.add_lit] using this
    have HIX : Hid (∀ k, Calls Try.prog 22 #[.slice (some ⟨b, o + s, none⟩) (N - s) (c - s), .int .u8 10] (w.drewN k) fun e w' => e = .returned (.int .i64 (d : Int)) ∧ w.drewN k = w') := fun k => by
      have := pIdx (show Reads (w.drewN k) _ _ from HT2.out) 10
      rw [hidx] at this
      exact this
    have HL := Lib.hid hl
    obtain ⟨y, ends, hye⟩ : ∃ y ends, bareOf (l.take (s + d)) = (y, ends) := ⟨_, _, rfl⟩
    obtain ⟨hy1, hy2⟩ := bare_take (l.take (s + d))
    rw [hye] at hy1 hy2
    dsimp only at hy1 hy2
    have hy3 : y = l.take y.length := by
      have : y.length ≤ s + d := by rw [List.length_take] at hy2; omega
      rw [List.take_take, Nat.min_eq_left this] at hy1
      exact hy1
    have hy4 : y.length ≤ s + d := by rw [List.length_take] at hy2; omega
    obtain ⟨m, hm⟩ : ∃ m, m = y.length := ⟨_, rfl⟩
    rw [← hm] at hy3 hy4
    have HY := Lib.hid hy3
    have HM := Lib.hid hm
    have hcb := cut_bare (l.take (s + d))
    rw [hye] at hcb
    have hcv : ∀ k, (convert 32 32 (.slice (some ⟨w.heap.size, 0, none⟩) 1 1)).run Try.prog ((w.drewN k).alloc (.cells #[.int .u8 13] 5)) = .ok (.slice (some ⟨w.heap.size, 0, none⟩) 1 1) ((w.drewN k).alloc (.cells #[.int .u8 13] 5 (1, 2))) := fun k => conv_one (w.drewN k) 13
    have HCU : Hid (∀ k, Calls Try.prog 23 #[.slice (some ⟨b, o, none⟩) (s + d) c, .slice (some ⟨w.heap.size, 0, none⟩) 1 1] ((w.drewN k).alloc (.cells #[.int .u8 13] 5 (1, 2))) fun e w' => e = .returned (.tuple #[.slice (some ⟨b, o, none⟩) m c, .bool ends]) ∧ PdAt w' g (.slice (some ⟨b, o, none⟩) N c) most s l ∧ Below w.heap.size w w') := fun k => by
      have hb : Below w.heap.size w ((w.drewN k).alloc (.cells #[.int .u8 13] 5 (1, 2))) := (show Below w.heap.size w (w.drewN k) from ⟨rfl, rfl, rfl, Nat.le_refl _, fun _ _ => rfl⟩).alloc (Nat.le_refl _) _
      have hN := HN.out
      have hr := reads_cut (HRD.out.on hb) (s + d) (by omega)
      have := pCutS hr (one_reads (w.drewN k) 13) (by have := HN.out; rw [List.length_take]; omega)
      rw [show Lib.trimSuffix (l.take (s + d)) [13] = y from congrArg Prod.fst hcb, show Lib.hasSuffix (l.take (s + d)) [13] = ends from congrArg Prod.snd hcb] at this
      refine this.mono ?_
      rintro e w' ⟨rfl, rfl⟩
      refine ⟨by rw [HM.out], ?_, hb⟩
      have hp := HH.out
      rw [← HN.out] at hp
      exact hp.on hb.size (hb.block _ HG.out) fun q hq => hb.block _ (hp.2.1.ge q hq).2
    have HLT : Hid (lineTold most (l.take (s + d)) = tellOf most y ends) := by show _ = _; unfold lineTold; rw [hye]
    have HEN : Hid (endOf l = s + d) := hd
    have e0 : s + d < N := by omega
    have e1 : ((s : Int) + (d : Int)) + 1 ≤ (N : Int) := by omega
    have e2 : m ≤ c := by omega
    obtain ⟨V, hV⟩ : ∃ V, V = Value.slice (some ⟨b, o, none⟩) N c := ⟨_, rfl⟩
    have hVL : V = Value.slice (some ⟨b, o, none⟩) l.length c := by rw [hV, hN0]
    obtain ⟨code, hcode⟩ : ∃ code, code = (tellOf most y ends).2 := ⟨_, rfl⟩
    have HNX : Hid (∀ w1, PdAt w1 g (.slice (some ⟨b, o, none⟩) N c) most s l → Below w.heap.size w w1 → ∀ vt, OwnsT w1 0 vt (l.drop (s + d + 1)) → vt.ownBlock = some b →
        Calls Try.prog 24 #[.slice (some ⟨b, o, none⟩) (min (m : Int) (most : Int)).toNat c] ((w1.setCell ⟨g, 1, none⟩ vt).setCell ⟨g, 2, none⟩ (.int .i64 0)) fun e w4 => ∃ u, e = .returned u ∧
          Hid (Calls Try.prog 25 #[.pointer (some ⟨g, 0, none⟩), .slice (some ⟨b, o, none⟩) m c, .bool ends] w4 (fun e w' => e = .returned (.int .i64 (code : Int)) ∧ w4 = w')) ∧
          Hid (PNextEnd g V most l w (.returned (.tuple #[u, .int .i64 (code : Int), .bool true])) w4)) := fun w1 h1 h2 vt h3 h4 => by
      have := next_tail (by omega) (by rw [← hN0]; exact h1) h2 hd (by omega) hye hm vt h3 h4
      rw [← hcode, ← hVL] at this
      exact this
    have HTL : Hid (∀ w1, PdAt w1 g (.slice (some ⟨b, o, none⟩) N c) most s l → OwnsT w1 0 (.slice (if c = s + d + 1 then some ⟨b, o, none⟩ else some ⟨b, o + (s + d + 1), none⟩) (N - (s + d + 1)) (c - (s + d + 1))) (l.drop (s + d + 1))) := fun w1 h1 => by
      have h2 := h1.2.1
      rw [hN0] at h2
      have := h2.tail (k := s + d + 1) (by omega)
      rw [← hN0] at this
      simpa [Addr.add_lit] using this
    have HV := Lib.hid hV
    rw [← hV]
    clear hV hVL hcode hN0
    clear HT HT2 hidx hf hy1 hy2 hy3 hcb hye hd hm hel
    go_enter Try.func12, Try.ntmps12
    go_wp2_with fail
    go_quiet (first | (go_at_call 22; refine (HIX.out _).mono ?_; rintro e w' ⟨rfl, rfl⟩; exact ⟨rfl, _, rfl⟩) | fail)
    go_wp2_with (first | (go_at_call 23; refine (HCU.out _).mono ?_; rintro e w1 ⟨rfl, hp1, hb1⟩; refine Hid.out ?_) | (go_at_call 23; trace_state; fail))
    refine Lib.hid ?_
    clear c0 c1 c2 f0 f1 f2
    obtain ⟨c0, c1, c2, f0, f1, f2⟩ := three_cells hp1.1
    have HP1 := Lib.hid hp1
    have HB1 := Lib.hid hb1
    clear hp1 hb1 hcv HCU HIX
    by_cases hcap : c = s + d + 1
    · have hcapT : (c = s + d + 1) = True := eq_true hcap
      have HVT : Hid (OwnsT w1 0 (.slice (some ⟨b, o, none⟩) (N - (s + d + 1)) (c - (s + d + 1))) (l.drop (s + d + 1))) := by
        have := HTL.out w1 HP1.out
        rwa [if_pos hcap] at this
      have HN1 := Lib.hid (HNX.out w1 HP1.out HB1.out _ HVT.out rfl)
      clear hcap HTL HNX HVT
      go_wp2_with (first | (go_at_call 24; refine HN1.out.mono ?_; rintro e w4 ⟨u, rfl, hw4, hf4⟩; refine Hid.out ?_) | fail)
      refine Lib.hid ?_
      go_wp2_with (first | (go_at_call 25; refine hw4.out.mono ?_; rintro e w5 ⟨rfl, rfl⟩; refine Hid.out ?_) | fail)
      refine Lib.hid ?_
      go_wp2
      go_ret3
      exact hf4.out
    · have hcapT : (c = s + d + 1) = False := eq_false hcap
      have HVT : Hid (OwnsT w1 0 (.slice (some ⟨b, o + (s + d + 1), none⟩) (N - (s + d + 1)) (c - (s + d + 1))) (l.drop (s + d + 1))) := by
        have := HTL.out w1 HP1.out
        rwa [if_neg hcap] at this
      have HN1 := Lib.hid (HNX.out w1 HP1.out HB1.out _ HVT.out rfl)
      clear hcap HTL HNX HVT
      go_wp2_with (first | (go_at_call 24; refine HN1.out.mono ?_; rintro e w4 ⟨u, rfl, hw4, hf4⟩; refine Hid.out ?_) | fail)
      refine Lib.hid ?_
      go_wp2_with (first | (go_at_call 25; refine hw4.out.mono ?_; rintro e w5 ⟨rfl, rfl⟩; refine Hid.out ?_) | fail)
      refine Lib.hid ?_
      go_wp2
      go_ret3
      exact hf4.out
  · rw [if_neg (by omega)] at hidx
    have hE : endOf l = N := by omega
    have HFIN : Hid (∀ k, PNextEnd g (.slice (some ⟨b, o, none⟩) N c) most l w (.returned (.tuple #[.slice none 0 0, .int .i64 0, .bool false])) ((w.drewN k).setCell ⟨g, 2, none⟩ (.int .i64 (N : Int)))) := fun k => by
      show PNextEnd _ _ _ _ _ _ _
      unfold PNextEnd
      rw [if_neg (by omega), hN0]
      have hp : PdAt (w.drewN k) g (.slice (some ⟨b, o, none⟩) l.length c) most s l := HH.out
      refine ⟨rfl, ?_, hp.known _⟩
      have kd : KeepR g (.slice (some ⟨b, o, none⟩) l.length c) w (w.drewN k) := ⟨rfl, rfl, rfl, Nat.le_refl _, fun _ _ _ _ => rfl⟩
      exact kd.set 2 _
    by_cases hcs : c = s
    · have hcsT : (c = s) = True := eq_true hcs
      have HIX : Hid (∀ k, Calls Try.prog 22 #[.slice (some ⟨b, o, none⟩) (N - s) (c - s), .int .u8 10] (w.drewN k) fun e w' => e = .returned (.int .i64 (-1)) ∧ w.drewN k = w') := fun k => by
        have h2 := HT.out
        rw [if_pos hcs] at h2
        have := pIdx (show Reads (w.drewN k) _ _ from h2) 10
        rw [hidx] at this
        exact this
      clear HT hidx hf hcs hE hN0 hel hs
      go_enter Try.func12, Try.ntmps12
      go_wp2_with fail
      go_quiet (first | (go_at_call 22; refine (HIX.out _).mono ?_; rintro e w' ⟨rfl, rfl⟩; exact ⟨rfl, _, rfl⟩) | fail)
      go_wp2
      go_ret3
      exact HFIN.out _
    · have HIX : Hid (∀ k, Calls Try.prog 22 #[.slice (some ⟨b, o + s, none⟩) (N - s) (c - s), .int .u8 10] (w.drewN k) fun e w' => e = .returned (.int .i64 (-1)) ∧ w.drewN k = w') := fun k => by
        have h2 := HT.out
        rw [if_neg hcs] at h2
        have h3 : Reads w (.slice (some ⟨b, o + s, none⟩) (N - s) (c - s)) (l.drop s) := by simpa [Addr.add_lit] using h2
        have := pIdx (show Reads (w.drewN k) _ _ from h3) 10
        rw [hidx] at this
        exact this
      have hcsF : (c = s) = False := eq_false hcs
      clear HT hidx hf hE hN0 hel hs
      go_enter Try.func12, Try.ntmps12
      go_wp2_with fail
      go_quiet (first | (go_at_call 22; refine (HIX.out _).mono ?_; rintro e w' ⟨rfl, rfl⟩; exact ⟨rfl, _, rfl⟩) | fail)
      go_wp2
      go_ret3
      exact HFIN.out _
set_option maxHeartbeats 1600000 in
set_option maxRecDepth 100000 in
theorem pNextZ (g : Nat) (most : Nat) (w : World) (h : PdAt w g (.slice none 0 0) most 0 []) :
    Calls Try.prog 12 #[.pointer (some ⟨g, 0, none⟩)] w (PNextEnd g (.slice none 0 0) most [] w) := by
  obtain ⟨c0, c1, c2, f0, f1, f2⟩ := three_cells h.1
  have HFIN : Hid (∀ k, PNextEnd g (.slice none 0 0) most [] w (.returned (.tuple #[.slice none 0 0, .int .i64 0, .bool false])) ((w.drewN k).setCell ⟨g, 2, none⟩ (.int .i64 0))) := fun k => by
    show PNextEnd _ _ _ _ _ _ _
    unfold PNextEnd
    rw [if_neg (by simp)]
    have hp : PdAt (w.drewN k) g (.slice none 0 0) most 0 [] := h
    refine ⟨rfl, ?_, hp.known 0⟩
    have kd : KeepR g (.slice none 0 0) w (w.drewN k) := ⟨rfl, rfl, rfl, Nat.le_refl _, fun _ _ _ _ => rfl⟩
    exact kd.set 2 _
  have HIX : Hid (∀ k, Calls Try.prog 22 #[.slice none 0 0, .int .u8 10] (w.drewN k) fun e w' => e = .returned (.int .i64 (-1)) ∧ w.drewN k = w') := fun k => by
    have := pIdx (show Reads (w.drewN k) (.slice none 0 0) [] from Or.inl ⟨rfl, none, 0, rfl, fun _ => rfl⟩) 10
    exact this
  clear h
  go_enter Try.func12, Try.ntmps12
  go_wp2_with fail
  go_quiet (first | (go_at_call 22; refine (HIX.out _).mono ?_; rintro e w' ⟨rfl, rfl⟩; exact ⟨rfl, _, rfl⟩) | fail)
  go_wp2
  go_ret3
  exact HFIN.out _
theorem pNext (g : Nat) (v : Value) (most s : Nat) (l : List UInt8) (w : World) (hl : l.length ≤ 200000000000000) (h : PdAt w g v most s l) (hs : s ≤ endOf l) :
    Calls Try.prog 12 #[.pointer (some ⟨g, 0, none⟩)] w (PNextEnd g v most l w) := by
  have hh := h.2.1
  rcases hh with ⟨rfl, rfl⟩ | ⟨b, o, c, rfl, _⟩
  · have : s = 0 := by simpa [endOf] using hs
    subst this
    exact pNextZ g most w h
  · exact pNextA g b o c most s l w hl h hs
end Go.Proofs.Ytgiooblopdoobaa.Lines
