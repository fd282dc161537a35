/-
  RECORD: RecordDecodes returns true at every argument and leaves what was there.
-/
import Derived.Test.YthoeicidilnleaaDoorRecordDcMain
import Derived.Test.YthoeicidilnleaaDoorRecordTornWalk
namespace Go.Proofs.YthoeicidilnleaaDoor.Codec
open Go.RowKit

theorem decode_err {l : List UInt8} (h : (decodeF l).2 ≠ 0) : (decodeF l).1 = msg0 := by
  unfold decodeF at h ⊢
  split
  · rfl
  · split
    · rfl
    · split
      · rfl
      · split
        · rfl
        · split
          · rfl
          · split
            · rfl
            · split
              · rfl
              · rename_i h1 h2 h3 h4 h5 h6 h7
                rw [if_neg h1, if_neg h2, if_neg h3, if_neg h4, if_neg h5, if_neg h6, if_neg h7] at h
                exact absurd rfl h
theorem decode_fits (l : List UInt8) : Fits (decodeF l).1 := by
  rw [← refDec_eq]
  have f0 : Fits msg0 := ⟨by decide, by decide, by decide, (fun r hr => by cases hr), by decide, by decide⟩
  unfold refDec
  split
  · exact f0
  · split
    · exact f0
    · rename_i h1 _
      obtain ⟨v1, v2, v3, v4, v5, v6, v7⟩ := r12_valid (l := l) (by omega)
      refine ⟨by show (rM l).data.length ≤ _; omega, by show (rM l).rcpts.length ≤ _; omega, by show (rM l).sender.size ≤ _; omega, fun r hr => by have := v6 r hr; omega, by show _ ≤ (rM l).time; omega, by show (rM l).time ≤ _; omega⟩

theorem Owns.oldG {w : World} {B : Nat} {v : Value} {l : List UInt8} (h : Owns w B v l) : Old w.heap.size v := fun a ha => (h.ge a ha).2
/-- A message in blocks from H on. -/
def MRa (w : World) (H : Nat) (m : Msg) (A : Option Addr) (q : Nat) (D : Option Addr) (c : Nat) : Prop :=
  RR w A q m.rcpts ∧ Reads w (.slice D m.data.length c) m.data ∧ (∀ a, A = some a → H ≤ a.block) ∧ (∀ a, D = some a → H ≤ a.block)
theorem MRa.mr {w : World} {H : Nat} {m : Msg} {A : Option Addr} {q : Nat} {D : Option Addr} {c : Nat} (h : MRa w H m A q D c) : MR w (msgV m A q D c) m := ⟨A, q, D, c, rfl, h.1, h.2.1⟩
theorem MRa.on {w w' : World} {H : Nat} {m : Msg} {A : Option Addr} {q : Nat} {D : Option Addr} {c : Nat} (h : MRa w H m A q D c) (hb : Below w.heap.size w w') : MRa w' H m A q D c := ⟨h.1.on hb, h.2.1.on hb, h.2.2⟩
theorem MRa.set {w : World} {H : Nat} {m : Msg} {A : Option Addr} {q : Nat} {D : Option Addr} {c : Nat} (h : MRa w H m A q D c) {g : Nat} (hg : g < H) (i : Nat) (u : Value) : MRa (w.setCell ⟨g, i, none⟩ u) H m A q D c := by
  obtain ⟨h1, h2, h3, h4⟩ := h
  refine ⟨⟨h1.1, fun h0 => ?_⟩, ?_, h3, h4⟩
  · obtain ⟨b, o, rfl, hc⟩ := h1.2 h0
    have hb : H ≤ b := h3 _ rfl
    have e : ∀ k, (w.setCell ⟨g, i, none⟩ u).cell? ⟨b, k, none⟩ = w.cell? ⟨b, k, none⟩ := fun k => World.cell?_of_block (Below.heap_setCell w ⟨g, i, none⟩ u b (by show b ≠ g; omega))
    exact ⟨b, o, rfl, fun j hj => by rw [e, e]; exact hc j hj⟩
  · rcases h2 with h2 | ⟨b, o, c', he, hc, hcell⟩
    · exact Or.inl h2
    · have hb : H ≤ b := by
        injection he with e1
        exact h4 _ e1
      refine Or.inr ⟨b, o, c', he, hc, fun j hj => ?_⟩
      rw [World.cell?_of_block (Below.heap_setCell w ⟨g, i, none⟩ u b (by show b ≠ g; omega))]
      exact hcell j hj
def DecEnd (m : Msg) (z : Int) (w : World) (e : Ending) (w' : World) : Prop :=
  ∃ A q D c, e = .returned (.tuple #[msgV m A q D c, .int .i64 z]) ∧ MRa w' w.heap.size m A q D c ∧ Below w.heap.size w w'
theorem xDec (v : Value) (l : List UInt8) (w : World) (h : Reads w v l) (hl : l.length ≤ 140737488351232) :
    Calls Tryd.prog 16 #[v] w (DecEnd (decodeF l).1 (decodeF l).2 w) := by
  refine (xDecode v l w h hl).mono fun e w' ⟨A, q, D, c, he, ho, hw, hb⟩ => ?_
  rw [refDec_eq] at he ho hw
  exact ⟨A, q, D, c, he, ⟨ho.rr, hw.reads, fun a ha => (ho.ge a.block (by rw [ha]; rfl)).1, fun a ha => (hw.ge a.block (by rw [ha]; rfl)).1⟩, hb⟩
theorem cDec (v : Value) (l : List UInt8) (w : World) (h : Reads w v l) (ho : Old w.heap.size v) (hl : l.length ≤ 140737488351232) :
    Calls Tryd.prog 17 #[v] w (DecEnd (decodeF l).1 (decodeF l).2 w) := by
  refine (cDecode v l w h ho hl).mono fun e w' ⟨⟨V, h1, h2, h3⟩, h4⟩ => ?_
  by_cases hz : (decodeF l).2 = 0
  · have g := h2 hz
    have gm := g.mr
    obtain ⟨RV, b, cap, S, rfl, hr, hd, hc, hb, hB⟩ := g
    obtain ⟨A, q, rfl⟩ := hr.form'
    obtain ⟨A', c', D', e', heq, r1, r2⟩ := gm
    unfold msgV at heq
    simp only [Value.agg.injEq, Array.mk.injEq, List.cons.injEq, Value.slice.injEq, true_and, and_true] at heq
    obtain ⟨⟨rfl, rfl⟩, rfl, hs, rfl⟩ := heq
    refine ⟨A, q, some ⟨b, 0, none⟩, cap, ?_, ⟨r1, r2, fun a ha => (hr.ge a.block (by rw [ha]; rfl)).1, fun a ha => ?_⟩, h4⟩
    · rw [h1]; unfold msgV; rw [hs]
    · injection ha with ha; rw [← ha]; exact hB
  · have e0 := decode_err hz
    rw [h3 hz] at h1
    rw [e0]
    exact ⟨none, 0, none, 0, h1, ⟨⟨Nat.le_refl _, fun h => absurd h (by decide)⟩, Or.inl ⟨rfl, none, 0, rfl, fun _ => rfl⟩, (fun a ha => by cases ha), (fun a ha => by cases ha)⟩, h4⟩

set_option maxHeartbeats 2000000 in
set_option maxRecDepth 100000 in
theorem decodes_law (v : Value) (l : List UInt8) (W : World) (hr : Reads W v l) (hl : l.length ≤ 140737488351232) (htab : Tab W.heap.size W) :
    Calls Tryd.prog 4 #[v] W fun e w' => e = .returned (.bool true) ∧ Below W.heap.size W w' := by
  have S0 := Lib.hid (shown_any W htab)
  have hf := decode_fits l
  have K1 : Hid (∀ w, Reads w v l → Calls Tryd.prog 16 #[v] w (DecEnd (decodeF l).1 (decodeF l).2 w)) := fun w h => xDec v l w h hl
  have K2 : Hid (∀ v w, Reads w v l → Old w.heap.size v → Calls Tryd.prog 17 #[v] w (DecEnd (decodeF l).1 (decodeF l).2 w)) := fun v w h ho => cDec v l w h ho hl
  generalize (decodeF l).1 = m at *
  generalize (decodeF l).2 = z at *
  have KS := Lib.hid (fun va vb w h1 h2 => rSame va vb m w hf h1 h2)
  have HR := Lib.hid hr
  unfold DecEnd at K1 K2
  unfold msgV at K1 K2
  obtain ⟨A0, c0, rfl⟩ := hr.form
  obtain ⟨n, hn⟩ : ∃ n, n = l.length := ⟨_, rfl⟩
  have HN := Lib.hid hn
  have hl : n ≤ 140737488351232 := by omega
  clear hr htab hf
  rw [← hn] at K1 HR ⊢
  clear hn
  go_enter Tryd.func4, Tryd.ntmps4
  go_wp2_with (go_at_call 7; refine (S0.out).mono ?_; rintro ee w1 ⟨rfl, b1⟩; refine Hid.out ?_)
  refine Lib.hid ?_
  go_wp2_with (at_builtin; refine wp_append_reads _ rfl _ _ rfl w1.heap.size _ _ [] l rfl rfl (owns_new w1) ((HR.out.on b1).on (Below.alloc1 w1 _)) (by rw [← HN.out]; simp; omega) (by simp) ?_; intro v2 w2 own2 b2; refine Hid.out ?_)
  refine Lib.hid ?_
  rw [List.nil_append] at own2
  have k2 : Below W.heap.size W w2 := (b1.alloc b1.size _).trans (b2.mono b1.size)
  have s2 := b2.size
  obtain ⟨A2, c2, rfl⟩ := own2.reads.form
  rw [← HN.out] at own2
  rw [← HN.out]
  go_wp2_with (go_at_call 16; refine (K1.out _ (HR.out.on k2)).mono ?_; rintro ee w3 ⟨A3, q3, D3, c3, rfl, m3, b3⟩; refine Hid.out ?_)
  refine Lib.hid ?_
  have a4 : Below w3.heap.size w3 (w3.alloc (.cells #[.int .i64 m.time, .string m.sender, .slice A3 m.rcpts.length q3, .slice D3 m.data.length c3] 25)) := Below.alloc1 _ _
  have bx3 : BoxAt (w3.alloc (.cells #[.int .i64 m.time, .string m.sender, .slice A3 m.rcpts.length q3, .slice D3 m.data.length c3] 25)) w3.heap.size m.time m.sender (.slice A3 m.rcpts.length q3) (.slice D3 m.data.length c3) := BoxAt.new ..
  have k3 : Below w2.heap.size w2 (w3.alloc (.cells #[.int .i64 m.time, .string m.sender, .slice A3 m.rcpts.length q3, .slice D3 m.data.length c3] 25)) := b3.trans (a4.mono b3.size)
  have o3 := own2.on k3
  have R3 := Lib.hid o3.reads
  have N3 := Lib.hid o3.oldG
  have BX3 := Lib.hid bx3
  have M3 := Lib.hid (m3.on a4)
  have O3 := Lib.hid o3
  have s3 := b3.size
  clear bx3 m3 o3 a4
  go_wp2_with (go_at_call 17; refine (K2.out _ _ R3.out N3.out).mono ?_; rintro ee w5 ⟨A5, q5, D5, c5, rfl, m5, b5⟩; refine Hid.out ?_)
  refine Lib.hid ?_
  have a6 : Below w5.heap.size w5 (w5.alloc (.cells #[.int .i64 m.time, .string m.sender, .slice A5 m.rcpts.length q5, .slice D5 m.data.length c5] 25)) := Below.alloc1 _ _
  have b6 := b5.trans (a6.mono b5.size)
  have s5 : w3.heap.size + 1 ≤ w5.heap.size := by have := b5.size; simpa using this
  have O6 := Lib.hid (O3.out.on b6)
  have BX6 := Lib.hid (BX3.out.on b6 (by simp))
  have BY6 : Hid (BoxAt (w5.alloc (.cells #[.int .i64 m.time, .string m.sender, .slice A5 m.rcpts.length q5, .slice D5 m.data.length c5] 25)) w5.heap.size m.time m.sender (.slice A5 m.rcpts.length q5) (.slice D5 m.data.length c5)) := BoxAt.new ..
  have M6 := Lib.hid (M3.out.on b6)
  have P6 := Lib.hid (m5.on a6)
  have Z6 := Lib.hid (k2.trans ((k3.trans (b6.mono k3.size)).mono k2.size))
  have hs5 : w2.heap.size ≤ (w3.alloc (.cells #[.int .i64 m.time, .string m.sender, .slice A3 m.rcpts.length q3, .slice D3 m.data.length c3] 25)).heap.size := k3.size
  generalize (w3.alloc (.cells #[.int .i64 m.time, .string m.sender, .slice A3 m.rcpts.length q3, .slice D3 m.data.length c3] 25)).heap.size = H5 at P6 hs5
  have HS5 := Lib.hid hs5
  have hg : Hid (0 < n → ∃ g, A2 = some ⟨g, 0, none⟩ ∧ w1.heap.size ≤ g ∧ g < w2.heap.size) := fun h0 => by
    obtain ⟨g, c, he, h1, h2⟩ := own2.form (by rw [← HN.out]; exact h0)
    injection he with he
    exact ⟨g, he, h1, h2⟩
  have HW1 : Hid (W.heap.size ≤ w1.heap.size) := b1.size
  have HO6 : Hid (∃ l', l'.length = n ∧ Owns (w5.alloc (.cells #[.int .i64 m.time, .string m.sender, .slice A5 m.rcpts.length q5, .slice D5 m.data.length c5] 25)) w1.heap.size (.slice A2 n c2) l') := ⟨l, HN.out.symm, O6.out⟩
  clear m5 b5 a6 b6 own2 b2 b3 k3 k2 b1 R3 N3 M3 BX3 O3 O6 hs5
  go_wp2_with fail
  go_loopw [9] (fun i wr => ∃ k : Nat, k ≤ n ∧ i = .int .i64 k ∧ Hid (∃ l', l'.length = n ∧ Owns wr w1.heap.size (.slice A2 n c2) l') ∧ Hid (MRa wr w2.heap.size m A3 q3 D3 c3) ∧ Hid (MRa wr H5 m A5 q5 D5 c5) ∧ Hid (BoxAt wr w3.heap.size m.time m.sender (.slice A3 m.rcpts.length q3) (.slice D3 m.data.length c3)) ∧ Hid (BoxAt wr w5.heap.size m.time m.sender (.slice A5 m.rcpts.length q5) (.slice D5 m.data.length c5)) ∧ Hid (Below W.heap.size W wr)) (fun i _ => n - (intOf i).toNat)
  case atStart => exact ⟨0, by omega, rfl, HO6, M6, P6, BX6, BY6, Z6⟩
  case round =>
    obtain ⟨k, hk, rfl, hO, hM, hP, hX, hY, hZ⟩ := hrel
    by_cases hlt : k < n
    · obtain ⟨g, rfl, hg1, hg2⟩ := hg.out (by omega)
      obtain ⟨l', hl', ho⟩ := hO.out
      rw [← hl'] at ho
      have hfree := ho.free k
      have hcell := ho.cell k (by omega)
      have ho2 := ho.stored k 77 (by omega)
      rw [hl'] at ho2
      have hO2 : Hid (∃ l', l'.length = n ∧ Owns (wr.setCell ⟨g, k, none⟩ (.int .u8 77)) w1.heap.size (.slice (some ⟨g, 0, none⟩) n c2) l') := ⟨l'.set k 77, by rw [List.length_set]; exact hl', ho2⟩
      have hM2 := Lib.hid (hM.out.set hg2 k (.int .u8 77))
      have hP2 := Lib.hid (hP.out.set (Nat.lt_of_lt_of_le hg2 HS5.out) k (.int .u8 77))
      have hX2 := Lib.hid (hX.out.set (g := g) (by omega) k (.int .u8 77))
      have hY2 := Lib.hid (hY.out.set (g := g) (by omega) k (.int .u8 77))
      have hZ2 := Lib.hid (hZ.out.setCell (p := ⟨g, k, none⟩) (Nat.le_trans HW1.out hg1) (.int .u8 77))
      have b0 : (0 : Int) ≤ (k : Int) := by omega
      have b1 : (k : Int) < (n : Int) := by omega
      clear ho ho2 hl'
      go_wp2_with fail
      go_roundw
      case rel => exact ⟨k + 1, by omega, by go_num, hO2, hM2, hP2, hX2, hY2, hZ2⟩
      case measure => simp [intOf]; omega
    · obtain rfl : k = n := by omega
      obtain ⟨p0, p1, p2, p3⟩ := hX.out
      obtain ⟨t0, t1, t2, t3⟩ := hY.out
      clear hlt
      go_wp2_with (go_at_call 14; refine (KS.out _ _ _ hP.out.mr hM.out.mr).mono ?_; rintro ee w13 ⟨rfl, k13⟩; refine Hid.out ?_)
      refine Lib.hid ?_
      go_wp2
      go_ret
      exact ⟨rfl, hZ.out.trans (k13.mono hZ.out.size)⟩
end Go.Proofs.YthoeicidilnleaaDoor.Codec
