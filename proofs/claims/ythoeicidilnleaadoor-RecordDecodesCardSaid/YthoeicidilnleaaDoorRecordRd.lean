/-
  RECORD: the program's reader: its block, its frame, and the fixed bytes.
-/
import Derived.Test.YthoeicidilnleaaDoorRecordEnc
import Derived.Deep.QuietTactic
import Derived.BigQuiet
import Derived.IntWalk
namespace Go.Proofs.YthoeicidilnleaaDoor.Codec
open Go.RowKit

/-! ### How bytes are read, plainly: the fault (0: none), and what is left -/
def fixedF : List UInt8 → List UInt8 → Int × List UInt8
  | [], r => (0, r)
  | _ :: _, [] => (32, [])
  | c :: s, x :: r => if x = c then fixedF s r else (30, x :: r)

/-- The reader's block. -/
def Rd (w : World) (g : Nat) (bv : Value) (l rest : List UInt8) (mv : Value) (ml : List Nat) (B : Nat) : Prop :=
  ∃ at_ : Nat, at_ + rest.length = l.length ∧ rest = l.drop at_ ∧ w.heap[g]? = some (.cells #[bv, .int .i64 (at_ : Int), mv] 68 (0, 0)) ∧ Reads w bv l ∧ Marks w B mv ml ∧ B ≤ g
/-- What a step of the reader leaves: all below B, and all blocks but its own and rows of int. -/
def Keeps (g B : Nat) (w w' : World) : Prop := Below B w w' ∧ ∀ k cs t fz, w.heap[k]? = some (.cells cs t fz) → t ≠ 3 → k ≠ g → w'.heap[k]? = some (.cells cs t fz)
theorem heap_lt {w : World} {k : Nat} {o : Obj} (h : w.heap[k]? = some o) : k < w.heap.size := by
  rcases Nat.lt_or_ge k w.heap.size with h' | h'
  · exact h'
  · rw [Array.getElem?_eq_none h'] at h; cases h
theorem Keeps.refl (g B : Nat) (w : World) : Keeps g B w w := ⟨Below.refl _ _, fun _ _ _ _ h _ _ => h⟩
theorem Keeps.trans {g B : Nat} {w w1 w2 : World} (h : Keeps g B w w1) (h2 : Keeps g B w1 w2) : Keeps g B w w2 :=
  ⟨h.1.trans h2.1, fun k cs t fz hk ht hg => h2.2 k cs t fz (h.2 k cs t fz hk ht hg) ht hg⟩
theorem Keeps.of_below {g B : Nat} {w w' : World} (h : Below w.heap.size w w') (hB : B ≤ w.heap.size) : Keeps g B w w' :=
  ⟨h.mono hB, fun k cs t fz hk _ _ => by rw [h.block k (heap_lt hk)]; exact hk⟩
theorem Keeps.set {g B : Nat} {w : World} (hB : B ≤ g) (i : Nat) (u : Value) : Keeps g B w (w.setCell ⟨g, i, none⟩ u) :=
  ⟨(Below.refl _ _).setCell hB u, fun k cs t fz hk _ hg => by rw [Below.heap_setCell _ _ _ _ hg]; exact hk⟩
theorem Keeps.drewN {g B : Nat} {w : World} (n : Nat) : Keeps g B w (w.drewN n) := ⟨⟨rfl, rfl, rfl, Nat.le_refl _, fun _ _ => rfl⟩, fun _ _ _ _ h _ _ => h⟩

theorem Rd.cells {w : World} {g at_ : Nat} {bv mv : Value} (h : w.heap[g]? = some (.cells #[bv, .int .i64 (at_ : Int), mv] 68 (0, 0))) :
    w.cell? ⟨g, 0, none⟩ = some bv ∧ w.cell? ⟨g, 1, none⟩ = some (.int .i64 (at_ : Int)) ∧ w.cell? ⟨g, 2, none⟩ = some mv ∧ w.frozen? ⟨g, 1, none⟩ = false ∧ w.frozen? ⟨g, 2, none⟩ = false :=
  ⟨cell_of_row w g 0 _ _ _ h, cell_of_row w g 1 _ _ _ h, cell_of_row w g 2 _ _ _ h, by simp [World.frozen?, h], by simp [World.frozen?, h]⟩
/-- The place is set on. -/
theorem Rd.stepped {w : World} {g at_ : Nat} {bv mv : Value} (h : w.heap[g]? = some (.cells #[bv, .int .i64 (at_ : Int), mv] 68 (0, 0))) (z : Int) :
    (w.setCell ⟨g, 1, none⟩ (.int .i64 z)).heap[g]? = some (.cells #[bv, .int .i64 z, mv] 68 (0, 0)) := by
  rw [heap_setCell_same w g 1 _ _ _ h]; rfl
theorem Reads.kept {w w' : World} {v : Value} {l : List UInt8} {g B : Nat} (h : Reads w v l) (hk : Keeps g B w w') (hb : ∀ a, v.ownBlock = some a → a < B) : Reads w' v l := by
  rcases h with h | ⟨b, o, c, rfl, hc, hcell⟩
  · exact Or.inl h
  · refine Or.inr ⟨b, o, c, rfl, hc, fun i hi => ?_⟩
    rw [hk.1.cell (p := ⟨b, o + i, none⟩) (hb b rfl), hcell i hi]
theorem Marks.set_other {w : World} {B g i : Nat} {mv u : Value} {ml : List Nat} (h : Marks w B mv ml) {cs : Array Value} {t : TypeId} {fz : Nat × Nat} (hg : w.heap[g]? = some (.cells cs t fz)) (ht : t ≠ 3) : Marks (w.setCell ⟨g, i, none⟩ u) B mv ml := by
  refine ownsRow_setCell_other h ?_ _
  intro e
  rcases h.2 with ⟨rfl, _⟩ | ⟨g', cap, cur, rfl, _, h2, _⟩
  · simp [Value.ownBlock] at e
  · have : g' = g := by simpa [Value.ownBlock] using e
    subst this
    rw [hg] at h2
    injection h2 with h2
    injection h2 with _ h3
    exact ht h3

/-- The bytes lie in memory that was there. -/
def Old (B : Nat) (v : Value) : Prop := ∀ a, v.ownBlock = some a → a < B

set_option maxHeartbeats 1000000 in
set_option maxRecDepth 100000 in
theorem cFixed (g B : Nat) (s : ByteArray) (bv mv : Value) (l rest : List UInt8) (ml : List Nat) (w : World) (h : Rd w g bv l rest mv ml B) (hold : Old B bv) (hl : l.length ≤ 200000000000000) (hs : s.size ≤ 1000) :
    Calls Tryd.prog 41 #[.pointer (some ⟨g, 0, none⟩), .string s] w fun e w' => e = .returned (.int .i64 (fixedF s.data.toList rest).1) ∧ Rd w' g bv l (fixedF s.data.toList rest).2 mv ml B ∧ Keeps g B w w' := by
  have hsl : s.data.toList.length = s.size := Array.length_toList
  obtain ⟨out, ho⟩ : ∃ out, out = fixedF s.data.toList rest := ⟨_, rfl⟩
  rw [← ho]
  obtain ⟨cap, hcap, hcv⟩ := ref_bytes w s
  have hrow := reads_bytes w s cap hcap 5 ((bytesRow s cap).size, (bytesRow s cap).size + 1)
  have hB : B ≤ w.heap.size := by obtain ⟨a, _, _, hh, _, _, hb⟩ := h; have := heap_lt hh; omega
  have hk0 : Keeps g B w (w.drew.alloc (.cells (bytesRow s cap) 5 ((bytesRow s cap).size, (bytesRow s cap).size + 1))) := Keeps.of_below (((Below.refl _ _).drew).alloc (Nat.le_refl _) _) hB
  have hbk : (w.drew.alloc (.cells (bytesRow s cap) 5 ((bytesRow s cap).size, (bytesRow s cap).size + 1))).heap[w.heap.size]? = some (.cells (bytesRow s cap) 5 ((bytesRow s cap).size, (bytesRow s cap).size + 1)) := heap_alloc_new w.drew _
  have hR0 : Rd (w.drew.alloc (.cells (bytesRow s cap) 5 ((bytesRow s cap).size, (bytesRow s cap).size + 1))) g bv l rest mv ml B := by
    obtain ⟨a, e1, e2, hh, hr, hm, hb⟩ := h
    have hbl : Below w.heap.size w (w.drew.alloc (.cells (bytesRow s cap) 5 ((bytesRow s cap).size, (bytesRow s cap).size + 1))) := ((Below.refl _ _).drew).alloc (Nat.le_refl _) _
    exact ⟨a, e1, e2, by rw [hbl.block g (heap_lt hh)]; exact hh, hr.on hbl, hm.on hbl, hb⟩
  have hgne : w.heap.size ≠ g := by obtain ⟨a, _, _, hh, _, _, hb⟩ := h; have := heap_lt hh; omega
  have hrc : ∀ (wx : World), wx.heap[w.heap.size]? = some (.cells (bytesRow s cap) 5 ((bytesRow s cap).size, (bytesRow s cap).size + 1)) → ∀ k, k < s.size → wx.cell? ⟨w.heap.size, k, none⟩ = some (.int .u8 ((s.data.toList.getD k 0).toNat : Int)) := fun wx hx k hk => by
    have h1 := bytes_cell w s cap 5 ((bytesRow s cap).size, (bytesRow s cap).size + 1) hcap k hk
    rw [cell_of_row _ _ _ _ _ _ hbk] at h1
    rw [cell_of_row _ _ _ _ _ _ hx]; exact h1
  obtain ⟨w1, hw1⟩ : ∃ w1, w1 = (w.drew.alloc (.cells (bytesRow s cap) 5 ((bytesRow s cap).size, (bytesRow s cap).size + 1))) := ⟨_, rfl⟩
  rw [← hw1] at hcv hk0 hbk hR0
  have HRC := Lib.hid hrc
  have HO := Lib.hid ho
  have HL := Lib.hid hsl
  have HBK := Lib.hid hbk
  have HR0 := Lib.hid hR0
  have HOLD := Lib.hid hold
  clear hw1 hrow hrc ho hsl hbk hR0 h hold
  go_enter Tryd.func41, Tryd.ntmps41
  go_wp2
  go_loopw [10] (fun i wr => ∃ (k : Nat) (r : List UInt8), k ≤ s.size ∧ i = .int .i64 k ∧ Hid (Rd wr g bv l r mv ml B) ∧ Keeps g B w wr ∧ Hid (wr.heap[w.heap.size]? = some (.cells (bytesRow s cap) 5 ((bytesRow s cap).size, (bytesRow s cap).size + 1))) ∧ Hid (out = fixedF (s.data.toList.drop k) r)) (fun i _ => s.size - (intOf i).toNat)
  case atStart => exact ⟨0, rest, by omega, rfl, HR0, hk0, HBK, by unfold Hid; rw [HO.out]; rfl⟩
  case round =>
    obtain ⟨k, r, hk, rfl, hrd, hkp, hbk, hrun⟩ := hrel
    by_cases hlt : k < s.size
    · have hcs := HRC.out wr hbk.out k hlt
      have hdr : s.data.toList.drop k = s.data.toList.getD k 0 :: s.data.toList.drop (k + 1) := by
        rw [List.drop_eq_getElem_cons (by rw [HL.out]; exact hlt)]; simp [List.getD, List.getElem?_eq_getElem (show k < s.data.toList.length by rw [HL.out]; exact hlt)]
      have hrun2 := hrun.out
      rw [hdr] at hrun2
      generalize s.data.toList.getD k 0 = c at hcs hrun2
      obtain ⟨at_, e1, e2, hh, hr, hm, hb⟩ := hrd.out
      obtain ⟨q0, q1, q2, q3, q4⟩ := Rd.cells hh
      obtain ⟨A, cc, rfl⟩ := hr.form
      by_cases hend : at_ = l.length
      · have hr0 : r = [] := List.eq_nil_of_length_eq_zero (by omega)
        have HF : Hid (out = (32, [])) := by unfold Hid; rw [hrun2, hr0]; rfl
        have hR : Hid (∀ n, Rd (wr.drewN n) g (.slice A l.length cc) l [] mv ml B) := fun n => ⟨at_, by rw [← hr0]; exact e1, by rw [← hr0]; exact e2, hh, hr, hm, hb⟩
        have heq : ((at_ : Int) == (l.length : Int)) = true := by simp; omega
        clear hrun hrun2 hrd hdr e1 e2 hh hr hm hbk hr0 hend
        go_wp2
        go_quiet (fail)
        go_wp2
        go_ret
        obtain rfl : out = (32, []) := HF.out
        exact ⟨rfl, hR.out _, hkp.trans (Keeps.drewN _)⟩
      · have hlt2 : at_ < l.length := by omega
        have heq : ((at_ : Int) == (l.length : Int)) = false := by rw [beq_eq_false_iff_ne]; omega
        have hdx : r = l.getD at_ 0 :: l.drop (at_ + 1) := by
          rw [e2, List.drop_eq_getElem_cons hlt2]; simp [List.getD, List.getElem?_eq_getElem hlt2]
        have hx : ∃ b o, A = some ⟨b, o, none⟩ ∧ wr.cell? ⟨b, o + at_, none⟩ = some (.int .u8 ((l.getD at_ 0).toNat : Int)) := by
          rcases hr with ⟨h0, _⟩ | ⟨b, o, c', he, _, hcell⟩
          · rw [h0] at hlt2; simp at hlt2
          · cases he; exact ⟨b, o, rfl, hcell at_ hlt2⟩
        obtain ⟨xb, xo, rfl, hxc⟩ := hx
        have b0 : (0 : Int) ≤ (at_ : Int) := by omega
        have b1 : (at_ : Int) < (l.length : Int) := by omega
        have hw : IntKind.i64.wrap ((at_ : Int) + 1) = ((at_ + 1 : Nat) : Int) := by rw [IntWalk.i64_in _ (by omega)]; omega
        rw [hdx] at hrun2
        generalize l.getD at_ 0 = x at hxc hrun2 hdx
        by_cases hxe : x = c
        · have hb2 : (((x.toNat : Nat) : Int) != ((c.toNat : Nat) : Int)) = false := by rw [hxe]; simp
          have HF : Hid (out = fixedF (s.data.toList.drop (k + 1)) (l.drop (at_ + 1))) := by unfold Hid; rw [hrun2, fixedF, if_pos hxe]
          have hR : Hid (∀ n, Rd ((wr.drewN n).setCell ⟨g, 1, none⟩ (.int .i64 ((at_ : Int) + 1))) g (.slice (some ⟨xb, xo, none⟩) l.length cc) l (l.drop (at_ + 1)) mv ml B) := fun n => by
            refine ⟨at_ + 1, by simp; omega, rfl, ?_, ?_, ?_, hb⟩
            · rw [Rd.stepped (w := wr.drewN n) hh]; rfl
            · exact Reads.kept hr ((Keeps.drewN n).trans (Keeps.set hb _ _)) HOLD.out
            · exact Marks.set_other (w := wr.drewN n) hm hh (by decide)
          have hK : Hid (∀ n, Keeps g B w ((wr.drewN n).setCell ⟨g, 1, none⟩ (.int .i64 ((at_ : Int) + 1)))) := fun n => (hkp.trans (Keeps.drewN n)).trans (Keeps.set hb _ _)
          have hBK : Hid (∀ n, ((wr.drewN n).setCell ⟨g, 1, none⟩ (.int .i64 ((at_ : Int) + 1))).heap[w.heap.size]? = some (.cells (bytesRow s cap) 5 ((bytesRow s cap).size, (bytesRow s cap).size + 1))) := fun n => by
            rw [Below.heap_setCell _ _ _ _ hgne]; exact hbk.out
          clear hrun hrun2 hrd hdr e1 e2 hh hr hm hbk hdx hxe hend hkp
          go_wp2
          go_quiet (fail)
          go_wp2
          go_quiet (fail)
          go_wp2
          go_roundw
          case rel => exact ⟨k + 1, _, by omega, by go_num, hR.out _, hK.out _, hBK.out _, HF⟩
          case measure => simp [intOf]; omega
        · have hb2 : (((x.toNat : Nat) : Int) != ((c.toNat : Nat) : Int)) = true := by
            simp only [bne_iff_ne, ne_eq]; intro e; exact hxe (UInt8.toNat_inj.1 (by omega))
          have HF : Hid (out = (30, r)) := by unfold Hid; rw [hrun2, fixedF, if_neg hxe, hdx]
          have hR : Hid (∀ n n', Rd ((wr.drewN n).drewN n') g (.slice (some ⟨xb, xo, none⟩) l.length cc) l r mv ml B) := fun n n' => ⟨at_, e1, e2, hh, hr, hm, hb⟩
          clear hrun hrun2 hrd hdr e1 e2 hh hr hm hbk hdx hxe hend
          go_wp2
          go_quiet (fail)
          go_wp2
          go_quiet (fail)
          go_wp2
          go_ret
          obtain rfl : out = (30, r) := HF.out
          exact ⟨rfl, hR.out _ _, (hkp.trans (Keeps.drewN _)).trans (Keeps.drewN _)⟩
    · obtain rfl : k = s.size := by omega
      have HF : Hid (out = (0, r)) := by
        unfold Hid; rw [hrun.out, List.drop_eq_nil_of_le (by rw [HL.out]; omega)]; rfl
      clear hrun
      go_wp2
      go_ret
      obtain rfl : out = (0, r) := HF.out
      exact ⟨rfl, hrd.out, hkp⟩

/-! ### Numbers, texts -/
def numF (r : List UInt8) : Int × Int × List UInt8 := if (takeNumber r).2.2 = 0 then ((takeNumber r).1, 0, r.drop (takeNumber r).2.1.toNat) else (0, toldOf (takeNumber r).2.2, r)
def textF (r : List UInt8) : List UInt8 × Int × List UInt8 := if (takeText r).2.2 = 0 then ((takeText r).1, 0, r.drop (takeText r).2.1.toNat) else ([], toldOf (takeText r).2.2, r)
theorem takeNumber_cases (r : List UInt8) : (∃ z, 0 < z ∧ z < 30 ∧ takeNumber r = (0, 0, z)) ∨ ∃ n k : Nat, n ≤ 9007199254740992 ∧ 1 ≤ k ∧ k ≤ r.length ∧ takeNumber r = ((n : Int), (k : Int), 0) := by
  have hb := take_bounds 59 16 9007199254740992 r 0 0 (by omega)
  unfold takeNumber
  generalize takeFrom 59 16 9007199254740992 r 0 0 = t at hb ⊢
  obtain ⟨t1, t2, t3⟩ := t
  dsimp only at hb ⊢
  rcases hb with ⟨rfl, rfl, h1, h2⟩ | ⟨h1, h2, _, h3, h4, rfl⟩
  · exact Or.inl ⟨t3, h1, h2, rfl⟩
  · obtain ⟨n, rfl⟩ := Int.eq_ofNat_of_zero_le h1
    obtain ⟨k, rfl⟩ := Int.eq_ofNat_of_zero_le (show 0 ≤ t2 by omega)
    exact Or.inr ⟨n, k, by omega, by omega, by omega, rfl⟩
theorem takeText_cases (r : List UInt8) : (∃ z, 0 < z ∧ z < 30 ∧ takeText r = ([], 0, z)) ∨ ∃ (t : List UInt8) (k : Nat), t.length ≤ 1048576 ∧ 1 ≤ k ∧ k ≤ r.length ∧ takeText r = (t, (k : Int), 0) := by
  rcases text_ways r with ⟨z, h1, h2, _, h3⟩ | ⟨n, k, h1, h2, h3, _, h | h | ⟨h4, _, h5⟩⟩
  · exact Or.inl ⟨z, h1, h2, h3⟩
  · exact Or.inl ⟨20, by omega, by omega, h.2⟩
  · exact Or.inl ⟨21, by omega, by omega, h.2.2⟩
  · exact Or.inr ⟨(r.drop k).take n, k + n + 1, by have := List.length_take_le n (r.drop k); omega, by omega, by omega, by rw [h5]; rfl⟩
theorem toldOf_pos {z : Int} (h : 0 < z) : toldOf z ≠ 0 := by unfold toldOf; rw [if_neg (by omega)]; split <;> omega

end Go.Proofs.YthoeicidilnleaaDoor.Codec
