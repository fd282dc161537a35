/-
  RECORD: the document's reader: its block, its frame, and its steps.
-/
import Derived.Test.YthoeicidilnleaaDoorRecordDecsF
import Derived.Test.YthoeicidilnleaaDoorRecordCopyOwn
namespace Go.Proofs.YthoeicidilnleaaDoor.Codec
open Go.RowKit

/-- What a step of the document's reader leaves: all blocks but its own. -/
structure KeepX (g : Nat) (w w' : World) : Prop where
  os : w'.os = w.os
  tape : w'.tape = w.tape
  output : w'.output = w.output
  size : w.heap.size ≤ w'.heap.size
  block : ∀ k, k < w.heap.size → k ≠ g → w'.heap[k]? = w.heap[k]?
theorem KeepX.refl (g : Nat) (w : World) : KeepX g w w := ⟨rfl, rfl, rfl, Nat.le_refl _, fun _ _ _ => rfl⟩
theorem KeepX.trans {g : Nat} {w w1 w2 : World} (h : KeepX g w w1) (h2 : KeepX g w1 w2) : KeepX g w w2 :=
  ⟨h2.os.trans h.os, h2.tape.trans h.tape, h2.output.trans h.output, Nat.le_trans h.size h2.size, fun k hk hg => (h2.block k (Nat.lt_of_lt_of_le hk h.size) hg).trans (h.block k hk hg)⟩
theorem KeepX.of_below {g : Nat} {w w' : World} (h : Below w.heap.size w w') : KeepX g w w' := ⟨h.os, h.tape, h.output, h.size, fun k hk _ => h.block k hk⟩
theorem KeepX.drewN {g : Nat} {w : World} (n : Nat) : KeepX g w (w.drewN n) := ⟨rfl, rfl, rfl, Nat.le_refl _, fun _ _ _ => rfl⟩
theorem KeepX.set (g : Nat) (w : World) (i : Nat) (u : Value) : KeepX g w (w.setCell ⟨g, i, none⟩ u) := by
  have b : Below 0 w (w.setCell ⟨g, i, none⟩ u) := (Below.refl _ _).setCell (Nat.zero_le _) u
  exact ⟨b.os, b.tape, b.output, b.size, fun k _ hg => Below.heap_setCell _ _ _ _ hg⟩
theorem KeepX.below {g B : Nat} {w w' : World} (h : KeepX g w w') (hB : B ≤ g) (hg : g < w.heap.size) : Below B w w' :=
  ⟨h.os, h.tape, h.output, h.size, fun k hk => h.block k (by omega) (by omega)⟩

/-- The document's reader's block. -/
def Sx (w : World) (g : Nat) (s : St) (B : Nat) : Prop := ∃ bv, w.heap[g]? = some (.cells #[bv, .int .i64 s.2] 58 (0, 0)) ∧ Reads w bv s.1 ∧ (s.1 ≠ [] → Old B bv) ∧ B ≤ g
theorem Sx.cells {w : World} {g : Nat} {bv z : Value} (h : w.heap[g]? = some (.cells #[bv, z] 58 (0, 0))) :
    w.cell? ⟨g, 0, none⟩ = some bv ∧ w.cell? ⟨g, 1, none⟩ = some z ∧ w.frozen? ⟨g, 0, none⟩ = false ∧ w.frozen? ⟨g, 1, none⟩ = false :=
  ⟨cell_of_row w g 0 _ _ _ h, cell_of_row w g 1 _ _ _ h, by simp [World.frozen?, h], by simp [World.frozen?, h]⟩
theorem Reads.keptX {w w' : World} {v : Value} {l : List UInt8} {g B : Nat} (h : Reads w v l) (hk : KeepX g w w') (hb : l ≠ [] → Old B v) (hB : B ≤ g) (hg : g < w.heap.size) : Reads w' v l := by
  rcases h with h | ⟨b, o, c, rfl, hc, hcell⟩
  · exact Or.inl h
  · refine Or.inr ⟨b, o, c, rfl, hc, fun i hi => ?_⟩
    have := hb (fun e => by rw [e] at hi; simp at hi) b rfl
    rw [World.cell?_of_block (hk.block b (by omega) (by omega)), hcell i hi]
theorem Sx.lt {w : World} {g B : Nat} {s : St} (h : Sx w g s B) : B ≤ g ∧ g < w.heap.size := by
  obtain ⟨bv, hh, _, _, hB⟩ := h; exact ⟨hB, heap_lt hh⟩
theorem Sx.on {w w' : World} {g B : Nat} {s : St} (h : Sx w g s B) (hb : Below w.heap.size w w') : Sx w' g s B := by
  obtain ⟨bv, hh, hr, ho, hB⟩ := h
  exact ⟨bv, by rw [hb.block g (heap_lt hh)]; exact hh, hr.on hb, ho, hB⟩
theorem Sx.drewN {w : World} {g B : Nat} {s : St} (h : Sx w g s B) (n : Nat) : Sx (w.drewN n) g s B := h.on ⟨rfl, rfl, rfl, Nat.le_refl _, fun _ _ => rfl⟩
/-- The fault is set. -/
theorem Sx.fault {w : World} {g B : Nat} {s : St} (h : Sx w g s B) (z : Int) : Sx (w.setCell ⟨g, 1, none⟩ (.int .i64 z)) g (s.1, z) B := by
  have hl := h.lt
  obtain ⟨bv, hh, hr, ho, hB⟩ := h
  refine ⟨bv, by rw [heap_setCell_same w g 1 _ _ _ hh]; rfl, hr.keptX (KeepX.set g w 1 _) ho hB hl.2, ho, hB⟩
/-- The bytes are set on. -/
theorem Sx.moved {w : World} {g B : Nat} {s : St} (h : Sx w g s B) {bv : Value} {r : List UInt8} (hr : Reads w bv r) (ho : r ≠ [] → Old B bv) : Sx (w.setCell ⟨g, 0, none⟩ bv) g (r, s.2) B := by
  have hl := h.lt
  obtain ⟨bv', hh, _, _, hB⟩ := h
  refine ⟨bv, by rw [heap_setCell_same w g 0 _ _ _ hh]; rfl, hr.keptX (KeepX.set g w 0 _) ho hB hl.2, ho, hB⟩
theorem Old.tail {B : Nat} {A : Option Addr} {n c k n' c' : Nat} (h : Old B (.slice A n c)) : Old B (.slice (if c = k then A else Option.map (fun x => x.add k) A) n' c') := by
  intro a ha
  cases A with
  | none => split at ha <;> simp [Value.ownBlock] at ha
  | some b =>
    refine h a ?_
    split at ha
    · exact ha
    · simp only [Option.map_some, Value.ownBlock, Option.some.injEq, Addr.add] at ha ⊢
      split at ha <;> exact ha
theorem OldN.tail {B : Nat} {A : Option Addr} {n c k n' c' : Nat} {l : List UInt8} (h : l ≠ [] → Old B (.slice A n c)) : l.drop k ≠ [] → Old B (.slice (if c = k then A else Option.map (fun x => x.add k) A) n' c') :=
  fun hd => (h fun e => hd (by rw [e]; simp)).tail

set_option maxHeartbeats 1000000 in
set_option maxRecDepth 100000 in
theorem xFail (g B : Nat) (z : Int) (s : St) (w : World) (h : Sx w g s B) :
    Calls Tryd.prog 37 #[.pointer (some ⟨g, 0, none⟩), .int .i64 z] w fun e w' => (∃ r, e = .returned r) ∧ Sx w' g (sFail z s) B ∧ KeepX g w w' := by
  obtain ⟨bv, hh, _⟩ := id h
  obtain ⟨c0, c1, f0, f1⟩ := Sx.cells hh
  by_cases h0 : s.2 = 0
  · have e0 : (s.2 == 0) = true := by simpa using h0
    have HR : Hid (∀ n, Sx ((w.drewN n).setCell ⟨g, 1, none⟩ (.int .i64 z)) g (sFail z s) B) := fun n => by
      have := (h.drewN n).fault z
      rwa [show (s.1, z) = sFail z s by unfold sFail; rw [if_pos h0]] at this
    have HR0 : Hid (Sx (w.setCell ⟨g, 1, none⟩ (.int .i64 z)) g (sFail z s) B) := HR 0
    generalize sFail z s = S' at *
    clear h hh h0
    go_enter Tryd.func37, Tryd.ntmps37
    go_wp2
    exact bodyPost_end (results_none rfl _ _ _) rfl ⟨⟨_, rfl⟩, HR0.out, KeepX.set _ _ _ _⟩
  · have e0 : (s.2 == 0) = false := by simpa using h0
    have HR : Hid (Sx w g (sFail z s) B) := by unfold Hid; unfold sFail; rw [if_neg h0]; exact h
    generalize sFail z s = S' at *
    clear h hh h0
    go_enter Tryd.func37, Tryd.ntmps37
    go_wp2
    exact bodyPost_end (results_none rfl _ _ _) rfl ⟨⟨_, rfl⟩, HR.out, KeepX.refl _ _⟩

set_option maxHeartbeats 1000000 in
set_option maxRecDepth 100000 in
theorem xTook (g B : Nat) (n : Nat) (z : Int) (s : St) (w : World) (h : Sx w g s B) (hn : n ≤ s.1.length ∨ z ≠ 0) :
    Calls Tryd.prog 40 #[.pointer (some ⟨g, 0, none⟩), .int .i64 n, .int .i64 z] w fun e w' => (∃ r, e = .returned r) ∧ Sx w' g (sTook n z s) B ∧ KeepX g w w' := by
  obtain ⟨bv, hh, hr, ho, _⟩ := id h
  obtain ⟨c0, c1, f0, f1⟩ := Sx.cells hh
  by_cases h0 : s.2 = 0
  · have e0 : (s.2 != 0) = false := by simpa using h0
    by_cases h20 : z = 20
    · subst h20
      have HR : Hid (Sx (w.setCell ⟨g, 1, none⟩ (.int .i64 32)) g (sTook n 20 s) B) := by
        have := h.fault 32
        rwa [show (s.1, (32 : Int)) = sTook n 20 s by unfold sTook; rw [if_pos h0, if_neg (by decide)]; rfl] at this
      generalize sTook n 20 s = S' at *
      clear h hh hr ho h0 hn
      go_enter Tryd.func40, Tryd.ntmps40
      go_wp2
      exact bodyPost_end (results_none rfl _ _ _) rfl ⟨⟨_, rfl⟩, HR.out, KeepX.set _ _ _ _⟩
    · have e20 : (z == 20) = false := by simpa using h20
      by_cases hz : z = 0
      · subst hz
        have hn : n ≤ s.1.length := by rcases hn with hn | hn; exact hn; exact absurd rfl hn
        obtain ⟨A, c, rfl⟩ := hr.form
        have ht := hr.tail hn
        have hcl : s.1.length ≤ c := by
          rcases hr with ⟨h0, _⟩ | ⟨b, o, c', he, h2, _⟩
          · rw [h0]; simp
          · cases he; exact h2
        have HR := Lib.hid (h.moved ht (OldN.tail ho))
        rw [h0] at HR
        have hs : sTook n 0 s = (s.1.drop n, 0) := by unfold sTook; rw [if_pos h0, if_pos rfl, Int.toNat_natCast]
        rw [← hs] at HR
        generalize sTook n 0 s = S' at *
        have n0 : (0 : Int) ≤ (n : Int) := by omega
        have n1 : (n : Int) ≤ (s.1.length : Int) := by omega
        have n2 : (s.1.length : Int) ≤ (c : Int) := by omega
        clear h hh hr ho h0 ht hs
        by_cases hc : c = n
        · rw [if_pos hc] at HR
          subst hc
          simp only [Nat.sub_self, show s.1.length - c = 0 by omega] at HR
          go_enter Tryd.func40, Tryd.ntmps40
          go_wp2
          exact bodyPost_end (results_none rfl _ _ _) rfl ⟨⟨_, rfl⟩, HR.out, KeepX.set _ _ _ _⟩
        · rw [if_neg hc] at HR
          go_enter Tryd.func40, Tryd.ntmps40
          go_wp2
          exact bodyPost_end (results_none rfl _ _ _) rfl ⟨⟨_, rfl⟩, HR.out, KeepX.set _ _ _ _⟩
      · have ez : (z != 0) = true := by simpa using hz
        have HR : Hid (Sx (w.setCell ⟨g, 1, none⟩ (.int .i64 30)) g (sTook n z s) B) := by
          have := h.fault 30
          rwa [show (s.1, (30 : Int)) = sTook n z s by unfold sTook toldOf; rw [if_pos h0, if_neg hz, if_neg hz, if_neg h20]] at this
        generalize sTook n z s = S' at *
        clear h hh hr ho h0 hn
        go_enter Tryd.func40, Tryd.ntmps40
        go_wp2
        exact bodyPost_end (results_none rfl _ _ _) rfl ⟨⟨_, rfl⟩, HR.out, KeepX.set _ _ _ _⟩
  · have e0 : (s.2 != 0) = true := by simpa using h0
    have HR : Hid (Sx w g (sTook n z s) B) := by unfold Hid; rw [sTook_st h0]; exact h
    generalize sTook n z s = S' at *
    clear h hh hr ho h0 hn
    go_enter Tryd.func40, Tryd.ntmps40
    go_wp2
    exact bodyPost_ret (results_none rfl _ _ _) rfl ⟨⟨_, rfl⟩, HR.out, KeepX.refl _ _⟩

set_option maxHeartbeats 1000000 in
set_option maxRecDepth 100000 in
theorem xFixed (g B : Nat) (s : ByteArray) (st : St) (w : World) (h : Sx w g st B) (hl : st.1.length ≤ 200000000000000) (hs : s.size ≤ 1000) :
    Calls Tryd.prog 34 #[.pointer (some ⟨g, 0, none⟩), .string s] w fun e w' => (∃ r, e = .returned r) ∧ Sx w' g (sFixed s.data.toList st) B ∧ KeepX g w w' := by
  have hsl : s.data.toList.length = s.size := Array.length_toList
  obtain ⟨out, ho⟩ : ∃ out, out = sFixed s.data.toList st := ⟨_, rfl⟩
  rw [← ho]
  have HO := Lib.hid ho
  have HL := Lib.hid hsl
  have HS := Lib.hid h
  clear ho hsl h
  go_enter Tryd.func34, Tryd.ntmps34
  go_wp2
  go_loopw [4] (fun i wr => ∃ (k : Nat) (u : St), k ≤ s.size ∧ i = .int .i64 k ∧ Hid (Sx wr g u B) ∧ KeepX g w wr ∧ Hid (out = sFixed (s.data.toList.drop k) u) ∧ Hid (u.1.length ≤ 200000000000000)) (fun i _ => s.size - (intOf i).toNat)
  case atStart => exact ⟨0, st, by omega, rfl, HS, KeepX.refl _ _, HO, hl⟩
  case round =>
    obtain ⟨k, u, hk, rfl, hrd, hkp, hrun, hul⟩ := hrel
    obtain ⟨bv, hh, hr, ho, _⟩ := id hrd.out
    obtain ⟨c0, c1, f0, f1⟩ := Sx.cells hh
    obtain ⟨A, cc, rfl⟩ := hr.form
    by_cases hlt : k < s.size
    · have hdr : s.data.toList.drop k = s.data.toList.getD k 0 :: s.data.toList.drop (k + 1) := by
        rw [List.drop_eq_getElem_cons (by rw [HL.out]; exact hlt)]; simp [List.getD, List.getElem?_eq_getElem (show k < s.data.toList.length by rw [HL.out]; exact hlt)]
      obtain ⟨x, hx⟩ : ∃ x : Int, x = ((s.data.toList.getD k 0).toNat : Int) := ⟨_, rfl⟩
      have hidx : ((s[k]'hlt).toNat : Int) = x := by rw [hx]; congr 2; simp [List.getD, List.getElem?_eq_getElem (show k < s.data.toList.length by have := HL.out; omega)]; rfl
      have hrun2 := hrun.out
      rw [hdr] at hrun2
      generalize s.data.toList.getD k 0 = c at hx hrun2 hdr
      by_cases h0 : u.2 = 0
      · have e0 : (u.2 == 0) = true := by simpa using h0
        obtain ⟨u1, u2⟩ := u
        dsimp only at *
        subst h0
        cases u1 with
        | nil =>
          have hF := hrd.out.fault 32
          have HF : Hid (∀ n, Sx ((wr.drewN n).setCell ⟨g, 1, none⟩ (.int .i64 32)) g ([], 32) B) := fun n => (hrd.out.drewN n).fault 32
          have HR : Hid (out = sFixed (s.data.toList.drop (k + 1)) ([], 32)) := by
            unfold Hid; rw [hrun2, sFixed_0, sFixed_st (by simp)]; rfl
          have HK : Hid (∀ n, KeepX g w ((wr.drewN n).setCell ⟨g, 1, none⟩ (.int .i64 32))) := fun n => (hkp.trans (KeepX.drewN n)).trans (KeepX.set _ _ _ _)
          clear hrd hh hr ho hdr hrun hrun2 hF hkp hx hul
          go_wp2
          go_roundw
          case rel => exact ⟨k + 1, _, by omega, by go_num, HF.out 0, HK.out 0, HR, by unfold Hid; simp⟩
          case measure => simp [intOf]; omega
        | cons d r =>
          obtain ⟨y, hy⟩ : ∃ y : Int, y = (d.toNat : Int) := ⟨_, rfl⟩
          have hcell : ∃ b o, A = some ⟨b, o, none⟩ ∧ wr.cell? ⟨b, o, none⟩ = some (.int .u8 y) ∧ r.length + 1 ≤ cc := by
            rcases hr with ⟨h0, _⟩ | ⟨b, o, c', he, h2, hcell⟩
            · exact absurd h0 (by simp)
            · cases he
              have := hcell 0 (by simp)
              rw [hy]
              exact ⟨b, o, rfl, by simpa using this, by simpa using h2⟩
          obtain ⟨b, o, rfl, hc, hcap⟩ := hcell
          by_cases hxy : d = c
          · subst hxy
            obtain rfl : y = x := by rw [hx, hy]
            have ht := hr.tail (at_ := 1) (by simp)
            have HF := Lib.hid (fun n => (hrd.out.drewN n).moved (w := wr.drewN n) ht (OldN.tail ho))
            have HR : Hid (out = sFixed (s.data.toList.drop (k + 1)) (r, 0)) := by
              unfold Hid; rw [hrun2, sFixed_0, sFixed_0, fixedF, if_pos rfl]
            have HK : Hid (∀ n u, KeepX g w ((wr.drewN n).setCell ⟨g, 0, none⟩ u)) := fun n _ => (hkp.trans (KeepX.drewN n)).trans (KeepX.set _ _ _ _)
            have HL2 : Hid (r.length ≤ 200000000000000) := by have := hul.out; simp at this; unfold Hid; omega
            have n1 : (1 : Int) ≤ (((d :: r).length : Nat) : Int) := by simp; omega
            have n2 : (((d :: r).length : Nat) : Int) ≤ (cc : Int) := by simp; omega
            simp only [List.drop_succ_cons, List.drop_zero] at HF
            generalize hle : (d :: r).length = len at *
            have hlen : len ≠ 0 := by rw [← hle]; simp
            have e4 : ((len : Int) == 0) = false := by rw [beq_eq_false_iff_ne]; omega
            clear hrd hh hr ho hdr hrun hrun2 hkp hx hy hul ht hle
            by_cases hcc : cc = 1
            · rw [if_pos hcc] at HF
              subst hcc
              obtain rfl : len = 1 := by omega
              go_wp2
              go_quiet (fail)
              go_wp2
              go_roundw
              case rel => exact ⟨k + 1, _, by omega, by go_num, HF.out _, HK.out _ _, HR, HL2⟩
              case measure => simp [intOf]; omega
            · rw [if_neg hcc] at HF
              go_wp2
              go_quiet (fail)
              go_wp2
              go_roundw
              case rel => exact ⟨k + 1, _, by omega, by go_num, HF.out _, HK.out _ _, HR, HL2⟩
              case measure => simp [intOf]; omega
          · have hb2 : (y != x) = true := by
              simp only [bne_iff_ne, ne_eq]; intro e; exact hxy (UInt8.toNat_inj.1 (by omega))
            have HF : Hid (∀ n, Sx ((wr.drewN n).setCell ⟨g, 1, none⟩ (.int .i64 30)) g (d :: r, 30) B) := fun n => (hrd.out.drewN n).fault 30
            have HR : Hid (out = sFixed (s.data.toList.drop (k + 1)) (d :: r, 30)) := by
              unfold Hid; rw [hrun2, sFixed_0, sFixed_st (by simp), fixedF, if_neg hxy]
            have HK : Hid (∀ n, KeepX g w ((wr.drewN n).setCell ⟨g, 1, none⟩ (.int .i64 30))) := fun n => (hkp.trans (KeepX.drewN n)).trans (KeepX.set _ _ _ _)
            have n1 : (1 : Int) ≤ (((d :: r).length : Nat) : Int) := by simp; omega
            have n2 : (((d :: r).length : Nat) : Int) ≤ (cc : Int) := by simp; omega
            generalize hle : (d :: r).length = len at *
            have hlen : len ≠ 0 := by rw [← hle]; simp
            have e4 : ((len : Int) == 0) = false := by rw [beq_eq_false_iff_ne]; omega
            have HL2 : Hid ((d :: r).length ≤ 200000000000000) := by unfold Hid; rw [hle]; exact hul.out
            clear hrd hh hr ho hdr hrun hrun2 hkp hx hy hul hle
            go_wp2
            go_quiet (fail)
            go_wp2
            go_roundw
            case rel => exact ⟨k + 1, _, by omega, by go_num, HF.out _, HK.out _, HR, HL2⟩
            case measure => simp [intOf]; omega
      · have e0 : (u.2 == 0) = false := by simpa using h0
        have HF : Hid (out = u) := by unfold Hid; rw [hrun2, sFixed_st h0]
        clear hh hr ho hdr hrun hrun2 hx
        go_wp2
        obtain rfl : out = u := HF.out
        exact bodyPost_end (results_none rfl _ _ _) rfl ⟨⟨_, rfl⟩, hrd.out, hkp⟩
    · obtain rfl : k = s.size := by omega
      have HF : Hid (out = u) := by
        unfold Hid; rw [hrun.out, List.drop_eq_nil_of_le (by rw [HL.out]; omega)]
        unfold sFixed; split
        · rename_i h0
          rw [show u = (u.1, u.2) by rfl, h0]; rfl
        · rfl
      clear hh hr ho hrun
      go_wp2
      obtain rfl : out = u := HF.out
      exact bodyPost_end (results_none rfl _ _ _) rfl ⟨⟨_, rfl⟩, hrd.out, hkp⟩
end Go.Proofs.YthoeicidilnleaaDoor.Codec
