/-
  The document's Open.
-/
import Derived.Test.YtfmphhcdbocgnaaRefNew
import Derived.Deep.DeepMust
import Derived.Deep.AppendLies
namespace Go.Proofs.Ytfmphhcdbocgnaa.Pipe
open Go.RowKit Base
open Go.Proofs (encStr)
def portsA (L : List PA) : List (List UInt8) := L.flatMap fun p => [p.f.data.toList, p.t.data.toList]
def hasPipe (L : List PA) (f t : ByteArray) : Bool := L.any fun p => decide (p.f = f) && decide (p.t = t)
theorem hasPipe_no {L : List PA} {f t : ByteArray} : hasPipe L f t = false ↔ ∀ p ∈ L, ¬ (p.f = f ∧ p.t = t) := by
  unfold hasPipe
  rw [List.any_eq_false]
  simp
def openBad (L : List PA) (f t : ByteArray) : Bool := !portB f.data.toList || !portB t.data.toList || decide (f = t) || hasPipe L f t || decide (32 < (onceL ([f.data.toList, t.data.toList] ++ portsA L)).length)
def openCode (L : List PA) (f t : ByteArray) (most : Int) : Int := if openBad L f t then 50 else if most < 1 ∨ 64 < most then 1 else 0
def openL (L : List PA) (f t : ByteArray) (most : Int) : List PA := if openBad L f t then L else if most < 1 ∨ 64 < most then L else L ++ [⟨f, t, most.toNat, []⟩]
theorem info62 : (Try.prog.info? 62).map (fun i => (i.zero, i.size, i.bytes)) = some (some (.agg #[.string ⟨#[]⟩, .string ⟨#[]⟩, .int .i64 0, .slice none 0 0]), 4, 64) := by kernel_rfl
section
variable {own : Nat → Tag} {w : World} {g : Nat} {rv : Value} {Rs : List (PA × RG)} {f t : ByteArray}
theorem open_doneR (h : RHolds own w g rv Rs) (f t : ByteArray) (most : Nat) {w1 w2 : World} {o : Obj} {g2 cap2 : Nat} (b1 : Below w.heap.size w w1)
    (hown : w2.ownsRow 0 62 4 (.slice (some ⟨g2, 0, none⟩) (Rs.length + 1) cap2) (Rs.length + 1) (Rs.flatMap cells4 ++ [.string f, .string t, .int .i64 (most : Int), .slice none 0 0]))
    (hg : (w1.alloc o).grownBy w2 rv.ownBlock) (hat : rv.ownBlock = some g2 ∨ g2 = w1.heap.size + 1) (hlt : g2 < w2.heap.size) :
    ∃ own', RHolds own' (w2.setCell ⟨g, 0, none⟩ (.slice (some ⟨g2, 0, none⟩) (Rs.length + 1) cap2)) g (.slice (some ⟨g2, 0, none⟩) (Rs.length + 1) cap2) (Rs ++ [(⟨f, t, most, []⟩, ⟨.slice none 0 0, []⟩)]) ∧
      StepR own w own' (w2.setCell ⟨g, 0, none⟩ (.slice (some ⟨g2, 0, none⟩) (Rs.length + 1) cap2)) := by
  have hglt := own_ltR h.fresh h.rootOwn
  have hs1 := b1.size
  have hs2 : w1.heap.size + 1 ≤ w2.heap.size := by have := hg.size; simpa using this
  have hrv : ∀ b, rv.ownBlock = some b → b < w.heap.size := fun b hb => own_ltR h.fresh (h.rowOwn b hb)
  have blk : ∀ b, b < w.heap.size → rv.ownBlock ≠ some b → b ≠ g → (w2.setCell ⟨g, 0, none⟩ (.slice (some ⟨g2, 0, none⟩) (Rs.length + 1) cap2)).heap[b]? = w.heap[b]? := fun b hb hn hne => by
    rw [Below.heap_setCell _ _ _ _ hne, hg.block b (by simp; omega) (fun e => hn e.symm), (MapKept.heap_alloc w1 _).2 b (by omega), b1.block b hb]
  have hg2g : g2 ≠ g := fun e => by
    rcases hat with h' | h'
    · have := h.rowOwn _ h'; rw [e, h.rootOwn] at this; cases this
    · omega
  have hroot2 : w2.heap[g]? = some (.cells #[rv] 47 (0, 0)) := by
    rw [hg.block g (by simp; omega) (fun e => by have := h.rowOwn _ e.symm; rw [h.rootOwn] at this; cases this), (MapKept.heap_alloc w1 _).2 g (by omega), b1.block g hglt]
    exact h.root
  refine ⟨fun b => if b < w.heap.size then own b else if b = g2 then .r .row else .no, ⟨?_, ?_, ?_, fun b hb => ?_, fun i p hp => ?_, fun b hb => ?_⟩, ?_⟩
  · exact (heap_setCell_any w2 g 0 _ _ _ _ hroot2).trans rfl
  · rw [if_pos hglt]; exact h.rootOwn
  · have e : (Rs ++ [((⟨f, t, most, []⟩ : PA), (⟨.slice none 0 0, []⟩ : RG))]).flatMap cells4 = Rs.flatMap cells4 ++ [.string f, .string t, .int .i64 (most : Int), .slice none 0 0] := by
      rw [List.flatMap_append]; rfl
    rw [e, List.length_append]
    exact row_kept hown fun b hb => by cases hb; exact Below.heap_setCell _ _ _ _ hg2g
  · cases hb
    rcases hat with h' | h'
    · rw [if_pos (hrv g2 h')]; exact h.rowOwn g2 h'
    · show (if g2 < w.heap.size then own g2 else if g2 = g2 then Tag.r .row else .no) = _
      rw [if_neg (by omega), if_pos rfl]
  · by_cases hi : i < Rs.length
    · rw [List.getElem?_append_left hi] at hp
      refine (h.pipes i p hp).kept fun b t ht hc => ⟨by rw [if_pos (own_ltR h.fresh ht)]; exact ht, blk b (own_ltR h.fresh ht) (fun e => ?_) (fun e => ?_)⟩
      · have := h.rowOwn b e; rw [ht] at this; cases this; rcases hc with hc | hc <;> cases hc
      · rw [e, h.rootOwn] at ht; cases ht; rcases hc with hc | hc <;> cases hc
    · have hi2 : i = Rs.length := by
        have := (List.getElem?_eq_some_iff.1 hp).1
        simp at this; omega
      subst hi2
      rw [List.getElem?_append_right (Nat.le_refl _), Nat.sub_self] at hp
      cases hp
      exact ⟨⟨rfl, Or.inl ⟨rfl, rfl⟩⟩, (fun b hb => by cases hb), rfl, (fun j v l hj => by simp at hj)⟩
  · have hb' : w2.heap.size ≤ b := by simpa [World.setCell] using hb
    rw [if_neg (by omega), if_neg (by omega)]
  · refine ⟨hg.os.trans b1.os, hg.tape.trans b1.tape, hg.output.trans b1.output, by simp [World.setCell]; omega, fun b hb hn => ?_, fun b hb _ => if_pos hb⟩
    exact blk b hb (fun e => hn .row (h.rowOwn b e)) (fun e => hn .root (by rw [e]; exact h.rootOwn))
theorem news_four (w : World) (a b c d : Value) (t : TypeId) : ∀ (j : Nat) (u : Value), [a, b, c, d][j]? = some u → (w.alloc (.cells #[a, b, c, d] t)).cell? ((⟨w.heap.size, 0, none⟩ : Addr).add j) = some u := by
  intro j u h
  have h0 := (MapKept.heap_alloc w (.cells #[a, b, c, d] t)).1
  rw [Addr.add_lit]
  unfold World.cell?
  rw [show (⟨w.heap.size, 0 + j, none⟩ : Addr).block = w.heap.size from rfl, h0]
  show #[a, b, c, d][0 + j]? = _
  rw [Nat.zero_add]; simpa using h
theorem one_four (f t : ByteArray) (n : Int) : ∀ u ∈ [Value.string f, .string t, .int .i64 n, .slice none 0 0], u.oneCell' = true := by
  intro u hu
  simp at hu
  rcases hu with rfl | rfl | rfl | rfl <;> rfl
def ROpenEnd (own : Nat → Tag) (w : World) (g : Nat) (Rs : List (PA × RG)) (f t : ByteArray) (most : Int) (e : Ending) (w' : World) : Prop :=
  ∃ own' rv' Rs', e = .returned (.int .i64 (openCode (Rs.map Prod.fst) f t most)) ∧ RHolds own' w' g rv' Rs' ∧ Rs'.map Prod.fst = openL (Rs.map Prod.fst) f t most ∧ StepR own w own' w'
theorem open_bad (h : RHolds own w g rv Rs) {f t : ByteArray} {most : Int} {w' : World} (hb : Below w.heap.size w w') (hbad : openBad (Rs.map Prod.fst) f t = true) : ROpenEnd own w g Rs f t most (.returned (.int .i64 50)) w' :=
  ⟨own, rv, Rs, by unfold openCode; rw [if_pos hbad], h.on hb, by unfold openL; rw [if_pos hbad], StepR.of_below hb⟩
theorem portsA_take (Rs : List (PA × RG)) (k : Nat) (p : PA × RG) (h : Rs[k]? = some p) : portsA ((Rs.take (k + 1)).map Prod.fst) = portsA ((Rs.take k).map Prod.fst) ++ [p.1.f.data.toList] ++ [p.1.t.data.toList] := by
  have hl := (List.getElem?_eq_some_iff.1 h).1
  rw [List.take_succ_eq_append_getElem hl, List.map_append]
  unfold portsA
  rw [List.flatMap_append, (List.getElem?_eq_some_iff.1 h).2, List.append_assoc]; rfl
theorem putIn_len (l : List (List UInt8)) (s : List UInt8) : (putIn l s).length ≤ l.length + 1 := by
  induction l with
  | nil => simp [putIn]
  | cons a r ih =>
    unfold putIn
    split
    · simp; omega
    · split <;> simp
theorem cPlace' (h : RHolds own w g rv Rs) (hk : KeysApart (Rs.map Prod.fst)) {i : Nat} {p : PA × RG} (hp : Rs[i]? = some p) {f t : ByteArray} (hf : p.1.f = f) (ht : p.1.t = t) (hn : Rs.length ≤ 1000000) :
    Calls Try.prog 30 #[.pointer (some ⟨g, 0, none⟩), .string f, .string t] w (fun e w' => e = .returned (.int .i64 (i : Int)) ∧ w = w') := by
  subst hf ht
  exact cPlace h hp (apart_first hk hp) hn
theorem hasPipe_yes (h : hasPipe (Rs.map Prod.fst) f t = true) : ∃ (i : Nat) (p : PA × RG), Rs[i]? = some p ∧ p.1.f = f ∧ p.1.t = t := by
  unfold hasPipe at h
  rw [List.any_eq_true] at h
  obtain ⟨x, hx, hh⟩ := h
  obtain ⟨p, hp, rfl⟩ := List.mem_map.1 hx
  obtain ⟨i, hi⟩ := List.getElem?_of_mem hp
  simp at hh
  exact ⟨i, p, hi, hh⟩
set_option maxHeartbeats 8000000 in
set_option maxRecDepth 100000 in
theorem rOpen (h : RHolds own w g rv Rs) (hk : KeysApart (Rs.map Prod.fst)) (hn : Rs.length ≤ 1000000) (f t : ByteArray) (most : Int) (hf : f.size ≤ maxLen) (ht : t.size ≤ maxLen) :
    Calls Try.prog 15 #[.pointer (some ⟨g, 0, none⟩), .string f, .string t, .int .i64 most] w (ROpenEnd own w g Rs f t most) := by
  obtain ⟨i0, hi0, hz0, hz1, hz2⟩ := info_parts info62
  have H := Lib.hid h
  have HK := Lib.hid hk
  obtain ⟨ra, rc, hrv, hrc⟩ := h.form
  have hglt := own_ltR h.fresh h.rootOwn
  subst hrv
  clear h hk
  obtain ⟨R, hR⟩ : ∃ R : Value → Value → World → Prop, R = fun v i wr => ∃ (k : Nat) (a : Option Addr) (c : Nat) (ws : List (List UInt8)), k ≤ Rs.length ∧ i = .int .i64 k ∧ v = .slice a ws.length c ∧ wr.ownsRow 0 9 1 (.slice a ws.length c) ws.length (ws.map encStr) ∧
    ws.length ≤ 2 * k ∧ Hid (ws = (portsA ((Rs.take k).map Prod.fst)).foldl putIn []) ∧ Below w.heap.size w wr := ⟨_, rfl⟩
  have HR := Lib.hid hR
  clear hR
  go_enter Try.func15, Try.ntmps15
  go_wp2
  go_loopw [9, 10] (fun v i wr => R v i wr) (fun _ i _ => Rs.length - (intOf i).toNat)
  case atStart =>
    rw [HR.out]
    exact ⟨0, none, 0, [], Nat.zero_le _, rfl, rfl, ⟨rfl, Or.inl ⟨rfl, rfl⟩⟩, Nat.le_refl _, rfl, Below.refl _ _⟩
  case round =>
    rw [HR.out] at hrel
    obtain ⟨k, a, c, ws, hkk, rfl, rfl, hown, hws, hwe, hbel⟩ := hrel
    have hh : Hid (RHolds own wr g (.slice ra Rs.length rc) Rs) := H.out.on hbel
    obtain ⟨hc, _⟩ := hh.out.cell
    by_cases hlt : k < Rs.length
    · obtain ⟨q, hq⟩ : ∃ q, Rs[k]? = some q := ⟨Rs[k], List.getElem?_eq_getElem hlt⟩
      obtain ⟨rb, c2, he, hkl, hcc, d0, d1, _⟩ := hh.out.at hq
      cases he
      have HQ := Lib.hid hq
      clear hq
      go_wp2_with (go_at_call 28; refine (cWith _ 0 a c ws q.1.f hown (Nat.zero_le _) (by omega)).mono ?_; rintro e w1 ⟨a1, c1, rfl, o1, b1⟩; refine Hid.out ?_)
      refine Lib.hid ?_
      have hbel1 := hbel.trans (b1.mono hbel.size)
      have hh1 := hh.out.on b1
      obtain ⟨hc1, _⟩ := hh1.cell
      obtain ⟨rb2, c2', he, _, _, _, d1', _⟩ := hh1.at HQ.out
      cases he
      have hl1 := putIn_len ws q.1.f.data.toList
      clear hc d0 d1 hown b1 hbel
      go_wp2_with (go_at_call 28; refine (cWith _ 0 a1 c1 _ q.1.t o1 (Nat.zero_le _) (by omega)).mono ?_; rintro e w2 ⟨a2, c2, rfl, o2, b2⟩; refine Hid.out ?_)
      refine Lib.hid ?_
      have hbel2 := hbel1.trans (b2.mono hbel1.size)
      have hl2 := putIn_len (putIn ws q.1.f.data.toList) q.1.t.data.toList
      clear hc1 d1' hh1 b2 hbel1
      go_wp2
      go_roundw
      case rel =>
        rw [HR.out]
        refine ⟨k + 1, a2, c2, _, by omega, by go_num, rfl, o2, by omega, ?_, hbel2⟩
        show _ = _
        rw [portsA_take Rs k q HQ.out, List.foldl_append, List.foldl_append, ← hwe.out]; rfl
      case measure => simp [intOf]; omega
    · have hke : k = Rs.length := by omega
      go_wp2_with (go_at_call 28; refine (cWith _ 0 a c ws f hown (Nat.zero_le _) (by omega)).mono ?_; rintro e w1 ⟨a1, c1, rfl, o1, b1⟩; refine Hid.out ?_)
      refine Lib.hid ?_
      have hbel1 := hbel.trans (b1.mono hbel.size)
      have hl1 := putIn_len ws f.data.toList
      clear hc hown b1 hbel
      go_wp2_with (go_at_call 28; refine (cWith _ 0 a1 c1 _ t o1 (Nat.zero_le _) (by omega)).mono ?_; rintro e w2 ⟨a2, c2, rfl, o2, b2⟩; refine Hid.out ?_)
      refine Lib.hid ?_
      have hbel2 := hbel1.trans (b2.mono hbel1.size)
      have hlen : Hid ((putIn (putIn ws f.data.toList) t.data.toList).length = (onceL ([f.data.toList, t.data.toList] ++ portsA (Rs.map Prod.fst))).length) := by
        have e1 : putIn (putIn ws f.data.toList) t.data.toList = (portsA (Rs.map Prod.fst) ++ [f.data.toList, t.data.toList]).foldl putIn [] := by
          rw [List.foldl_append, hwe.out, hke, List.take_length]; rfl
        show _ = _
        rw [e1, once_eq, once_perm List.perm_append_comm]
      clear b2 hbel1 o1 o2 hwe hh
      go_wp2_with (go_at_call 29; refine (rIsPort _ _ hf).mono ?_; rintro e w' ⟨rfl, rfl⟩; refine Hid.out ?_)
      refine Lib.hid ?_
      go_wp2_with (go_at_call 29; refine (rIsPort _ _ ht).mono ?_; rintro e w' ⟨rfl, rfl⟩; refine Hid.out ?_)
      refine Lib.hid ?_
      have hh2 := Lib.hid (H.out.on hbel2)
      cases p1 : portB f.data.toList with
      | false =>
        have HBAD : Hid (openBad (Rs.map Prod.fst) f t = true) := by show _ = _; unfold openBad; rw [p1]; rfl
        cases hhp : hasPipe (Rs.map Prod.fst) f t with
        | true =>
          obtain ⟨i, p, hp, e1, e2⟩ := hasPipe_yes hhp
          go_wp2_with (go_at_call 30; refine (cPlace' hh2.out HK.out hp e1 e2 hn).mono ?_; rintro e w' ⟨rfl, rfl⟩)
          go_ret
          exact open_bad H.out hbel2 HBAD.out
        | false =>
          go_wp2_with (go_at_call 30; refine (cPlaceNo hh2.out f t (fun q hq => hasPipe_no.1 hhp q.1 (List.mem_map.2 ⟨q, hq, rfl⟩)) hn).mono ?_; rintro e w' ⟨rfl, rfl⟩)
          go_ret
          exact open_bad H.out hbel2 HBAD.out
      | true =>
        cases p2 : portB t.data.toList with
        | false =>
          have HBAD : Hid (openBad (Rs.map Prod.fst) f t = true) := by show _ = _; unfold openBad; rw [p1, p2]; rfl
          cases hhp : hasPipe (Rs.map Prod.fst) f t with
          | true =>
            obtain ⟨i, p, hp, e1, e2⟩ := hasPipe_yes hhp
            go_wp2_with (go_at_call 30; refine (cPlace' hh2.out HK.out hp e1 e2 hn).mono ?_; rintro e w' ⟨rfl, rfl⟩)
            go_ret
            exact open_bad H.out hbel2 HBAD.out
          | false =>
            go_wp2_with (go_at_call 30; refine (cPlaceNo hh2.out f t (fun q hq => hasPipe_no.1 hhp q.1 (List.mem_map.2 ⟨q, hq, rfl⟩)) hn).mono ?_; rintro e w' ⟨rfl, rfl⟩)
            go_ret
            exact open_bad H.out hbel2 HBAD.out
        | true =>
          by_cases p3 : f = t
          · have HBAD : Hid (openBad (Rs.map Prod.fst) f t = true) := by show _ = _; unfold openBad; rw [decide_eq_true p3]; simp
            have e3 := str_eq_b p3
            have P3 := Lib.hid p3
            clear p3
            cases hhp : hasPipe (Rs.map Prod.fst) f t with
            | true =>
              obtain ⟨i, p, hp, e1, e2⟩ := hasPipe_yes hhp
              have HP := Lib.hid hp
              have E1 := Lib.hid e1
              have E2 := Lib.hid e2
              clear hp e1 e2
              go_wp2_with (go_at_call 30; refine (cPlace' hh2.out HK.out HP.out E1.out E2.out hn).mono ?_; rintro e w' ⟨rfl, rfl⟩)
              go_ret
              exact open_bad H.out hbel2 HBAD.out
            | false =>
              have HHP := Lib.hid hhp
              clear hhp
              go_wp2_with (go_at_call 30; refine (cPlaceNo hh2.out f t (fun q hq => hasPipe_no.1 HHP.out q.1 (List.mem_map.2 ⟨q, hq, rfl⟩)) hn).mono ?_; rintro e w' ⟨rfl, rfl⟩)
              go_ret
              exact open_bad H.out hbel2 HBAD.out
          · have e3 := str_ne_b p3
            cases hhp : hasPipe (Rs.map Prod.fst) f t with
            | true =>
              have HBAD : Hid (openBad (Rs.map Prod.fst) f t = true) := by show _ = _; unfold openBad; rw [hhp]; simp
              obtain ⟨i, p, hp, e1, e2⟩ := hasPipe_yes hhp
              have HP := Lib.hid hp
              have E1 := Lib.hid e1
              have E2 := Lib.hid e2
              have hi0 : (0 : Int) ≤ (i : Int) := by omega
              clear hp e1 e2 p3
              go_wp2_with (go_at_call 30; refine (cPlace' hh2.out HK.out HP.out E1.out E2.out hn).mono ?_; rintro e w' ⟨rfl, rfl⟩)
              go_ret
              exact open_bad H.out hbel2 HBAD.out
            | false =>
              have HHP := Lib.hid hhp
              by_cases p4 : 32 < (onceL ([f.data.toList, t.data.toList] ++ portsA (Rs.map Prod.fst))).length
              · have HBAD : Hid (openBad (Rs.map Prod.fst) f t = true) := by show _ = _; unfold openBad; rw [decide_eq_true p4]; simp
                have q4 : (32 : Int) < ((putIn (putIn ws f.data.toList) t.data.toList).length : Int) := by rw [hlen.out]; omega
                clear hhp p3 p4
                go_wp2_with (go_at_call 30; refine (cPlaceNo hh2.out f t (fun q hq => hasPipe_no.1 HHP.out q.1 (List.mem_map.2 ⟨q, hq, rfl⟩)) hn).mono ?_; rintro e w' ⟨rfl, rfl⟩)
                go_ret
                exact open_bad H.out hbel2 HBAD.out
              · have hbad : openBad (Rs.map Prod.fst) f t = false := by unfold openBad; rw [p1, p2, decide_eq_false p3, hhp, decide_eq_false p4]; rfl
                have HBAD := Lib.hid hbad
                have q4 : ¬ (32 : Int) < ((putIn (putIn ws f.data.toList) t.data.toList).length : Int) := by rw [hlen.out]; omega
                clear hhp p3 p4 hbad
                by_cases p5 : most < 1 ∨ 64 < most
                · have HC : Hid (ROpenEnd own w g Rs f t most (.returned (.int .i64 1)) w2) := ⟨own, _, Rs, by unfold openCode; rw [HBAD.out, if_neg (by simp), if_pos p5], H.out.on hbel2, by unfold openL; rw [HBAD.out, if_neg (by simp), if_pos p5], StepR.of_below hbel2⟩
                  rcases p5 with p5 | p5
                  · go_wp2_with (go_at_call 30; refine (cPlaceNo hh2.out f t (fun q hq => hasPipe_no.1 HHP.out q.1 (List.mem_map.2 ⟨q, hq, rfl⟩)) hn).mono ?_; rintro e w' ⟨rfl, rfl⟩)
                    go_ret
                    exact HC.out
                  · have p6 : ¬ most < 1 := by omega
                    go_wp2_with (go_at_call 30; refine (cPlaceNo hh2.out f t (fun q hq => hasPipe_no.1 HHP.out q.1 (List.mem_map.2 ⟨q, hq, rfl⟩)) hn).mono ?_; rintro e w' ⟨rfl, rfl⟩)
                    go_ret
                    exact HC.out
                · have p6 : ¬ most < 1 := by omega
                  have p7 : ¬ 64 < most := by omega
                  obtain ⟨mn, rfl⟩ := Int.eq_ofNat_of_zero_le (show 0 ≤ most by omega)
                  have HCODE : Hid (openCode (Rs.map Prod.fst) f t (mn : Int) = 0) := by show _ = _; unfold openCode; rw [HBAD.out, if_neg (by simp), if_neg (by omega)]
                  have HLL : Hid (openL (Rs.map Prod.fst) f t (mn : Int) = Rs.map Prod.fst ++ [⟨f, t, mn, []⟩]) := by show _ = _; unfold openL; rw [HBAD.out, if_neg (by simp), if_neg (by omega), Int.toNat_natCast]
                  obtain ⟨hc2, hfz2⟩ := hh2.out.cell
                  have hg2lt : g < w2.heap.size := Nat.lt_of_lt_of_le hglt hbel2.size
                  have hgne : Hid (∀ b, (Value.slice ra Rs.length rc).ownBlock = some b → b ≠ g) := fun b hb e => by
                    have := H.out.rowOwn b hb
                    rw [e, H.out.rootOwn] at this; cases this
                  go_wp2_with (first
                    | (go_at_call 30; refine (cPlaceNo hh2.out f t (fun q hq => hasPipe_no.1 HHP.out q.1 (List.mem_map.2 ⟨q, hq, rfl⟩)) hn).mono ?_; rintro e w' ⟨rfl, rfl⟩)
                    | (at_builtin; refine wpList_append_lies _ rfl _ _ 45 rfl 0 62 i0 _ 4 64 Try.underlying45 hi0 hz0 hz1 hz2 rfl (by decide) (.slice ra Rs.length rc) Rs.length (Rs.flatMap cells4) rfl (hh2.out.row.alloc _) ⟨w2.heap.size, 0, none⟩ 1 1 [.string f, .string t, .int .i64 (mn : Int), .slice none 0 0] rfl rfl (news_four _ _ _ _ _ _) (one_four _ _ _) (by omega) (by unfold maxLen; omega) (by omega) (Nat.zero_le _) (w2.heap.size + 1) (by simp) ?_; intro g2 cap2 w3 hown3 hg3 hat3 hlt3; refine Hid.out ?_)
                    | fail)
                  refine Lib.hid ?_
                  have e1 : w3.cell? ⟨g, 0, none⟩ = some (.slice ra Rs.length rc) := append_cell hgne.out (World.cell_alloc_old hc2 _) (by simp; omega) hg3
                  have e2 : w3.frozen? ⟨g, 0, none⟩ = false := by
                    rw [World.frozen?_of_block (hg3.block g (by simp; omega) (fun e => hgne.out g e.symm rfl)), World.frozen?_of_block ((MapKept.heap_alloc w2 _).2 g hg2lt)]; exact hfz2
                  obtain ⟨own', k1, k2⟩ := open_doneR H.out f t mn hbel2 hown3 hg3 hat3 hlt3
                  have K1 := Lib.hid k1
                  have K2 := Lib.hid k2
                  clear k1 k2 hown3 hg3 hat3 hlt3 hc2
                  go_wp2
                  go_ret
                  exact ⟨own', _, _, by rw [HCODE.out]; rfl, K1.out, by rw [HLL.out, List.map_append]; rfl, K2.out⟩
end
end Go.Proofs.Ytfmphhcdbocgnaa.Pipe
