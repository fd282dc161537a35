/-
  MERGED by mergefill.py: CanNew.
-/
import Derived.Test.YtnehgbpfgehhiaaGreatDoorCanRepM
import Derived.Test.YtnehgbpfgehhiaaGreatDoorTabSameM
import Derived.Test.YtnehgbpfgehhiaaGreatDoorTabPBegM
/-
  CANON, the program: New.
-/
namespace Go.Proofs.YtnehgbpfgehhiaaGreatDoor.Path
open Go.RowKit Base
abbrev LitF := ByteArray → Nat → Bool × Nat × ByteArray
/-- The tables of texts, if each may be. -/
def tabsOf (L : LitF) (f : ByteArray → ByteArray) : List ByteArray → Option (List (List Table.KV))
  | [] => some []
  | s :: r => if (Table.parseOf s.data.toList).2.1 = 0 ∧ valsB L f (Table.parseOf s.data.toList).1 = true then (tabsOf L f r).map (fun l => (Table.parseOf s.data.toList).1 :: l) else none
/-- What New answers: an error, or the tables. -/
def newR (L : LitF) (f : ByteArray → ByteArray) (host : ByteArray) (Xs : List ByteArray) : Int × List (List Table.KV) :=
  if domR L host = (host, false, 0) ∧ Xs.length ≤ 8 then (match tabsOf L f Xs with | some Ts => (0, Ts) | none => (150, [])) else (1, [])
/-- A canon. -/
structure CanonAt (w : World) (b : Nat) (host : ByteArray) (Ts : List (List Table.KV)) : Prop where
  box : ∃ cb, w.heap[b]? = some (.cells #[.string host, .pointer (some ⟨cb, 0, none⟩)] 58 (0, 0)) ∧ Table.ChainAt w cb Ts
  good : ∀ T ∈ Ts, Table.Good T
  few : Ts.length ≤ 8
def NewEnd (w : World) (host : ByteArray) (r : Int × List (List Table.KV)) (e : Ending) (w' : World) : Prop :=
  Below w.heap.size w w' ∧ ((r.1 ≠ 0 ∧ e = .returned (.tuple #[.pointer none, .int .i64 r.1])) ∨ (r.1 = 0 ∧ ∃ b, e = .returned (.tuple #[.pointer (some ⟨b, 0, none⟩), .int .i64 0]) ∧ CanonAt w' b host r.2 ∧ w.heap.size ≤ b))
theorem tabs_snoc (L : LitF) (f : ByteArray → ByteArray) (s : ByteArray) : ∀ (Xs : List ByteArray) (Ts : List (List Table.KV)), tabsOf L f Xs = some Ts → tabsOf L f (Xs ++ [s]) = if (Table.parseOf s.data.toList).2.1 = 0 ∧ valsB L f (Table.parseOf s.data.toList).1 = true then some (Ts ++ [(Table.parseOf s.data.toList).1]) else none
  | [], Ts, h => by
    cases h
    show tabsOf L f (s :: []) = _
    unfold tabsOf
    split <;> rfl
  | x :: r, Ts, h => by
    unfold tabsOf at h
    show tabsOf L f (x :: (r ++ [s])) = _
    unfold tabsOf
    split at h
    · rename_i hx
      rw [if_pos hx]
      cases hr : tabsOf L f r with
      | none => rw [hr] at h; cases h
      | some l =>
        rw [hr] at h
        cases h
        rw [tabs_snoc L f s r l hr]
        split <;> rfl
    · cases h
theorem tabs_none (L : LitF) (f : ByteArray → ByteArray) : ∀ (Xs Ys : List ByteArray), tabsOf L f Xs = none → tabsOf L f (Xs ++ Ys) = none
  | [], _, h => by cases h
  | x :: r, Ys, h => by
    unfold tabsOf at h
    show tabsOf L f (x :: (r ++ Ys)) = _
    unfold tabsOf
    split at h
    · rename_i hx
      rw [if_pos hx]
      cases hr : tabsOf L f r with
      | none => rw [tabs_none L f r Ys hr]; rfl
      | some l => rw [hr] at h; cases h
    · rename_i hx
      rw [if_neg hx]
/-- A text on the way that may not be: none may. -/
theorem tabs_bad {L : LitF} {f : ByteArray → ByteArray} {Xs : List ByteArray} {k : Nat} {s : ByteArray} {Ts : List (List Table.KV)} (hk : Xs[k]? = some s) (h : tabsOf L f (Xs.take k) = some Ts) (hb : ¬ ((Table.parseOf s.data.toList).2.1 = 0 ∧ valsB L f (Table.parseOf s.data.toList).1 = true)) : tabsOf L f Xs = none := by
  have e1 : Xs.take (k + 1) = Xs.take k ++ [s] := by rw [List.take_add_one, hk]; rfl
  have e2 := tabs_snoc L f s (Xs.take k) Ts h
  rw [if_neg hb, ← e1] at e2
  have e3 := tabs_none L f (Xs.take (k + 1)) (Xs.drop (k + 1)) e2
  rwa [List.take_append_drop] at e3
theorem tabs_next {L : LitF} {f : ByteArray → ByteArray} {Xs : List ByteArray} {k : Nat} {s : ByteArray} {Ts : List (List Table.KV)} (hk : Xs[k]? = some s) (h : tabsOf L f (Xs.take k) = some Ts) (h1 : (Table.parseOf s.data.toList).2.1 = 0) (h2 : valsB L f (Table.parseOf s.data.toList).1 = true) : tabsOf L f (Xs.take (k + 1)) = some (Ts ++ [(Table.parseOf s.data.toList).1]) := by
  have e1 : Xs.take (k + 1) = Xs.take k ++ [s] := by rw [List.take_add_one, hk]; rfl
  rw [e1, tabs_snoc L f s (Xs.take k) Ts h, if_pos ⟨h1, h2⟩]
def pvT (q : Tri) : Table.PV := some (q.pb, q.sv)
theorem vals_tri (Es : List Tri) : Table.valsOf (Es.map pvT) = Es.map Tri.sv := by
  unfold Table.valsOf
  induction Es with
  | nil => rfl
  | cons q r ih => simp only [List.map_cons]; rw [List.filterMap_cons]; simp only [pvT, id, List.map_cons]; exact congrArg _ ih
/-- The slice of the tables is joined. -/
theorem NInv.join {w wr : World} {la : Option Addr} {lc : Nat} {Es : List Tri} (h : NInv w wr (.slice la Es.length lc) Es) (hn : Es.length ≤ 8) :
    Calls Tryz.prog 19 #[.slice la Es.length lc] wr fun e w' => e = .returned (.pointer (some ⟨wr.heap.size, 0, none⟩)) ∧ Table.ChainAt w' wr.heap.size (Es.map Tri.tab) ∧ Below wr.heap.size wr w' := by
  have hl : (Es.map pvT).length = Es.length := List.length_map _
  have hj := Table.pJoin wr la lc (Es.map pvT) (fun i o ho => ?_) (fun b sv hm => ?_) (by omega)
  · rw [hl] at hj
    refine hj.mono fun e w' hh => ?_
    obtain ⟨cv, h1, h2⟩ := hh
    rw [vals_tri] at h2
    refine ⟨h1, ⟨cv, h2.box, ?_⟩, h2.below⟩
    have hr := h2.row
    rw [List.length_map] at hr
    rcases hr.2 with ⟨hv, hn0⟩ | ⟨g, cap, cur, hv, _, hb, hc1, _⟩
    · exact Or.inl ⟨List.eq_nil_of_length_eq_zero (by rw [List.length_map]; exact hn0), none, 0, hv⟩
    · subst hv
      refine Or.inr ⟨g, cap, by rw [List.length_map], by rw [List.length_map]; exact hc1, fun i T hT => ?_⟩
      rw [List.getElem?_map] at hT
      cases hq : Es[i]? with
      | none => rw [hq] at hT; cases hT
      | some q =>
        rw [hq] at hT
        cases hT
        have hi : i < Es.length := (List.getElem?_eq_some_iff.1 hq).1
        have hc := World.ownsRow.cellAt hr i (by omega)
        rw [List.getElem?_map, hq] at hc
        exact ⟨q.sv, hc, (h.tabs q (List.mem_of_getElem? hq)).1.pr.on h2.below⟩
  · have hil : i < Es.length := by have := (List.getElem?_eq_some_iff.1 ho).1; omega
    rcases h.row.2 with ⟨_, hn0⟩ | ⟨g, cap, cur, he, _, hb, _⟩
    · omega
    · injection he with he1 _ _
      subst he1
      refine ⟨g, rfl, heap_lt hb, ?_⟩
      have hc := World.ownsRow.cellAt h.row i (by omega)
      rw [hc, List.getElem?_map]
      rw [List.getElem?_map] at ho
      cases hx : Es[i]? with
      | none => rw [hx] at ho; cases ho
      | some y => rw [hx] at ho; cases ho; rfl
  · obtain ⟨q, ho1, ho2⟩ := List.mem_map.1 hm
    have e : (q.pb, q.sv) = (b, sv) := Option.some.inj ho2
    cases e
    have hc := (h.tabs q ho1).1
    obtain ⟨a, c, he, _⟩ := hc.pr.form
    exact ⟨hc.p, by rw [he]; rfl⟩
set_option maxHeartbeats 8000000 in
set_option maxRecDepth 100000 in
theorem pNew {w0 : World} {L : LitF} {f : ByteArray → ByteArray} (hL : LitOk w0 L) (hf : FormOk f) (host : ByteArray) (A : Option Addr) (c : Nat) (Xs : List ByteArray) (w : World) (hE : Below w0.heap.size w0 w) (hm : Table.MaxOk w)
    (hh : host.size ≤ 1000000000) (hX : ∀ (i : Nat) (s : ByteArray), Xs[i]? = some s → ∃ g o, A = some ⟨g, o, none⟩ ∧ w.cell? ⟨g, o + i, none⟩ = some (.string s)) (hXl : Xs.length ≤ 9223372036854775807)
    (hV : ∀ s ∈ Xs, ∀ p ∈ (Table.parseOf s.data.toList).1, ValOk L ⟨p.2.toArray⟩) :
    Calls Tryz.prog 8 #[.string host, .slice A Xs.length c] w (NewEnd w host (newR L f host Xs)) := by
  obtain ⟨D, hD⟩ : ∃ D, D = newR L f host Xs := ⟨_, rfl⟩
  rw [← hD]
  have HD := Lib.hid hD
  have C0 := Lib.hid (pDomainP hL host w hE (by omega))
  have HX := Lib.hid hX
  have HM := Lib.hid hm
  have CP := Lib.hid (fun (s : ByteArray) (W : World) (hb : Below w.heap.size w W) => Table.pParse Table.idxOk s W (hm.on hb))
  have CV := Lib.hid (fun (b : Nat) (T : List Table.KV) (W : World) (hb : Below w.heap.size w W) (hT : Table.TabAt 106 W b T) (hn : T.length ≤ 1000000) (hv : ∀ p ∈ T, ValOk L ⟨p.2.toArray⟩) => pRightVals hL hf b T W (hE.trans (hb.mono hE.size)) hT hn hv)
  have HV := Lib.hid hV
  clear hL hf hE hm hX hV hD
  unfold newR at HD
  generalize hdr : domR L host = dr at C0 HD
  obtain ⟨dd, lit, code⟩ := dr
  have C0 : Hid (Calls Tryz.prog 16 #[.string host] w fun e w' => e = .returned (.tuple #[.string dd, .bool lit, .int .i64 code]) ∧ Below w.heap.size w w') := C0
  by_cases hok : ((dd, lit, code) : ByteArray × Bool × Int) = (host, false, 0) ∧ Xs.length ≤ 8
  · obtain ⟨he, h8⟩ := hok
    cases he
    have HD2 : Hid (D = match tabsOf L f Xs with | some Ts => (0, Ts) | none => (150, [])) := by have e := HD.out; rw [if_pos ⟨rfl, h8⟩] at e; exact e
    have i8 : ¬ (8 : Int) < (Xs.length : Int) := by omega
    clear HD hdr
    go_enter Tryz.func8, Tryz.ntmps8
    go_wp2_with (first | (go_at_call 16; refine C0.out.mono ?_; rintro ee w1 ⟨rfl, hb⟩; refine Hid.out ?_) | fail)
    refine Lib.hid ?_
    have HN0 := Lib.hid ((NInv.start w).on hb)
    clear hb
    go_wp2
    go_loopw [9, 37] (fun lv i wx => ∃ (k : Nat) (la : Option Addr) (lc : Nat) (Es : List Tri), k ≤ Xs.length ∧ i = .int .i64 (k : Int) ∧ lv = .slice la Es.length lc ∧ Es.length = k ∧ Hid (NInv w wx (.slice la Es.length lc) Es) ∧ Hid (tabsOf L f (Xs.take k) = some (Es.map Tri.tab))) (fun _ i _ => Xs.length - (intOf i).toNat)
    case atStart => exact ⟨0, none, 0, [], by omega, rfl, rfl, rfl, HN0, rfl⟩
    case round =>
      clear HN0
      obtain ⟨k, la, lc, Es, hk, rfl, rfl, hEk, hI, hT⟩ := hrel
      have HEk : Hid (Es.length = k) := hEk
      have HI := Lib.hid hI.out
      have HTb := Lib.hid hT.out
      clear hEk hI hT
      by_cases hlt : k < Xs.length
      · have i1 : (k : Int) < (Xs.length : Int) := by omega
        have i0 : (0 : Int) ≤ (k : Int) := by omega
        have hget : Xs[k]? = some Xs[k] := List.getElem?_eq_getElem hlt
        have hmem : Xs[k] ∈ Xs := List.getElem_mem hlt
        obtain ⟨g, o, rfl, hc⟩ := HX.out k _ hget
        have hc := cell_on hc HI.out.below
        have CP1 := Lib.hid (CP.out Xs[k] wr HI.out.below)
        have HBad := Lib.hid (fun hb => tabs_bad (L := L) (f := f) hget HTb.out hb)
        have HNext := Lib.hid (fun h1 h2 => tabs_next (L := L) (f := f) hget HTb.out h1 h2)
        have HVx := Lib.hid (HV.out _ hmem)
        have HGd := Lib.hid (Table.parse_good Xs[k].data.toList)
        clear hget hmem
        generalize Xs[k] = s at hc CP1 HBad HNext HVx HGd
        generalize Table.parseOf s.data.toList = pa at CP1 HBad HNext HVx HGd
        obtain ⟨T, fc, fl⟩ := pa
        by_cases hfc : fc = 0
        · subst hfc
          have CP2 : Hid (Calls Tryz.prog 17 #[.string s] wr fun e w' => ∃ b, e = .returned (.tuple #[.pointer (some ⟨b, 0, none⟩), .agg #[.int .i64 0, .int .i64 0]]) ∧ Table.TabNew 106 wr w' b T ∧ Below wr.heap.size wr w') := CP1.out.mono fun e w' hh => by
            rcases hh with ⟨h1, ⟨_, b, h3, h4⟩ | ⟨h2, _⟩⟩
            · exact ⟨b, h3, h4, h1⟩
            · exact absurd rfl h2
          have HG : Hid (Table.Good T) := HGd.out rfl
          clear CP1 HGd
          go_wp2_with (first | (go_at_call 17; refine CP2.out.mono ?_; rintro ee w2 ⟨b, rfl, hn, hb⟩; refine Hid.out ?_) | fail)
          refine Lib.hid ?_
          obtain ⟨q, rfl, rfl, hq⟩ := HI.out.read hb hn HG.out
          have HQ2 := Lib.hid (hq.on (Below.alloc1 w2 (.cells #[.int .i64 0, .int .i64 0] 51)))
          have CV1 : Hid (Calls Tryz.prog 18 #[.pointer (some ⟨q.pb, 0, none⟩)] (w2.alloc (.cells #[.int .i64 0, .int .i64 0] 51)) fun e w' => e = .returned (.bool (valsB L f q.tab)) ∧ Below (w2.alloc (.cells #[.int .i64 0, .int .i64 0] 51)).heap.size (w2.alloc (.cells #[.int .i64 0, .int .i64 0] 51)) w') :=
            CV.out q.pb q.tab _ HQ2.out.inv.below ⟨q.sv, HQ2.out.tab.p, HQ2.out.tab.pr⟩ (Nat.le_trans HG.out.few (by omega)) HVx.out
          clear hq hn hb HVx HI
          generalize hvb : valsB L f q.tab = vb at CV1
          go_wp2_with (first | (go_at_call 18; refine CV1.out.mono ?_; rintro ee w3 ⟨rfl, hb⟩; refine Hid.out ?_) | fail)
          refine Lib.hid ?_
          have HQ3 := Lib.hid (HQ2.out.on hb)
          clear hb
          cases vb with
          | false =>
            have HT2 : Hid (D = (150, [])) := by
              have e := HD2.out
              rw [HBad.out (fun hh => by rw [hvb] at hh; exact absurd hh.2 (by simp))] at e
              exact e
            have HB3 := Lib.hid HQ3.out.inv.below
            clear HBad HNext hvb HQ2 CV1
            go_wp2
            go_ret2
            exact ⟨HB3.out, Or.inl ⟨by rw [HT2.out]; decide, by rw [HT2.out]; rfl⟩⟩
          | true =>
            have HTn : Hid (tabsOf L f (Xs.take (k + 1)) = some (Es.map Tri.tab ++ [q.tab])) := HNext.out trivial hvb
            clear HBad HNext hvb HQ2 CV1
            go_wp2_with (first | (at_builtin; refine wp_addT rfl _ _ rfl HQ3.out (by have := HEk.out; omega) rfl rfl rfl ?_; intro v4 w4 h4; refine Hid.out ?_) | fail)
            refine Lib.hid ?_
            obtain ⟨la2, lc2, rfl, _⟩ := row_form h4.row
            have HI4 := Lib.hid h4
            clear h4 HQ3
            go_wp2
            exact ⟨⟨k + 1, la2, lc2, Es ++ [q], by omega, by go_num, rfl, by rw [List.length_append]; have := HEk.out; simp; exact this, HI4.out, by rw [HTn.out, List.map_append]; rfl⟩, by simp [intOf]; omega⟩
        · have CP2 : Hid (Calls Tryz.prog 17 #[.string s] wr fun e w' => e = .returned (.tuple #[.pointer none, .agg #[.int .i64 (fc : Int), .int .i64 (fl : Int)]]) ∧ Below wr.heap.size wr w') := CP1.out.mono fun e w' hh => by
            rcases hh with ⟨h1, ⟨h2, _⟩ | ⟨_, h3⟩⟩
            · exact absurd h2 hfc
            · exact ⟨h3, h1⟩
          have HT2 : Hid (D = (150, [])) := by
            have e := HD2.out
            rw [HBad.out (fun hh => hfc hh.1)] at e
            exact e
          have e1 : ((fc : Int) != 0) = true := by rw [bne_iff_ne]; omega
          have HB0 := Lib.hid HI.out.below
          clear CP1 HBad HNext HVx HGd hfc HI
          go_wp2_with (first | (go_at_call 17; refine CP2.out.mono ?_; rintro ee w2 ⟨rfl, hb⟩; refine Hid.out ?_) | fail)
          refine Lib.hid ?_
          have HB2 := Lib.hid (HB0.out.trans (hb.mono HB0.out.size))
          clear hb
          go_wp2
          go_ret2
          exact ⟨below_step HB2.out _, Or.inl ⟨by rw [HT2.out]; decide, by rw [HT2.out]; rfl⟩⟩
      · have i1 : ¬ (k : Int) < (Xs.length : Int) := by omega
        have HT2 : Hid (D = (0, Es.map Tri.tab)) := by
          have e := HD2.out
          have e2 := HTb.out
          rw [List.take_of_length_le (by omega)] at e2
          rw [e2] at e
          exact e
        have CJ := Lib.hid (HI.out.join (by have := HEk.out; omega))
        have HGd : Hid (∀ T ∈ Es.map Tri.tab, Table.Good T) := fun T hT => by
          obtain ⟨q, hq, rfl⟩ := List.mem_map.1 hT
          exact (HI.out.tabs q hq).1.good
        have HB0 := Lib.hid HI.out.below
        have h8e : Es.length ≤ 8 := by have := HEk.out; omega
        clear HI HTb HEk
        go_wp2_with (first | (go_at_call 19; refine CJ.out.mono ?_; rintro ee w2 ⟨rfl, hch, hb⟩; refine Hid.out ?_) | fail)
        refine Lib.hid ?_
        have HB2 := Lib.hid (HB0.out.trans (hb.mono HB0.out.size))
        have HCh := Lib.hid hch
        clear hch hb
        go_wp2
        go_ret2
        refine ⟨below_step HB2.out _, Or.inr ⟨by rw [HT2.out], _, rfl, ⟨⟨_, (MapKept.heap_alloc _ _).1, by rw [HT2.out]; exact HCh.out.on (Below.alloc1 _ _)⟩, by rw [HT2.out]; exact HGd.out, by rw [HT2.out]; show (Es.map Tri.tab).length ≤ 8; rw [List.length_map]; exact h8e⟩, HB2.out.size⟩⟩
  · have HT2 : Hid (D = (1, [])) := by have e := HD.out; rw [if_neg hok] at e; exact e
    clear HD hdr
    have fin : ∀ w', Below w.heap.size w w' → NewEnd w host D (.returned (.tuple #[.pointer none, .int .i64 1])) w' := fun w' hb => ⟨hb, Or.inl ⟨by rw [HT2.out]; decide, by rw [HT2.out]⟩⟩
    have HFin := Lib.hid fin
    clear fin
    by_cases hc : code = 0
    · subst hc
      cases lit with
      | true =>
        clear hok
        go_enter Tryz.func8, Tryz.ntmps8
        go_wp2_with (first | (go_at_call 16; refine C0.out.mono ?_; rintro ee w1 ⟨rfl, hb⟩; refine Hid.out ?_) | fail)
        refine Lib.hid ?_
        have HB1 := Lib.hid hb
        clear hb
        go_wp2
        go_ret2
        exact HFin.out _ HB1.out
      | false =>
        by_cases hd : dd = host
        · subst hd
          have i8 : (8 : Int) < (Xs.length : Int) := by
            have : ¬ Xs.length ≤ 8 := fun h => hok ⟨rfl, h⟩
            omega
          clear hok
          go_enter Tryz.func8, Tryz.ntmps8
          go_wp2_with (first | (go_at_call 16; refine C0.out.mono ?_; rintro ee w1 ⟨rfl, hb⟩; refine Hid.out ?_) | fail)
          refine Lib.hid ?_
          have HB1 := Lib.hid hb
          clear hb
          go_wp2
          go_ret2
          exact HFin.out _ HB1.out
        · have hne := bytes_ne hd
          clear hok hd
          go_enter Tryz.func8, Tryz.ntmps8
          go_wp2_with (first | (go_at_call 16; refine C0.out.mono ?_; rintro ee w1 ⟨rfl, hb⟩; refine Hid.out ?_) | fail)
          refine Lib.hid ?_
          have HB1 := Lib.hid hb
          clear hb
          go_wp2
          go_ret2
          exact HFin.out _ HB1.out
    · have e1 : (code != 0) = true := by rw [bne_iff_ne]; exact hc
      clear hok hc
      go_enter Tryz.func8, Tryz.ntmps8
      go_wp2_with (first | (go_at_call 16; refine C0.out.mono ?_; rintro ee w1 ⟨rfl, hb⟩; refine Hid.out ?_) | fail)
      refine Lib.hid ?_
      have HB1 := Lib.hid hb
      clear hb
      go_wp2
      go_ret2
      exact HFin.out _ HB1.out
end Go.Proofs.YtnehgbpfgehhiaaGreatDoor.Path
