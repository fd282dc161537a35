/-
  TABLE, the statement's own: a chain of tables answers what the first one answers that has it: the walk.
-/
import Derived.Test.YtbgdohggdaoojaaDoorTabChI
import Derived.Test.YtbgdohggdaoojaaDoorTabWal2
namespace Go.Proofs.YtbgdohggdaoojaaDoor.Table
open Go.RowKit Base
/-- The texts, in their row. -/
def TS (w : World) (ta : Option Addr) (n : Nat) : Prop := ∀ k, k < n → ∃ (gb o : Nat) (s : ByteArray), ta = some ⟨gb, o, none⟩ ∧ gb < w.heap.size ∧ w.cell? ⟨gb, o + k, none⟩ = some (.string s)
theorem TS.on {w w' : World} {ta : Option Addr} {n : Nat} (h : TS w ta n) (hb : Below w.heap.size w w') : TS w' ta n := fun k hk => by
  obtain ⟨gb, o, s, h1, h2, h3⟩ := h k hk
  exact ⟨gb, o, s, h1, Nat.lt_of_lt_of_le h2 hb.size, cell_on h3 h2 hb⟩
theorem pParseNew (s : ByteArray) (T : List KV) (w : World) (hm : MaxOk w) (h : (parseOf s.data.toList).1 = T ∧ (parseOf s.data.toList).2.1 = 0) :
    Calls Tryd.prog 8 #[.string s] w fun e w' => ∃ b, e = .returned (.tuple #[.pointer (some ⟨b, 0, none⟩), .agg #[.int .i64 0, .int .i64 0]]) ∧ TabNew 82 w w' b T ∧ Below w.heap.size w w' := by
  refine (pParse idxOk s w hm).mono fun e w' hh => ?_
  rcases hh with ⟨h1, ⟨h2, b, h3, h4⟩ | ⟨h2, _⟩⟩
  · exact ⟨b, h3, h.1 ▸ h4, h1⟩
  · exact absurd h.2 h2
theorem rParseNew (s : ByteArray) (T : List KV) (w : World) (h : (parseOf s.data.toList).1 = T ∧ (parseOf s.data.toList).2.1 = 0) :
    Calls Tryd.prog 7 #[.string s] w fun e w' => ∃ b, e = .returned (.tuple #[.pointer (some ⟨b, 0, none⟩), .agg #[.int .i64 0, .int .i64 0]]) ∧ TabNew 36 w w' b T ∧ Below w.heap.size w w' := by
  refine (rParse s w).mono fun e w' hh => ?_
  rcases hh with ⟨h1, ⟨h2, b, h3, h4⟩ | ⟨h2, _⟩⟩
  · exact ⟨b, h3, h.1 ▸ h4, h1⟩
  · exact absurd h.2 h2
theorem ReadL.form {w wr : World} {lv kv : Value} {Xs : List (Option Quad)} (h : ReadL w wr lv kv Xs) : ∃ la lc, lv = .slice la Xs.length lc := by
  obtain ⟨la, lc, e, _⟩ := row_form h.lrow
  exact ⟨la, lc, by rw [e, List.length_map]⟩
theorem ReadL.calls {w wr : World} {la : Option Addr} {lc : Nat} {kv : Value} {Xs : List (Option Quad)} (h : ReadL w wr (.slice la Xs.length lc) kv Xs) (hn : Xs.length ≤ 10) :
    Calls Tryd.prog 12 #[.slice la Xs.length lc] wr fun e w' => ∃ cv, e = .returned (.pointer (some ⟨wr.heap.size, 0, none⟩)) ∧ JSt wr w' (valsOf (Xs.map pvOf)) cv := by
  have hl : (Xs.map pvOf).length = Xs.length := List.length_map _
  have := pJoin wr la lc (Xs.map pvOf) (fun i o ho => ?_) (fun b sv hm => ?_) (by omega)
  · rwa [hl] at this
  · have hil : i < Xs.length := by have := (List.getElem?_eq_some_iff.1 ho).1; omega
    have hr : wr.ownsRow w.heap.size 30 1 (.slice la Xs.length lc) Xs.length (Xs.map lV) := by
      have := h.lrow
      rwa [List.length_map] at this
    rcases hr.2 with ⟨_, hn0⟩ | ⟨g, cap, cur, he, _, hb, _⟩
    · omega
    · injection he with he1 _ _
      subst he1
      refine ⟨g, rfl, heap_lt hb, ?_⟩
      have hc := World.ownsRow.cellAt hr i (by omega)
      rw [hc, List.getElem?_map]
      rw [List.getElem?_map] at ho
      cases hx : Xs[i]? with
      | none => rw [hx] at ho; cases ho
      | some y => rw [hx] at ho; cases ho; rfl
  · obtain ⟨o, ho1, ho2⟩ := List.mem_map.1 hm
    cases o with
    | none => cases ho2
    | some q =>
      have e : (q.pb, q.sv) = (b, sv) := Option.some.inj ho2
      cases e
      have hc := (h.quads q (List.mem_filterMap.2 ⟨some q, ho1, rfl⟩)).1
      obtain ⟨a, c, he, _⟩ := hc.pr.form
      exact ⟨hc.p, by rw [he]; rfl⟩
theorem filt_snoc (Xs : List (Option Quad)) (q : Quad) : (Xs ++ [some q]).filterMap id = Xs.filterMap id ++ [q] := by simp
theorem filt_none (Xs : List (Option Quad)) : (Xs ++ [none]).filterMap id = Xs.filterMap id := by simp
theorem ReadL.more {w wr : World} {lv kv : Value} {Xs : List (Option Quad)} {q : Quad} {b c : Nat} (h1 : q.pb = b) (h2 : q.rb = c) (h : LInv w wr lv kv (Xs.map lV ++ [.pointer (some ⟨b, 0, none⟩)]) (Xs.map kV ++ [.pointer (some ⟨c, 0, none⟩)]) (Xs.filterMap id ++ [q])) : ReadL w wr lv kv (Xs ++ [some q]) := by
  unfold ReadL
  rw [List.map_append, List.map_append, filt_snoc]
  subst h1 h2
  exact h
theorem ReadL.none {w wr : World} {lv kv : Value} {Xs : List (Option Quad)} (h : LInv w wr lv kv (Xs.map lV ++ [.pointer none]) (Xs.map kV ++ [.pointer none]) (Xs.filterMap id)) : ReadL w wr lv kv (Xs ++ [none]) := by
  unfold ReadL
  rw [List.map_append, List.map_append, filt_none]
  exact h
set_option maxHeartbeats 40000000 in
set_option maxRecDepth 100000 in
theorem wChains (ta : Option Addr) (tn tc : Nat) (qa : Option Addr) (n qc : Nat) (w : World) (hm : MaxOk w) (ht : TS w ta tn) (hq : QS w qa n) :
    Calls Tryd.prog 4 #[.slice ta tn tc, .slice qa n qc] w fun e w' => e = .returned (.bool true) ∧ Below w.heap.size w w' := by
  have HS := Lib.hid (pShown w hm)
  have HM := Lib.hid hm
  have HT := Lib.hid ht
  have HQ := Lib.hid hq
  clear hm ht hq
  go_enter Tryd.func4, Tryd.ntmps4
  go_wp2_with (first | (go_at_call 6; refine HS.out.mono ?_; rintro e w1 ⟨rfl, hb1⟩; refine Hid.out ?_) | fail)
  refine Lib.hid ?_
  have HB1 := Lib.hid hb1
  have HL0 : Hid (ReadL w w1 (.slice none 0 0) (.slice none 0 0) []) := (LInv.start w).on hb1
  clear hb1 HS
  go_wp2
  go_loopw [6, 7, 8, 9, 10, 11, 12] (fun l kk i _ _ _ _ wr => ∃ (k : Nat) (lv kv : Value) (Xs : List (Option Quad)), k ≤ 10 ∧ Xs.length = k ∧ i = .int .i64 (k : Int) ∧ l = lv ∧ kk = kv ∧ Hid (ReadL w wr lv kv Xs)) (fun _ _ i _ _ _ _ _ => 10 - (intOf i).toNat)
  case atStart => exact ⟨0, _, _, [], by omega, rfl, rfl, rfl, rfl, HL0⟩
  case round =>
    clear HL0 HB1
    obtain ⟨k, lv, kv, Xs, hk, hXl, rfl, hl, hkv, HI⟩ := hrel
    obtain rfl : lv = _ := hl.symm
    obtain rfl : kv = _ := hkv.symm
    by_cases hlt : k < tn ∧ k < 10
    · obtain ⟨gb, o, s, hta, hg, hc⟩ := (HT.out.on HI.out.below) k hlt.1
      subst hta
      have i0 : (0 : Int) ≤ (k : Int) := by omega
      have i3 : (k : Int) < (tn : Int) := by omega
      have i4 : (k : Int) < 10 := by omega
      have HXL := Lib.hid hXl
      clear hg
      by_cases hcode : (parseOf s.data.toList).2.1 = 0
      · have HG : Hid (Good (parseOf s.data.toList).1) := parse_good _ hcode
        have HP : Hid (∀ w1, Below w.heap.size w w1 → Calls Tryd.prog 8 #[.string s] w1 fun e w' => ∃ b, e = .returned (.tuple #[.pointer (some ⟨b, 0, none⟩), .agg #[.int .i64 0, .int .i64 0]]) ∧ TabNew 82 w1 w' b (parseOf s.data.toList).1 ∧ Below w1.heap.size w1 w') := fun w1 h => pParseNew s _ w1 (HM.out.on h) ⟨rfl, hcode⟩
        have HR : Hid (∀ w1, Calls Tryd.prog 7 #[.string s] w1 fun e w' => ∃ b, e = .returned (.tuple #[.pointer (some ⟨b, 0, none⟩), .agg #[.int .i64 0, .int .i64 0]]) ∧ TabNew 36 w1 w' b (parseOf s.data.toList).1 ∧ Below w1.heap.size w1 w') := fun w1 => rParseNew s _ w1 ⟨rfl, hcode⟩
        clear hcode
        generalize (parseOf s.data.toList).1 = T at HG HP HR
        go_wp2_with (first | (go_at_call 8; refine (HP.out _ HI.out.below).mono ?_; rintro e w2 ⟨b, rfl, hn2, hb2⟩; refine Hid.out ?_) | fail)
        refine Lib.hid ?_
        have HC2 : Hid ((w2.alloc (.cells #[.int .i64 0, .int .i64 0] 27)).cell? ⟨gb, o + k, none⟩ = some (.string s)) := cell_on (cell_on hc (cell_lt hc) hb2) (Nat.lt_of_lt_of_le (cell_lt hc) hb2.size) (Below.alloc1 _ _)
        have HN2 := Lib.hid hn2
        have HB2 := Lib.hid hb2
        have hc := HC2.out
        clear hn2 hb2 HP
        go_wp2_with (first | (go_at_call 7; refine (HR.out _).mono ?_; rintro e w3 ⟨c, rfl, hn3, hb3⟩; refine Hid.out ?_) | fail)
        refine Lib.hid ?_
        obtain ⟨q, q1, q2, q3, hq⟩ := LInv.addQ HI.out HB2.out (Below.alloc1 _ _) hb3 HN2.out hn3 HG.out
        have HQ3 := Lib.hid (hq.on (Below.alloc1 w3 (.cells #[.int .i64 0, .int .i64 0] 27)))
        have HQ12 : Hid (q.pb = b ∧ q.rb = c) := ⟨q1, q2⟩
        clear hn3 hb3 q1 q2 q3 hq HN2 HB2 HC2 HR HG hc HI
        go_wp2_with (at_builtin; go_must (refine wp_addL rfl _ _ rfl HQ3.out (by rw [List.length_map]; omega) (some ⟨b, 0, none⟩) rfl rfl (by simp) ?_); intro v4 w4 h4; refine Hid.out ?_)
        refine Lib.hid ?_
        have H4 := Lib.hid h4
        clear h4 HQ3
        go_wp2_with (at_builtin; go_must (refine wp_addK rfl _ _ rfl H4.out (by rw [List.length_map]; omega) (some ⟨c, 0, none⟩) rfl rfl (by simp) ?_); intro v5 w5 h5; refine Hid.out ?_)
        refine Lib.hid ?_
        have H5 : Hid (ReadL w w5 v4 v5 (Xs ++ [some q])) := ReadL.more HQ12.out.1 HQ12.out.2 h5
        clear h5 H4
        go_wp2
        go_roundw
        case rel => exact ⟨k + 1, v4, v5, Xs ++ [some q], by omega, by rw [List.length_append, HXL.out]; rfl, by go_num, rfl, rfl, H5⟩
        case measure => simp [intOf]; omega
      · obtain ⟨f, hf⟩ : ∃ f, (parseOf s.data.toList).2 = f := ⟨_, rfl⟩
        rw [hf] at hcode
        have HP : Hid (∀ w1, Below w.heap.size w w1 → Calls Tryd.prog 8 #[.string s] w1 fun e w' => e = .returned (.tuple #[.pointer none, .agg #[.int .i64 (f.1 : Int), .int .i64 (f.2 : Int)]]) ∧ Below w1.heap.size w1 w') := fun w1 h => pParseNo s f w1 (HM.out.on h) hf hcode
        have HR : Hid (∀ w1, Calls Tryd.prog 7 #[.string s] w1 fun e w' => e = .returned (.tuple #[.pointer none, .agg #[.int .i64 (f.1 : Int), .int .i64 (f.2 : Int)]]) ∧ Below w1.heap.size w1 w') := fun w1 => rParseNo s f w1 hf hcode
        clear hcode hf
        go_wp2_with (first | (go_at_call 8; refine (HP.out _ HI.out.below).mono ?_; rintro e w2 ⟨rfl, hb2⟩; refine Hid.out ?_) | fail)
        refine Lib.hid ?_
        have HC2 : Hid ((w2.alloc (.cells #[.int .i64 (f.1 : Int), .int .i64 (f.2 : Int)] 27)).cell? ⟨gb, o + k, none⟩ = some (.string s)) := cell_on (cell_on hc (cell_lt hc) hb2) (Nat.lt_of_lt_of_le (cell_lt hc) hb2.size) (Below.alloc1 _ _)
        have HI2 : Hid (ReadL w (w2.alloc (.cells #[.int .i64 (f.1 : Int), .int .i64 (f.2 : Int)] 27)) lv kv Xs) := (HI.out.on hb2).on (Below.alloc1 _ _)
        have hc := HC2.out
        clear hb2 HP
        go_wp2_with (first | (go_at_call 7; refine (HR.out _).mono ?_; rintro e w3 ⟨rfl, hb3⟩; refine Hid.out ?_) | fail)
        refine Lib.hid ?_
        have HI3 : Hid (ReadL w (w3.alloc (.cells #[.int .i64 (f.1 : Int), .int .i64 (f.2 : Int)] 27)) lv kv Xs) := (HI2.out.on hb3).on (Below.alloc1 _ _)
        clear hb3 HC2 HR hc HI HI2
        go_wp2_with (at_builtin; go_must (refine wp_addL rfl _ _ rfl HI3.out (by rw [List.length_map]; omega) none rfl rfl (by simp) ?_); intro v4 w4 h4; refine Hid.out ?_)
        refine Lib.hid ?_
        have H4 := Lib.hid h4
        clear h4 HI3
        go_wp2_with (at_builtin; go_must (refine wp_addK rfl _ _ rfl H4.out (by rw [List.length_map]; omega) none rfl rfl (by simp) ?_); intro v5 w5 h5; refine Hid.out ?_)
        refine Lib.hid ?_
        have H5 : Hid (ReadL w w5 v4 v5 (Xs ++ [none])) := ReadL.none h5
        clear h5 H4
        go_wp2
        go_roundw
        case rel => exact ⟨k + 1, v4, v5, Xs ++ [none], by omega, by rw [List.length_append, HXL.out]; rfl, by go_num, rfl, rfl, H5⟩
        case measure => simp [intOf]; omega
    · have HCASE : ¬ (k : Int) < (tn : Int) ∨ ((k : Int) < (tn : Int) ∧ ¬ (k : Int) < 10) := by omega
      obtain ⟨la, lc, hlv⟩ := HI.out.form
      subst hlv
      have HJ := Lib.hid (HI.out.calls (by omega))
      have HXL := Lib.hid hXl
      have hX10 : Xs.length ≤ 10 := by omega
      clear hXl hlt
      rcases HCASE with i3 | ⟨i3, i4⟩
      all_goals
        go_wp2_with (first | (go_at_call 12; refine HJ.out.mono ?_; rintro e w2 ⟨cv, rfl, hj⟩; refine Hid.out ?_) | fail)
        refine Lib.hid ?_
        obtain ⟨lg, hf, hla⟩ := ReadL.join HI.out hj
        have HF := Lib.hid hf
        have HLA : Hid (Xs ≠ [] → la = some ⟨lg, 0, none⟩) := fun hX => hla rfl hX
        clear hj hf hla HI HJ
        generalize wr.heap.size = cb at HF
        go_wp2
        go_loopw [14] (fun i wx => ∃ j : Nat, j ≤ Xs.length ∧ i = .int .i64 (j : Int) ∧ Hid (FInv w wx lg cb cv kv Xs)) (fun i _ => Xs.length - (intOf i).toNat)
        case atStart => exact ⟨0, by omega, rfl, HF⟩
        case round =>
          clear HF
          obtain ⟨j, hj, rfl, HF⟩ := hrel
          by_cases hlt : j < Xs.length
          · have hX := HLA.out (fun e => by rw [e] at hlt; simp at hlt)
            subst hX
            have j0 : (0 : Int) ≤ (j : Int) := by omega
            have j1 : (j : Int) < (Xs.length : Int) := by omega
            obtain ⟨hs, ⟨x, hx⟩, hfz⟩ := HF.out.set hlt (.pointer none)
            have HF2 := Lib.hid hs
            clear hs HF
            go_wp2
            go_roundw
            case rel => exact ⟨j + 1, by omega, by go_num, HF2⟩
            case measure => simp [intOf]; omega
          · have j1 : ¬ (j : Int) < (Xs.length : Int) := by omega
            go_wp2
            go_loopw [15, 16, 17, 18, 19, 20, 21, 22, 23, 24, 25, 26, 27, 28] (fun i _ _ _ _ _ _ _ _ _ _ _ _ _ wy => ∃ m : Nat, m ≤ 100 ∧ i = .int .i64 (m : Int) ∧ Hid (FInv w wy lg cb cv kv Xs)) (fun i _ _ _ _ _ _ _ _ _ _ _ _ _ _ => 100 - (intOf i).toNat)
            case atStart => exact ⟨0, by omega, rfl, HF⟩
            case round =>
              clear HF
              obtain ⟨m, hm, rfl, HF⟩ := hrel
              by_cases hlt : m < n ∧ m < 100
              · obtain ⟨gb, o, kk, ll, dd, hqa, z1, z2, z3, z4, z5, z6, z7⟩ := (HQ.out.on HF.out.below) m hlt.1
                subst hqa
                have m0 : (0 : Int) ≤ (m : Int) := by omega
                have m3 : (m : Int) < (n : Int) := by omega
                have m4 : (m : Int) < 100 := by omega
                obtain ⟨x, hx⟩ : ∃ x, x = firstA (fun T => exactA T kk.data.toList) (tabsX Xs) := ⟨_, rfl⟩
                obtain ⟨y, hy⟩ : ∃ y, y = firstA (fun T => addrA T ll.data.toList dd.data.toList) (tabsX Xs) := ⟨_, rfl⟩
                obtain ⟨z, hz⟩ : ∃ z, z = firstA (fun T => domA T dd.data.toList) (tabsX Xs) := ⟨_, rfl⟩
                have hxl := tabsX_len Xs
                have hxr : (Xs.map ptOf).length ≤ 1000 := by rw [List.length_map]; omega
                have FO : ∀ w1, Below wr.heap.size wr w1 → FInv w w1 lg cb cv kv Xs := fun w1 h => HF.out.on h
                have H1 : Hid (∀ w1, Below wr.heap.size wr w1 → Calls Tryd.prog 13 #[.pointer (some ⟨cb, 0, none⟩), .string kk] w1 fun e w' => e = .returned (.tuple #[S x.1, .bool x.2]) ∧ Below w1.heap.size w1 w') := fun w1 h => by rw [hx]; exact pCE cb _ kk w1 (FO w1 h).chain (by omega) (FO w1 h).good z5
                have H2 : Hid (∀ w1, Below wr.heap.size wr w1 → Calls Tryd.prog 14 #[kv, .int .i64 0, .string kk, .string ⟨#[]⟩] w1 fun e w' => e = .returned (.tuple #[S x.1, .bool x.2]) ∧ Below w1.heap.size w1 w') := fun w1 h => by
                  obtain ⟨A, c, e, hr, ht⟩ := (FO w1 h).refs
                  rw [hx, ← tabs_pt, e]; exact rAskE A c _ kk w1 hr ht hxr z5
                have H3 : Hid (∀ w1, Below wr.heap.size wr w1 → Calls Tryd.prog 15 #[.pointer (some ⟨cb, 0, none⟩), .string ll, .string dd] w1 fun e w' => e = .returned (.tuple #[S y.1, .bool y.2]) ∧ Below w1.heap.size w1 w') := fun w1 h => by rw [hy]; exact pCA cb _ ll dd w1 (FO w1 h).chain (by omega) (FO w1 h).good z6 z7
                have H4 : Hid (∀ w1, Below wr.heap.size wr w1 → Calls Tryd.prog 14 #[kv, .int .i64 1, .string ll, .string dd] w1 fun e w' => e = .returned (.tuple #[S y.1, .bool y.2]) ∧ Below w1.heap.size w1 w') := fun w1 h => by
                  obtain ⟨A, c, e, hr, ht⟩ := (FO w1 h).refs
                  rw [hy, ← tabs_pt, e]; exact rAskA A c _ ll dd w1 hr ht hxr z6 z7
                have H5 : Hid (∀ w1, Below wr.heap.size wr w1 → Calls Tryd.prog 16 #[.pointer (some ⟨cb, 0, none⟩), .string dd] w1 fun e w' => e = .returned (.tuple #[S z.1, .bool z.2]) ∧ Below w1.heap.size w1 w') := fun w1 h => by rw [hz]; exact pCD cb _ dd w1 (FO w1 h).chain (by omega) (FO w1 h).good z7
                have H6 : Hid (∀ w1, Below wr.heap.size wr w1 → Calls Tryd.prog 14 #[kv, .int .i64 2, .string dd, .string ⟨#[]⟩] w1 fun e w' => e = .returned (.tuple #[S z.1, .bool z.2]) ∧ Below w1.heap.size w1 w') := fun w1 h => by
                  obtain ⟨A, c, e, hr, ht⟩ := (FO w1 h).refs
                  rw [hz, ← tabs_pt, e]; exact rAskD A c _ dd w1 hr ht hxr z7
                have Q0 := Lib.hid (QB.start wr kk ll dd)
                clear FO hx hy hz hxl hxr z4 z5 z6 z7
                obtain ⟨c0, c1, c2⟩ := Q0.out.cells
                go_wp2_with (first | (go_at_call 13; refine (H1.out _ Q0.out.bel).mono ?_; rintro e w3 ⟨rfl, hb1⟩; refine Hid.out ?_) | fail)
                refine Lib.hid ?_
                have Q1 := Lib.hid (Q0.out.on hb1)
                clear hb1 c0 c1 c2 Q0 H1 z1 z2 z3
                obtain ⟨c0, c1, c2⟩ := Q1.out.cells
                go_wp2_with (first | (go_at_call 14; refine (H2.out _ Q1.out.bel).mono ?_; rintro e w4 ⟨rfl, hb1⟩; refine Hid.out ?_) | fail)
                refine Lib.hid ?_
                have Q2 := Lib.hid (Q1.out.on hb1)
                clear hb1 c0 c1 c2 Q1 H2
                obtain ⟨c0, c1, c2⟩ := Q2.out.cells
                go_wp2_with (first | (go_at_call 15; refine (H3.out _ Q2.out.bel).mono ?_; rintro e w5 ⟨rfl, hb1⟩; refine Hid.out ?_) | fail)
                refine Lib.hid ?_
                have Q3 := Lib.hid (Q2.out.on hb1)
                clear hb1 c0 c1 c2 Q2 H3
                obtain ⟨c0, c1, c2⟩ := Q3.out.cells
                go_wp2_with (first | (go_at_call 14; refine (H4.out _ Q3.out.bel).mono ?_; rintro e w6 ⟨rfl, hb1⟩; refine Hid.out ?_) | fail)
                refine Lib.hid ?_
                have Q4 := Lib.hid (Q3.out.on hb1)
                clear hb1 c0 c1 c2 Q3 H4
                obtain ⟨c0, c1, c2⟩ := Q4.out.cells
                go_wp2_with (first | (go_at_call 16; refine (H5.out _ Q4.out.bel).mono ?_; rintro e w7 ⟨rfl, hb1⟩; refine Hid.out ?_) | fail)
                refine Lib.hid ?_
                have Q5 := Lib.hid (Q4.out.on hb1)
                clear hb1 c0 c1 c2 Q4 H5
                obtain ⟨c0, c1, c2⟩ := Q5.out.cells
                go_wp2_with (first | (go_at_call 14; refine (H6.out _ Q5.out.bel).mono ?_; rintro e w8 ⟨rfl, hb1⟩; refine Hid.out ?_) | fail)
                refine Lib.hid ?_
                have Q6 := Lib.hid (Q5.out.on hb1)
                have HF6 := Lib.hid (HF.out.on Q6.out.bel)
                clear hb1 c0 c1 c2 Q5 H6 Q6 HF
                go_wp2
                go_roundw
                case rel => exact ⟨m + 1, by omega, by go_num, HF6⟩
                case measure => simp [intOf]; omega
              · have HC2 : ¬ (m : Int) < (n : Int) ∨ ((m : Int) < (n : Int) ∧ ¬ (m : Int) < 100) := by omega
                rcases HC2 with m3 | ⟨m3, m4⟩
                all_goals
                  go_wp2
                  go_ret
                  exact ⟨rfl, HF.out.below⟩
end Go.Proofs.YtbgdohggdaoojaaDoor.Table
