/-
  MERGED by mergefill.py: TabJoin.
-/
import Derived.Test.YtnehgbpfgehhiaaGreatDoorTabOffM
import Derived.Test.YtnehgbpfgehhiaaGreatDoorTabPEnd
import Derived.Deep.RegionHeld3
import Derived.StillTailTactics
import Derived.BigQuiet
import Derived.Deep.DrawnRows
/-
  TABLE, the program: tables are joined to a chain.
-/
namespace Go.Proofs.YtnehgbpfgehhiaaGreatDoor.Table
open Go.RowKit Base
attribute [local go_sem ↓] Go.wp_at_zero Go.wp_at_succ
theorem info82 : (Tryz.prog.info? 106).map (fun i => (i.zero, i.size, i.bytes)) = some (some (.agg #[.slice none 0 0]), 1, 24) := by kernel_rfl
/-- A table that is joined: where it lies, the slice of its entries. -/
abbrev PV := Option (Nat × Value)
def ptrV : PV → Value
  | none => .pointer none
  | some p => .pointer (some ⟨p.1, 0, none⟩)
def valsOf (ps : List PV) : List Value := (ps.filterMap id).map Prod.snd
/-- How far the tables are joined. -/
structure JSt (w wr : World) (xs : List Value) (cv : Value) : Prop where
  below : Below w.heap.size w wr
  box : wr.heap[w.heap.size]? = some (.cells #[cv] 104 (0, 0))
  row : wr.ownsRow w.heap.size 106 1 cv xs.length xs
theorem JSt.start (w : World) : JSt w (w.alloc (.cells #[.slice none 0 0] 104)) [] (.slice none 0 0) := ⟨Below.alloc1 _ _, (MapKept.heap_alloc w _).1, World.ownsRow_nil _ _ _ _⟩
structure JF (w wr : World) (xs : List Value) (ca : Option Addr) (cc : Nat) (b : Nat) (sv : Value) (na : Option Addr) (nc : Nat) (w3 : World) : Prop where
  s0 : wr.drew.cell? ⟨b, 0, none⟩ = some sv
  s1 : (wr.drew.alloc (.cells #[sv] 106)).cell? ⟨b, 0, none⟩ = some sv
  s2 : w3.cell? ⟨b, 0, none⟩ = some sv
  s3 : (w3.setCell ⟨w.heap.size, 0, none⟩ (.slice na (xs.length + 1) nc)).cell? ⟨b, 0, none⟩ = some sv
  run : (Builtin.append_ #[102, 102] 102 #[.slice ca xs.length cc, .slice (some ⟨wr.heap.size, 0, none⟩) 1 1]).run Tryz.prog (wr.drew.alloc (.cells #[sv] 106)) = .ok (.slice na (xs.length + 1) nc) w3
  d1 : wr.drew.cell? ⟨w.heap.size, 0, none⟩ = some (.slice ca xs.length cc)
  d2 : (wr.drew.alloc (.cells #[sv] 106)).cell? ⟨w.heap.size, 0, none⟩ = some (.slice ca xs.length cc)
  d3 : w3.cell? ⟨w.heap.size, 0, none⟩ = some (.slice ca xs.length cc)
  d4 : w3.frozen? ⟨w.heap.size, 0, none⟩ = false
  fin : JSt w (w3.setCell ⟨w.heap.size, 0, none⟩ (.slice na (xs.length + 1) nc)) (xs ++ [sv]) (.slice na (xs.length + 1) nc)
theorem join_step {w wr : World} {xs : List Value} {ca : Option Addr} {cc : Nat} (h : JSt w wr xs (.slice ca xs.length cc)) {b : Nat} {sv : Value} (hb : w.heap[b]? = some (.cells #[sv] 106 (0, 0))) (h1 : sv.oneCell' = true) (hn : xs.length ≤ 1000000) : ∃ na nc w3, JF w wr xs ca cc b sv na nc w3 := by
  obtain ⟨i0, hi, hz0, hz1, hz2⟩ := info_parts info82
  have hbl := heap_lt hb
  have bd : Below w.heap.size w wr.drew := h.below.trans ((bel_drewN 1 wr (Nat.le_refl _)).mono h.below.size)
  have ba : Below w.heap.size w (wr.drew.alloc (.cells #[sv] 106)) := bd.trans ((Below.alloc1 wr.drew _).mono bd.size)
  have xd : wr.drew.heap[w.heap.size]? = some (.cells #[.slice ca xs.length cc] 104 (0, 0)) := ((bel_drewN 1 wr (Nat.le_refl _)).block _ (heap_lt h.box)).trans h.box
  have xa : (wr.drew.alloc (.cells #[sv] 106)).heap[w.heap.size]? = some (.cells #[.slice ca xs.length cc] 104 (0, 0)) := ((Below.alloc1 wr.drew _).block _ (heap_lt xd)).trans xd
  have rd : wr.drew.ownsRow w.heap.size 106 1 (.slice ca xs.length cc) xs.length xs := row_kept h.row fun k hk => (bel_drewN 1 wr (Nat.le_refl _)).block k (World.ownsRow.lt h.row k hk).2
  have ra : (wr.drew.alloc (.cells #[sv] 106)).ownsRow w.heap.size 106 1 (.slice ca xs.length cc) xs.length xs := row_kept rd fun k hk => (Below.alloc1 wr.drew _).block k (World.ownsRow.lt rd k hk).2
  have hnb := (MapKept.heap_alloc wr.drew (.cells #[sv] 106)).1
  obtain ⟨v', w3, e1, e2, e3, _, _⟩ := run_append_own_at (P := Tryz.prog) (wr.drew.alloc (.cells #[sv] 106)) w.heap.size 102 102 106 i0 (.agg #[.slice none 0 0]) 1 24 Tryz.underlying102 hi hz0 hz1 hz2 rfl (by decide) (.slice ca xs.length cc) xs.length xs ra ⟨wr.heap.size, 0, none⟩ 1 1 [sv] rfl
    (fun j u hu => by
      rw [Addr.add_lit, Nat.zero_add]
      exact (cell_of_row _ _ j _ _ _ hnb).trans (by simpa using hu))
    (fun u hu => by rw [List.mem_singleton.1 hu]; exact h1) (by unfold maxLen; omega) (by omega) ba.size
  obtain ⟨na, nc, rfl, _⟩ := row_form e2
  have hne : (Value.slice ca xs.length cc).ownBlock ≠ some w.heap.size := fun e => by
    obtain ⟨cs, fz, hh⟩ := row_type ra e
    rw [xa] at hh; cases hh
  have b3 : Below w.heap.size w w3 := ba.grown e3 ba.size (fun j hj => (World.ownsRow.lt ra j hj).1)
  obtain ⟨_, _, _, _, hbk⟩ := e3
  have x3 : w3.heap[w.heap.size]? = some (.cells #[.slice ca xs.length cc] 104 (0, 0)) := (hbk _ (heap_lt xa) (fun e => hne e.symm)).trans xa
  have hne3 : (Value.slice na (xs.length + 1) nc).ownBlock ≠ some w.heap.size := fun e => by
    obtain ⟨cs, fz, hh⟩ := row_type e2 e
    rw [x3] at hh; cases hh
  have hcell : ∀ w', Below w.heap.size w w' → w'.cell? ⟨b, 0, none⟩ = some sv := fun w' hw' => cell_of_row w' b 0 _ _ _ ((hw'.block b hbl).trans hb)
  have b4 : Below w.heap.size w (w3.setCell ⟨w.heap.size, 0, none⟩ (.slice na (xs.length + 1) nc)) := b3.setCell (Nat.le_refl _) _
  refine ⟨na, nc, w3, hcell _ bd, hcell _ ba, hcell _ b3, hcell _ b4, e1, cell_of_row _ _ 0 _ _ _ xd, cell_of_row _ _ 0 _ _ _ xa, cell_of_row _ _ 0 _ _ _ x3, by simp [World.frozen?, x3], b4, ?_, ?_⟩
  · rw [heap_setCell_same w3 _ 0 _ _ _ x3]; rfl
  · rw [List.length_append]
    exact row_kept e2 fun k hk => Below.heap_setCell _ _ _ _ (fun e => hne3 (by rw [hk, e]))
def addV : PV → List Value
  | none => []
  | some p => [p.2]
theorem valsOf_take {ps : List PV} {k : Nat} {o : PV} (h : ps[k]? = some o) : valsOf (ps.take (k + 1)) = valsOf (ps.take k) ++ addV o := by
  have hk := (List.getElem?_eq_some_iff.1 h).1
  unfold valsOf
  rw [List.take_succ_eq_append_getElem hk, (List.getElem?_eq_some_iff.1 h).2, List.filterMap_append, List.map_append]
  cases o <;> rfl
theorem valsOf_len (ps : List PV) : (valsOf ps).length ≤ ps.length := by
  unfold valsOf
  rw [List.length_map]
  exact List.length_filterMap_le _ _
set_option maxHeartbeats 16000000 in
set_option maxRecDepth 100000 in
set_option linter.unusedSimpArgs false in
theorem pJoin (w : World) (A : Option Addr) (c : Nat) (ps : List PV) (hp : ∀ (i : Nat) (o : PV), ps[i]? = some o → ∃ g, A = some ⟨g, 0, none⟩ ∧ g < w.heap.size ∧ w.cell? ⟨g, i, none⟩ = some (ptrV o))
    (hb : ∀ (b : Nat) (sv : Value), some (b, sv) ∈ ps → w.heap[b]? = some (.cells #[sv] 106 (0, 0)) ∧ sv.oneCell' = true) (hn : ps.length ≤ 1000) :
    Calls Tryz.prog 19 #[.slice A ps.length c] w fun e w' => ∃ cv, e = .returned (.pointer (some ⟨w.heap.size, 0, none⟩)) ∧ JSt w w' (valsOf ps) cv := by
  have HP := Lib.hid hp
  have HB := Lib.hid hb
  have HS := Lib.hid (JSt.start w)
  clear hp hb
  go_enter Tryz.func19, Tryz.ntmps19
  go_wp2
  go_loopw [5, 10] (fun _ n wr => ∃ (k : Nat) (cv : Value), k ≤ ps.length ∧ n = .int .i64 (k : Int) ∧ Hid (JSt w wr (valsOf (ps.take k)) cv)) (fun _ n _ => ps.length - (intOf n).toNat)
  case atStart => exact ⟨0, _, by omega, rfl, HS⟩
  case round =>
    clear HS
    obtain ⟨k, cv, hk, rfl, HJ⟩ := hrel
    by_cases hlt : k < ps.length
    · have i0 : (0 : Int) ≤ (k : Int) := by omega
      have i1 : (k : Int) < (ps.length : Int) := by omega
      have hget : ps[k]? = some ps[k] := List.getElem?_eq_getElem hlt
      obtain ⟨g, rfl, hg, hc⟩ := HP.out k _ hget
      have HT := Lib.hid (valsOf_take hget)
      have HM := Lib.hid (show ps[k] ∈ ps from List.getElem_mem hlt)
      clear hget
      generalize ps[k] = o at hc HT HM
      have c0 : wr.cell? ⟨g, k, none⟩ = some (ptrV o) := (HJ.out.below.cell (p := ⟨g, k, none⟩) hg).trans hc
      clear hc hg
      cases o with
      | none =>
        have HJ2 : Hid (JSt w wr (valsOf (ps.take (k + 1))) cv) := by show JSt _ _ _ _; rw [HT.out]; show JSt w wr (valsOf (ps.take k) ++ []) cv; rw [List.append_nil]; exact HJ.out
        have c1 : wr.cell? ⟨g, k, none⟩ = some (.pointer none) := c0
        clear HJ HT HM c0
        go_wp2
        go_roundw
        case rel => exact ⟨k + 1, cv, by omega, by go_num, HJ2⟩
        case measure => simp [intOf]; omega
      | some p =>
        obtain ⟨b, sv⟩ := p
        obtain ⟨hbb, hone⟩ := HB.out b sv HM.out
        obtain ⟨ca, cc, rfl, _⟩ := row_form HJ.out.row
        obtain ⟨na, nc, w3, F⟩ := join_step HJ.out hbb hone (by have := valsOf_len (ps.take k); rw [List.length_take] at this; omega)
        have s0 := Lib.hid F.s0
        have s1 := Lib.hid F.s1
        have s2 := Lib.hid F.s2
        have s3 := Lib.hid F.s3
        have HR := Lib.hid F.run
        have HFIN : Hid (JSt w (w3.setCell ⟨w.heap.size, 0, none⟩ (.slice na ((valsOf (ps.take k)).length + 1) nc)) (valsOf (ps.take (k + 1))) (.slice na ((valsOf (ps.take k)).length + 1) nc)) := by show JSt _ _ _ _; rw [HT.out]; exact F.fin
        have d1 := F.d1
        have d2 : (wr.alloc (.cells #[sv] 106)).cell? ⟨w.heap.size, 0, none⟩ = some (.slice ca (valsOf (ps.take k)).length cc) := F.d2
        have d3 := F.d3
        have d4 := F.d4
        have c1 : wr.cell? ⟨g, k, none⟩ = some (.pointer (some ⟨b, 0, none⟩)) := c0
        clear F HJ HT HM c0 hbb hone
        go_wp2_with fail
        clear c1
        refine wp_region_noPanic ?_
        refine wp_region_held_drew (S := (fun w' => w'.cell? ⟨b, 0, none⟩ = some sv)) (by kernel_rfl) s0.out (fun hHeld => ?_)
        refine wpAnyH_take (i := 0) (v := ?v1) rfl (by kernel_rfl) (by kernel_rfl) (by kernel_rfl) (fun _ _ _ h => h) (Or.inl ⟨by rfl, ?hy1⟩) (by assumption) ?rest1
        case hy1 => (intro w hSw; (try dsimp only at hSw); go_simp; try with_reducible rfl)
        (try simp only [Act.put, List.getElem_toArray, List.getElem_cons_succ, List.getElem_cons_zero, List.setIfInBounds_toArray, List.set_cons_zero, List.set_cons_succ])
        refine wpAnyH_take (i := 1) (v := ?v2) rfl (by kernel_rfl) (by kernel_rfl) (by kernel_rfl) (fun _ _ _ h => h) (Or.inl ⟨by rfl, ?hy2⟩) (by assumption) ?rest2
        case hy2 => (intro w hSw; (try dsimp only at hSw); go_simp; try with_reducible rfl)
        (try simp only [Act.put, List.getElem_toArray, List.getElem_cons_succ, List.getElem_cons_zero, List.setIfInBounds_toArray, List.set_cons_zero, List.set_cons_succ])
        refine wpAnyH_take (i := 2) (v := ?v3) rfl (by kernel_rfl) (by kernel_rfl) (by kernel_rfl) (fun _ _ _ h => h) (Or.inl ⟨by rfl, ?hy3⟩) (by assumption) ?rest3
        case hy3 => (intro w hSw; (try dsimp only at hSw); go_simp; try with_reducible rfl)
        (try simp only [Act.put, List.getElem_toArray, List.getElem_cons_succ, List.getElem_cons_zero, List.setIfInBounds_toArray, List.set_cons_zero, List.set_cons_succ])
        refine wpAnyH_take (i := 3) (v := ?v4) rfl (by kernel_rfl) (by kernel_rfl) (by kernel_rfl) (fun _ _ _ h => h) (Or.inl ⟨by rfl, ?hy4⟩) (by assumption) ?rest4
        case hy4 => (intro w hSw; (try dsimp only at hSw); go_simp; try with_reducible rfl)
        (try simp only [Act.put, List.getElem_toArray, List.getElem_cons_succ, List.getElem_cons_zero, List.setIfInBounds_toArray, List.set_cons_zero, List.set_cons_succ])
        refine wpAnyH_take (i := 5) (v := ?v5) rfl (by kernel_rfl) (by kernel_rfl) (by kernel_rfl) (fun _ _ _ h => h) (Or.inl ⟨by rfl, ?hy5⟩) (by assumption) ?rest5
        case hy5 => (intro w hSw; (try dsimp only at hSw); go_simp; try with_reducible rfl)
        (try simp only [Act.put, List.getElem_toArray, List.getElem_cons_succ, List.getElem_cons_zero, List.setIfInBounds_toArray, List.set_cons_zero, List.set_cons_succ])
        refine wpAnyH_take (i := 6) (v := ?v6) rfl (by kernel_rfl) (by kernel_rfl) (by kernel_rfl) (fun _ _ _ h => h) (Or.inl ⟨by rfl, ?hy6⟩) (by assumption) ?rest6
        case hy6 => (intro w hSw; (try dsimp only at hSw); go_simp; try with_reducible rfl)
        (try simp only [Act.put, List.getElem_toArray, List.getElem_cons_succ, List.getElem_cons_zero, List.setIfInBounds_toArray, List.set_cons_zero, List.set_cons_succ])
        refine wpAnyH_take (i := 7) (v := ?v7) rfl (by kernel_rfl) (by kernel_rfl) (by kernel_rfl) (fun _ _ _ h => h) (Or.inl ⟨by rfl, ?hy7⟩) (by assumption) ?rest7
        case hy7 => (intro w hSw; (try dsimp only at hSw); go_simp; try with_reducible rfl)
        (try simp only [Act.put, List.getElem_toArray, List.getElem_cons_succ, List.getElem_cons_zero, List.setIfInBounds_toArray, List.set_cons_zero, List.set_cons_succ])
        refine wpAnyH_ready (rs := [4, 8]) (by kernel_rfl) (by simp) ?_
        refine AllReadyH.cons rfl (fun K hK => ?_) ?_
        · go_simp
          refine hK.out _ _ (by (first | exact s0.out | exact s1.out | exact s2.out | exact s3.out)) (fun hHeld => ?_)
          clear hK K
          (try simp only [Act.put, List.getElem_toArray, List.getElem_cons_succ, List.getElem_cons_zero, List.setIfInBounds_toArray, List.set_cons_zero, List.set_cons_succ])
          refine wpAnyH_ready (rs := [8]) (by kernel_rfl) (by simp) ?_
          refine AllReadyH.cons rfl (fun K hK => ?_) ?_
          · go_simp
            refine hK.out _ _ (by (first | exact s0.out | exact s1.out | exact s2.out | exact s3.out)) (fun hHeld => ?_)
            clear hK K
            (try simp only [Act.put, List.getElem_toArray, List.getElem_cons_succ, List.getElem_cons_zero, List.setIfInBounds_toArray, List.set_cons_zero, List.set_cons_succ])
            refine wpAnyH_ready (rs := [9]) (by kernel_rfl) (by simp) ?_
            refine AllReadyH.cons rfl (fun K hK => ?_) ?_
            · refine step_append_run rfl (.tmp 20) (.tmp 24) 102 rfl _ _ _ _ (by simp [Act.eval, Act.put]) (by simp [Act.eval, Act.put]) 102 rfl HR.out ?_
              refine hK.out _ _ (by (first | exact s0.out | exact s1.out | exact s2.out | exact s3.out)) (fun hHeld => ?_)
              clear hK K
              (try simp only [Act.put, List.getElem_toArray, List.getElem_cons_succ, List.getElem_cons_zero, List.setIfInBounds_toArray, List.set_cons_zero, List.set_cons_succ])
              refine wpAnyH_take (i := 10) (v := ?v8) rfl (by kernel_rfl) (by kernel_rfl) (by kernel_rfl) (fun _ _ _ h => h) (Or.inl ⟨by rfl, ?hy8⟩) (by assumption) ?rest8
              case hy8 => (intro w hSw; (try dsimp only at hSw); go_simp; try with_reducible rfl)
              (try simp only [Act.put, List.getElem_toArray, List.getElem_cons_succ, List.getElem_cons_zero, List.setIfInBounds_toArray, List.set_cons_zero, List.set_cons_succ])
              refine wpAnyH_take (i := 11) (v := ?v9) rfl (by kernel_rfl) (by kernel_rfl) (by kernel_rfl) (fun _ _ _ h => h) (Or.inl ⟨by rfl, ?hy9⟩) (by assumption) ?rest9
              case hy9 => (intro w hSw; (try dsimp only at hSw); go_simp; try with_reducible rfl)
              (try simp only [Act.put, List.getElem_toArray, List.getElem_cons_succ, List.getElem_cons_zero, List.setIfInBounds_toArray, List.set_cons_zero, List.set_cons_succ])
              refine wpAnyH_ready (rs := [12]) (by kernel_rfl) (by simp) ?_
              refine AllReadyH.cons rfl (fun K hK => ?_) ?_
              · go_simp
                refine hK.out _ _ (by (first | exact s0.out | exact s1.out | exact s2.out | exact s3.out)) (fun hHeld => ?_)
                clear hK K
                (try simp only [Act.put, List.getElem_toArray, List.getElem_cons_succ, List.getElem_cons_zero, List.setIfInBounds_toArray, List.set_cons_zero, List.set_cons_succ])
                refine wpAnyH_done (by kernel_rfl) ?_ _
                refine NoPanic.normal ?_
                go_wp2
                go_roundw
                case rel => exact ⟨k + 1, _, by omega, by go_num, HFIN⟩
                case measure => simp [intOf]; omega
              exact AllReadyH.nil
            exact AllReadyH.nil
          exact AllReadyH.nil
        refine AllReadyH.cons rfl (fun K hK => ?_) ?_
        · go_simp
          refine hK.out _ _ (by (first | exact s0.out | exact s1.out | exact s2.out | exact s3.out)) (fun hHeld => ?_)
          clear hK K
          (try simp only [Act.put, List.getElem_toArray, List.getElem_cons_succ, List.getElem_cons_zero, List.setIfInBounds_toArray, List.set_cons_zero, List.set_cons_succ])
          refine wpAnyH_ready (rs := [4]) (by kernel_rfl) (by simp) ?_
          refine AllReadyH.cons rfl (fun K hK => ?_) ?_
          · go_simp
            refine hK.out _ _ (by (first | exact s0.out | exact s1.out | exact s2.out | exact s3.out)) (fun hHeld => ?_)
            clear hK K
            (try simp only [Act.put, List.getElem_toArray, List.getElem_cons_succ, List.getElem_cons_zero, List.setIfInBounds_toArray, List.set_cons_zero, List.set_cons_succ])
            refine wpAnyH_ready (rs := [9]) (by kernel_rfl) (by simp) ?_
            refine AllReadyH.cons rfl (fun K hK => ?_) ?_
            · refine step_append_run rfl (.tmp 20) (.tmp 24) 102 rfl _ _ _ _ (by simp [Act.eval, Act.put]) (by simp [Act.eval, Act.put]) 102 rfl HR.out ?_
              refine hK.out _ _ (by (first | exact s0.out | exact s1.out | exact s2.out | exact s3.out)) (fun hHeld => ?_)
              clear hK K
              (try simp only [Act.put, List.getElem_toArray, List.getElem_cons_succ, List.getElem_cons_zero, List.setIfInBounds_toArray, List.set_cons_zero, List.set_cons_succ])
              refine wpAnyH_take (i := 10) (v := ?v10) rfl (by kernel_rfl) (by kernel_rfl) (by kernel_rfl) (fun _ _ _ h => h) (Or.inl ⟨by rfl, ?hy10⟩) (by assumption) ?rest10
              case hy10 => (intro w hSw; (try dsimp only at hSw); go_simp; try with_reducible rfl)
              (try simp only [Act.put, List.getElem_toArray, List.getElem_cons_succ, List.getElem_cons_zero, List.setIfInBounds_toArray, List.set_cons_zero, List.set_cons_succ])
              refine wpAnyH_take (i := 11) (v := ?v11) rfl (by kernel_rfl) (by kernel_rfl) (by kernel_rfl) (fun _ _ _ h => h) (Or.inl ⟨by rfl, ?hy11⟩) (by assumption) ?rest11
              case hy11 => (intro w hSw; (try dsimp only at hSw); go_simp; try with_reducible rfl)
              (try simp only [Act.put, List.getElem_toArray, List.getElem_cons_succ, List.getElem_cons_zero, List.setIfInBounds_toArray, List.set_cons_zero, List.set_cons_succ])
              refine wpAnyH_ready (rs := [12]) (by kernel_rfl) (by simp) ?_
              refine AllReadyH.cons rfl (fun K hK => ?_) ?_
              · go_simp
                refine hK.out _ _ (by (first | exact s0.out | exact s1.out | exact s2.out | exact s3.out)) (fun hHeld => ?_)
                clear hK K
                (try simp only [Act.put, List.getElem_toArray, List.getElem_cons_succ, List.getElem_cons_zero, List.setIfInBounds_toArray, List.set_cons_zero, List.set_cons_succ])
                refine wpAnyH_done (by kernel_rfl) ?_ _
                refine NoPanic.normal ?_
                go_wp2
                go_roundw
                case rel => exact ⟨k + 1, _, by omega, by go_num, HFIN⟩
                case measure => simp [intOf]; omega
              exact AllReadyH.nil
            exact AllReadyH.nil
          exact AllReadyH.nil
        exact AllReadyH.nil
    · have i1 : ¬ (k : Int) < (ps.length : Int) := by omega
      have HJ2 : Hid (JSt w wr (valsOf ps) cv) := by show JSt _ _ _ _; rw [← List.take_of_length_le (i := k) (l := ps) (by omega)]; exact HJ.out
      clear HJ
      go_wp2
      go_ret
      exact ⟨rfl, cv, HJ2.out⟩
end Go.Proofs.YtnehgbpfgehhiaaGreatDoor.Table
