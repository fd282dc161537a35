/-
  MERGED by mergefill.py: CanCal, CanPath.
-/
import Derived.Test.YtnehgbpfgehhiaaGreatDoorCanNew
import Derived.Deep.RegionHeld3
/-
  CANON, the program: what the tables put in a mailbox's place.
-/
namespace Go.Proofs.YtnehgbpfgehhiaaGreatDoor.Path
open Go.RowKit Base
/-- What the tables answer for a mailbox. -/
def askR (Ts : List (List Table.KV)) (l d : ByteArray) : Table.Ans := Table.firstA (fun T => Table.addrA T l.data.toList d.data.toList) Ts
def fullR (host : ByteArray) (p : PV) : PV := if p.dom.size = 0 then ⟨p.null, p.loc, host, p.lit⟩ else p
def calledR (L : LitF) (f : ByteArray → ByteArray) (host : ByteArray) (Ts : List (List Table.KV)) (p : PV) : PV :=
  if (askR Ts (fullR host p).loc (fullR host p).dom).2 = true then (repR L f (fullR host p).loc ⟨(askR Ts (fullR host p).loc (fullR host p).dom).1.toArray⟩).1 else fullR host p
def PvEnd (w : World) (q : PV) (e : Ending) (w' : World) : Prop := e = .returned q.val ∧ Below w.heap.size w w'
theorem results_one_path {w : World} {fn : Func} {tmps : Array Value} {i b : Nat} {p : PV} (hr : fn.results = #[ResultVar.cell i 26]) (h1 : tmps.getD i undef = .pointer (some ⟨b, 0, none⟩)) (hat : PathAt w b p) :
    (results fn tmps).run Tryz.prog w = .ok p.val w := by
  have hl := run_loadVar_row (P := Tryz.prog) w b 26 26 p.cells.toArray (0, 0) _ hat Tryz.underlying26 rfl (by kernel_rfl)
  unfold results
  rw [hr]
  rw [Array.getD_eq_getD_getElem?] at h1
  simp [h1, hl, asAddr, PV.val]
theorem path_two {w : World} {b : Nat} {p : PV} (h : PathAt w b p) (d : ByteArray) : PathAt (w.setCell ⟨b, 2, none⟩ (.string d)) b ⟨p.null, p.loc, d, p.lit⟩ := by
  unfold PathAt; rw [heap_setCell_any w b 2 _ _ _ _ h]; rfl
theorem two_paths (w : World) (n : Bool) (l d : ByteArray) (t : Bool) {X : World} (hX : ((w.alloc (Obj.cells #[Value.bool n, Value.string l, Value.string d, Value.bool t] 26)).alloc (Obj.cells #[Value.bool false, Value.string ⟨#[]⟩, Value.string ⟨#[]⟩, Value.bool false] 26)) = X) :
    Below w.heap.size w X ∧ PathAt X w.heap.size ⟨n, l, d, t⟩ ∧ PathAt X (w.heap.size + 1) PV.zero := by
  subst hX
  have HB0 := Below.alloc1 w (Obj.cells #[Value.bool n, Value.string l, Value.string d, Value.bool t] 26)
  have HP := (MapKept.heap_alloc w (Obj.cells #[Value.bool n, Value.string l, Value.string d, Value.bool t] 26)).1
  refine ⟨below_step HB0 _, path_alloc (p := ⟨n, l, d, t⟩) HP _, ?_⟩
  have e := (MapKept.heap_alloc (w.alloc (Obj.cells #[Value.bool n, Value.string l, Value.string d, Value.bool t] 26)) (Obj.cells #[Value.bool false, Value.string ⟨#[]⟩, Value.string ⟨#[]⟩, Value.bool false] 26)).1
  rw [alloc_size] at e
  exact e
/-- While the chain is asked: the mailbox's box, the canon's. -/
def CalS (W : World) (P b cb : Nat) (l d : ByteArray) (w' : World) : Prop := Below W.heap.size W w' ∧ w'.cell? ⟨P, 1, none⟩ = some (.string l) ∧ w'.cell? ⟨P, 2, none⟩ = some (.string d) ∧ w'.cell? ⟨b, 1, none⟩ = some (.pointer (some ⟨cb, 0, none⟩))
theorem CalS.drew {W w' : World} {P b cb : Nat} {l d : ByteArray} (h : CalS W P b cb l d w') : CalS W P b cb l d w'.drew := ⟨h.1.drew, h.2⟩
theorem CalS.on {W w' w2 : World} {P b cb : Nat} {l d : ByteArray} (h : CalS W P b cb l d w') (hb : Below w'.heap.size w' w2) : CalS W P b cb l d w2 :=
  ⟨h.1.trans (hb.mono h.1.size), cell_on h.2.1 hb, cell_on h.2.2.1 hb, cell_on h.2.2.2 hb⟩
set_option maxHeartbeats 8000000 in
set_option maxRecDepth 100000 in
theorem pCalled {w0 : World} {L : LitF} {f : ByteArray → ByteArray} (hL : LitOk w0 L) (hf : FormOk f) (b : Nat) (host : ByteArray) (Ts : List (List Table.KV)) (p : PV) (w : World) (hE : Below w0.heap.size w0 w) (hC : CanonAt w b host Ts)
    (hl : p.loc.size ≤ 1000000000) (hd : p.dom.size ≤ 1000000000) (hh : host.size ≤ 1000000000) (hV : (askR Ts (fullR host p).loc (fullR host p).dom).2 = true → ValOk L ⟨(askR Ts (fullR host p).loc (fullR host p).dom).1.toArray⟩) :
    Calls Tryz.prog 25 #[.pointer (some ⟨b, 0, none⟩), p.val] w (PvEnd w (calledR L f host Ts p)) := by
  obtain ⟨D, hD⟩ : ∃ D, D = calledR L f host Ts p := ⟨_, rfl⟩
  rw [← hD]
  obtain ⟨⟨cb, hbx, hch⟩, hgood, hfew⟩ := hC
  obtain ⟨x0, x1, _, _⟩ := two_cells hbx
  have HE0 : Hid (∀ w', Below w.heap.size w w' → Below w0.heap.size w0 w') := fun w' h => hE.trans (h.mono hE.size)
  have HBX := Lib.hid hbx
  have hbw := heap_lt hbx
  have HA := Lib.hid (fun (l d : ByteArray) (W : World) (hb : Below w.heap.size w W) (h1 : l.size ≤ 1000000000) (h2 : d.size ≤ 1000000000) => Table.pCA cb Ts l d W (hch.on hb) (by omega) hgood (by omega) (by omega))
  have HR := Lib.hid (fun (q : PV) (v : ByteArray) (W : World) (hb : Below w.heap.size w W) (hv : ValOk L v) => pReplaced hL hf q v W (hE.trans (hb.mono hE.size)) hv)
  clear hbx hch hgood hE hL hf
  unfold calledR at hD
  obtain ⟨n0, l0, d0, t0⟩ := p
  have hl : l0.size ≤ 1000000000 := hl
  have hd : d0.size ≤ 1000000000 := hd
  show Calls Tryz.prog 25 #[.pointer (some ⟨b, 0, none⟩), .agg #[.bool n0, .string l0, .string d0, .bool t0]] w (PvEnd w D)
  by_cases h0 : d0.size = 0
  · obtain rfl := str_empty h0
    have hfull : fullR host ⟨n0, l0, ⟨#[]⟩, t0⟩ = ⟨n0, l0, host, t0⟩ := rfl
    rw [hfull] at hD hV
    go_enter Tryz.func25, Tryz.ntmps25
    go_upto_region 3 with fail
    generalize hX : ((w.alloc (Obj.cells #[Value.bool n0, Value.string l0, Value.string host, Value.bool t0] 26)).alloc (Obj.cells #[Value.bool false, Value.string ⟨#[]⟩, Value.string ⟨#[]⟩, Value.bool false] 26)) = X
    obtain ⟨hbx, hpx, hzx⟩ := two_paths w n0 l0 host t0 hX
    have HBX1 := Lib.hid hbx
    have HPX := Lib.hid hpx
    have HZX := Lib.hid hzx
    have k1 : X.cell? ⟨b, 1, none⟩ = some (.pointer (some ⟨cb, 0, none⟩)) := cell_on x1 hbx
    obtain ⟨c0, c1, c2, c3, f0, f1, f2, f3⟩ := four_cells hpx
    have HS0 : Hid (CalS X w.heap.size b cb l0 host X) := ⟨Below.refl _ _, c1, c2, k1⟩
    clear hbx hpx hzx hX c0 c3 f0 f1 f2 f3
    have HA1 := Lib.hid (fun (W : World) (hb : CalS X w.heap.size b cb l0 host W) => HA.out l0 host W (HBX1.out.trans (hb.1.mono HBX1.out.size)) (by omega) (by omega))
    have HR1 := Lib.hid (fun (q : PV) (W : World) (hb : Below w.heap.size w W) (hv : (askR Ts l0 host).2 = true) => HR.out q ⟨(askR Ts l0 host).1.toArray⟩ W hb (hV hv))
    have HD1 : Hid (D = if (askR Ts l0 host).2 = true then (repR L f l0 ⟨(askR Ts l0 host).1.toArray⟩).1 else ⟨n0, l0, host, t0⟩) := hD
    clear hD hV HR HA
    have HA2 : Hid (∀ W, CalS X w.heap.size b cb l0 host W → Calls Tryz.prog 57 #[.pointer (some ⟨cb, 0, none⟩), .string l0, .string host] W fun e w' => e = .returned (.tuple #[.string ⟨(askR Ts l0 host).1.toArray⟩, .bool (askR Ts l0 host).2]) ∧ Below W.heap.size W w') := HA1.out
    generalize askR Ts l0 host = an at HA2 HR1 HD1
    obtain ⟨vl, is⟩ := an
    clear HA1
    go_region_held3 (fun w' => Below X.heap.size X w' ∧ w'.cell? ⟨w.heap.size, 1, none⟩ = some (.string l0) ∧ w'.cell? ⟨w.heap.size, 2, none⟩ = some (.string host) ∧ w'.cell? ⟨b, 1, none⟩ = some (.pointer (some ⟨cb, 0, none⟩)))
      (first | exact CalS.drew HS0.out | exact CalS.on (by assumption) hb | fail)
      (first | (go_at_call 57; refine (HA2.out _ (by assumption)).mono ?_; rintro e wn ⟨rfl, hb⟩) | fail)
    have hh : CalS X w.heap.size b cb l0 host wn := by assumption
    have HBn : Hid (Below w.heap.size w wn) := HBX1.out.trans (hh.1.mono HBX1.out.size)
    have p1 : PathAt wn w.heap.size ⟨n0, l0, host, t0⟩ := (hh.1.block _ (heap_lt HPX.out)).trans HPX.out
    have z1 : PathAt wn (w.heap.size + 1) PV.zero := (hh.1.block _ (heap_lt HZX.out)).trans HZX.out
    have HZn := Lib.hid z1
    obtain ⟨c0, c1, c2, c3, f0, f1, f2, f3⟩ := four_cells p1
    obtain ⟨y0, y1, y2, y3, g0, g1, g2, g3⟩ := four_cells z1
    clear hh HPX HZX HS0 HA2 p1 z1 hb k1
    cases is with
    | false =>
      have HT : Hid (D = ⟨n0, l0, host, t0⟩) := HD1.out
      clear HR1 HD1
      go_wp2
      refine bodyPost_ret (results_one_path (p := ⟨n0, l0, host, t0⟩) Tryz.results25 rfl (path_four HZn.out ⟨n0, l0, host, t0⟩)) rfl ?_
      rw [HT.out]
      exact ⟨rfl, below_four _ (by omega) HBn.out _ _ _ _⟩
    | true =>
      have HT : Hid (D = (repR L f l0 ⟨vl.toArray⟩).1) := HD1.out
      have C2 : Hid (Calls Tryz.prog 47 #[.agg #[.bool n0, .string l0, .string host, .bool t0], .string ⟨vl.toArray⟩] wn (RepEnd wn (repR L f l0 ⟨vl.toArray⟩))) := HR1.out ⟨n0, l0, host, t0⟩ wn HBn.out rfl
      clear HR1 HD1
      generalize repR L f l0 ⟨vl.toArray⟩ = r at C2 HT
      obtain ⟨⟨n, l, d, t⟩, bb⟩ := r
      have C2 : Hid (Calls Tryz.prog 47 #[.agg #[.bool n0, .string l0, .string host, .bool t0], .string ⟨vl.toArray⟩] wn fun e w' => e = .returned (.tuple #[.agg #[.bool n, .string l, .string d, .bool t], .bool bb]) ∧ Below wn.heap.size wn w') := C2
      have HT : Hid (D = ⟨n, l, d, t⟩) := HT
      go_wp2_with (first | (go_at_call 47; refine C2.out.mono ?_; rintro ee w5 ⟨rfl, hb⟩; refine Hid.out ?_) | fail)
      refine Lib.hid ?_
      have HB5 : Hid (Below w.heap.size w w5) := HBn.out.trans (hb.mono HBn.out.size)
      have z5 := HZn.out.on hb
      have HZ5 := Lib.hid z5
      have hlt5 := heap_lt z5
      have ne1 : ¬ w5.heap.size = w.heap.size + 1 := by omega
      have ne2 : ¬ w.heap.size + 1 = w5.heap.size := by omega
      clear c0 c1 c2 c3 f0 f1 f2 f3 y0 y1 y2 y3 g0 g1 g2 g3
      obtain ⟨y0, y1, y2, y3, g0, g1, g2, g3⟩ := four_cells z5
      clear hb z5 C2 HBn HZn
      go_wp2
      refine bodyPost_ret (results_one_path (p := ⟨n, l, d, t⟩) Tryz.results25 rfl (path_alloc (path_four HZ5.out ⟨n, l, d, t⟩) _)) rfl ?_
      rw [HT.out]
      exact ⟨rfl, below_step (below_four _ (by omega) HB5.out _ _ _ _) _⟩
  · obtain ⟨hn1, hn2⟩ := str_ne h0
    have hfull : fullR host ⟨n0, l0, d0, t0⟩ = ⟨n0, l0, d0, t0⟩ := by unfold fullR; rw [if_neg h0]
    rw [hfull] at hD hV
    clear h0
    go_enter Tryz.func25, Tryz.ntmps25
    go_upto_region 3 with fail
    generalize hX : ((w.alloc (Obj.cells #[Value.bool n0, Value.string l0, Value.string d0, Value.bool t0] 26)).alloc (Obj.cells #[Value.bool false, Value.string ⟨#[]⟩, Value.string ⟨#[]⟩, Value.bool false] 26)) = X
    obtain ⟨hbx, hpx, hzx⟩ := two_paths w n0 l0 d0 t0 hX
    have HBX1 := Lib.hid hbx
    have HPX := Lib.hid hpx
    have HZX := Lib.hid hzx
    have k1 : X.cell? ⟨b, 1, none⟩ = some (.pointer (some ⟨cb, 0, none⟩)) := cell_on x1 hbx
    obtain ⟨c0, c1, c2, c3, f0, f1, f2, f3⟩ := four_cells hpx
    have HS0 : Hid (CalS X w.heap.size b cb l0 d0 X) := ⟨Below.refl _ _, c1, c2, k1⟩
    clear hbx hpx hzx hX c0 c3 f0 f1 f2 f3
    have HA1 := Lib.hid (fun (W : World) (hb : CalS X w.heap.size b cb l0 d0 W) => HA.out l0 d0 W (HBX1.out.trans (hb.1.mono HBX1.out.size)) (by omega) (by omega))
    have HR1 := Lib.hid (fun (q : PV) (W : World) (hb : Below w.heap.size w W) (hv : (askR Ts l0 d0).2 = true) => HR.out q ⟨(askR Ts l0 d0).1.toArray⟩ W hb (hV hv))
    have HD1 : Hid (D = if (askR Ts l0 d0).2 = true then (repR L f l0 ⟨(askR Ts l0 d0).1.toArray⟩).1 else ⟨n0, l0, d0, t0⟩) := hD
    clear hD hV HR HA
    have HA2 : Hid (∀ W, CalS X w.heap.size b cb l0 d0 W → Calls Tryz.prog 57 #[.pointer (some ⟨cb, 0, none⟩), .string l0, .string d0] W fun e w' => e = .returned (.tuple #[.string ⟨(askR Ts l0 d0).1.toArray⟩, .bool (askR Ts l0 d0).2]) ∧ Below W.heap.size W w') := HA1.out
    generalize askR Ts l0 d0 = an at HA2 HR1 HD1
    obtain ⟨vl, is⟩ := an
    clear HA1
    go_region_held3 (fun w' => Below X.heap.size X w' ∧ w'.cell? ⟨w.heap.size, 1, none⟩ = some (.string l0) ∧ w'.cell? ⟨w.heap.size, 2, none⟩ = some (.string d0) ∧ w'.cell? ⟨b, 1, none⟩ = some (.pointer (some ⟨cb, 0, none⟩)))
      (first | exact CalS.drew HS0.out | exact CalS.on (by assumption) hb | fail)
      (first | (go_at_call 57; refine (HA2.out _ (by assumption)).mono ?_; rintro e wn ⟨rfl, hb⟩) | fail)
    have hh : CalS X w.heap.size b cb l0 d0 wn := by assumption
    have HBn : Hid (Below w.heap.size w wn) := HBX1.out.trans (hh.1.mono HBX1.out.size)
    have p1 : PathAt wn w.heap.size ⟨n0, l0, d0, t0⟩ := (hh.1.block _ (heap_lt HPX.out)).trans HPX.out
    have z1 : PathAt wn (w.heap.size + 1) PV.zero := (hh.1.block _ (heap_lt HZX.out)).trans HZX.out
    have HZn := Lib.hid z1
    obtain ⟨c0, c1, c2, c3, f0, f1, f2, f3⟩ := four_cells p1
    obtain ⟨y0, y1, y2, y3, g0, g1, g2, g3⟩ := four_cells z1
    clear hh HPX HZX HS0 HA2 p1 z1 hb k1
    cases is with
    | false =>
      have HT : Hid (D = ⟨n0, l0, d0, t0⟩) := HD1.out
      clear HR1 HD1
      go_wp2
      refine bodyPost_ret (results_one_path (p := ⟨n0, l0, d0, t0⟩) Tryz.results25 rfl (path_four HZn.out ⟨n0, l0, d0, t0⟩)) rfl ?_
      rw [HT.out]
      exact ⟨rfl, below_four _ (by omega) HBn.out _ _ _ _⟩
    | true =>
      have HT : Hid (D = (repR L f l0 ⟨vl.toArray⟩).1) := HD1.out
      have C2 : Hid (Calls Tryz.prog 47 #[.agg #[.bool n0, .string l0, .string d0, .bool t0], .string ⟨vl.toArray⟩] wn (RepEnd wn (repR L f l0 ⟨vl.toArray⟩))) := HR1.out ⟨n0, l0, d0, t0⟩ wn HBn.out rfl
      clear HR1 HD1
      generalize repR L f l0 ⟨vl.toArray⟩ = r at C2 HT
      obtain ⟨⟨n, l, d, t⟩, bb⟩ := r
      have C2 : Hid (Calls Tryz.prog 47 #[.agg #[.bool n0, .string l0, .string d0, .bool t0], .string ⟨vl.toArray⟩] wn fun e w' => e = .returned (.tuple #[.agg #[.bool n, .string l, .string d, .bool t], .bool bb]) ∧ Below wn.heap.size wn w') := C2
      have HT : Hid (D = ⟨n, l, d, t⟩) := HT
      go_wp2_with (first | (go_at_call 47; refine C2.out.mono ?_; rintro ee w5 ⟨rfl, hb⟩; refine Hid.out ?_) | fail)
      refine Lib.hid ?_
      have HB5 : Hid (Below w.heap.size w w5) := HBn.out.trans (hb.mono HBn.out.size)
      have z5 := HZn.out.on hb
      have HZ5 := Lib.hid z5
      have hlt5 := heap_lt z5
      have ne1 : ¬ w5.heap.size = w.heap.size + 1 := by omega
      have ne2 : ¬ w.heap.size + 1 = w5.heap.size := by omega
      clear c0 c1 c2 c3 f0 f1 f2 f3 y0 y1 y2 y3 g0 g1 g2 g3
      obtain ⟨y0, y1, y2, y3, g0, g1, g2, g3⟩ := four_cells z5
      clear hb z5 C2 HBn HZn
      go_wp2
      refine bodyPost_ret (results_one_path (p := ⟨n, l, d, t⟩) Tryz.results25 rfl (path_alloc (path_four HZ5.out ⟨n, l, d, t⟩) _)) rfl ?_
      rw [HT.out]
      exact ⟨rfl, below_step (below_four _ (by omega) HB5.out _ _ _ _) _⟩
end Go.Proofs.YtnehgbpfgehhiaaGreatDoor.Path
/-
  CANON, the program: Path.
-/
namespace Go.Proofs.YtnehgbpfgehhiaaGreatDoor.Path
open Go.RowKit Base
def canonR (L : LitF) (f : ByteArray → ByteArray) (host : ByteArray) (Ts : List (List Table.KV)) (p : PV) : PV :=
  if p.null = true ∨ p.lit = true ∨ rightR L f p ≠ 0 then p else if rightR L f (calledR L f host Ts p) ≠ 0 then p else calledR L f host Ts p
/-- While the texts are cloned: the mailbox's box. -/
def CloS (W : World) (P : Nat) (p : PV) (w' : World) : Prop := (Below W.heap.size W w' ∧ W.heap.size ≤ P ∧ PathAt w' P p ∧ PathAt w' (P + 1) PV.zero) ∧ w'.cell? ⟨P, 1, none⟩ = some (.string p.loc) ∧ w'.cell? ⟨P, 2, none⟩ = some (.string p.dom) ∧ w'.frozen? ⟨P, 1, none⟩ = false ∧ w'.frozen? ⟨P, 2, none⟩ = false
theorem CloS.of {W w' : World} {P : Nat} {p : PV} (hb : Below W.heap.size W w') (hP : W.heap.size ≤ P) (h : PathAt w' P p) (hz : PathAt w' (P + 1) PV.zero) : CloS W P p w' := by
  obtain ⟨_, c1, c2, _, _, f1, f2, _⟩ := four_cells h
  exact ⟨⟨hb, hP, h, hz⟩, c1, c2, f1, f2⟩
theorem CloS.drew {W w' : World} {P : Nat} {p : PV} (h : CloS W P p w') : CloS W P p w'.drew := ⟨⟨h.1.1.drew, h.1.2.1, h.1.2.2⟩, h.2⟩
theorem CloS.on {W w' w2 : World} {P : Nat} {p : PV} (h : CloS W P p w') (hb : Below w'.heap.size w' w2) : CloS W P p w2 := CloS.of (h.1.1.trans (hb.mono h.1.1.size)) h.1.2.1 (h.1.2.2.1.on hb) (h.1.2.2.2.on hb)
theorem CloS.set1 {W w' : World} {P : Nat} {p : PV} (h : CloS W P p w') : CloS W P p (w'.setCell ⟨P, 1, none⟩ (.string p.loc)) := CloS.of (h.1.1.setCell (p := ⟨P, 1, none⟩) h.1.2.1 _) h.1.2.1 (path_one h.1.2.2.1 p.loc) (((KeepX.set P w' 1 _).block _ (heap_lt h.1.2.2.2) (by omega)).trans h.1.2.2.2)
theorem CloS.set2 {W w' : World} {P : Nat} {p : PV} (h : CloS W P p w') : CloS W P p (w'.setCell ⟨P, 2, none⟩ (.string p.dom)) := CloS.of (h.1.1.setCell (p := ⟨P, 2, none⟩) h.1.2.1 _) h.1.2.1 (path_two h.1.2.2.1 p.dom) (((KeepX.set P w' 2 _).block _ (heap_lt h.1.2.2.2) (by omega)).trans h.1.2.2.2)
set_option maxHeartbeats 8000000 in
set_option maxRecDepth 100000 in
theorem pPathC {w0 : World} {L : LitF} {f : ByteArray → ByteArray} (hL : LitOk w0 L) (hf : FormOk f) (b : Nat) (host : ByteArray) (Ts : List (List Table.KV)) (p : PV) (w : World) (hE : Below w0.heap.size w0 w) (hC : CanonAt w b host Ts)
    (hl : p.loc.size ≤ 1000000000) (hd : p.dom.size ≤ 1000000000) (hh : host.size ≤ 1000000000) (hV : (askR Ts (fullR host p).loc (fullR host p).dom).2 = true → ValOk L ⟨(askR Ts (fullR host p).loc (fullR host p).dom).1.toArray⟩)
    (hql : (calledR L f host Ts p).loc.size ≤ 1000000000) (hqd : (calledR L f host Ts p).dom.size ≤ 1000000000) :
    Calls Tryz.prog 10 #[.pointer (some ⟨b, 0, none⟩), p.val] w (PvEnd w (canonR L f host Ts p)) := by
  obtain ⟨D, hD⟩ : ∃ D, D = canonR L f host Ts p := ⟨_, rfl⟩
  rw [← hD]
  have hCon : ∀ W, Below w.heap.size w W → CanonAt W b host Ts := fun W hb => by
    obtain ⟨⟨cb, hbx, hch⟩, hgood, hfew⟩ := hC
    exact ⟨⟨cb, (hb.block _ (heap_lt hbx)).trans hbx, hch.on hb⟩, hgood, hfew⟩
  have HR := Lib.hid (fun (W : World) (hb : Below w.heap.size w W) => pRight hL hf p W (hE.trans (hb.mono hE.size)) hl hd)
  have HCa := Lib.hid (fun (W : World) (hb : Below w.heap.size w W) => pCalled hL hf b host Ts p W (hE.trans (hb.mono hE.size)) (hCon W hb) hl hd hh hV)
  have HRq := Lib.hid (fun (W : World) (hb : Below w.heap.size w W) => pRight hL hf (calledR L f host Ts p) W (hE.trans (hb.mono hE.size)) hql hqd)
  have HD : Hid (D = if p.null = true ∨ p.lit = true ∨ rightR L f p ≠ 0 then p else if rightR L f (calledR L f host Ts p) ≠ 0 then p else calledR L f host Ts p) := hD
  have HCl := Lib.hid (fun (s : ByteArray) (w3 : World) (h : Hid (s.size ≤ 1000000000)) => pClone s w3 (by have := h.out; omega))
  have HZ1 : Hid (p.loc.size ≤ 1000000000) := hl
  have HZ2 : Hid (p.dom.size ≤ 1000000000) := hd
  clear hD hE hL hf hC hCon hV hl hd hql hqd
  generalize rightR L f (calledR L f host Ts p) = rq at HRq HD
  generalize calledR L f host Ts p = q at HCa HRq HD
  generalize rightR L f p = rp at HR HD
  obtain ⟨n0, l0, d0, t0⟩ := p
  obtain ⟨n, l, d, t⟩ := q
  have HZ1 : Hid (l0.size ≤ 1000000000) := HZ1
  have HZ2 : Hid (d0.size ≤ 1000000000) := HZ2
  show Calls Tryz.prog 10 #[.pointer (some ⟨b, 0, none⟩), .agg #[.bool n0, .string l0, .string d0, .bool t0]] w (PvEnd w D)
  have HR : Hid (∀ W, Below w.heap.size w W → Calls Tryz.prog 24 #[.agg #[.bool n0, .string l0, .string d0, .bool t0]] W fun e w' => e = .returned (.int .i64 rp) ∧ Below W.heap.size W w') := HR
  have HRq : Hid (∀ W, Below w.heap.size w W → Calls Tryz.prog 24 #[.agg #[.bool n, .string l, .string d, .bool t]] W fun e w' => e = .returned (.int .i64 rq) ∧ Below W.heap.size W w') := HRq
  have HCa : Hid (∀ W, Below w.heap.size w W → Calls Tryz.prog 25 #[.pointer (some ⟨b, 0, none⟩), .agg #[.bool n0, .string l0, .string d0, .bool t0]] W fun e w' => e = .returned (.agg #[.bool n, .string l, .string d, .bool t]) ∧ Below W.heap.size W w') := HCa
  have HCl : Hid (∀ (s : ByteArray) (w3 : World), Hid (s.size ≤ 1000000000) → Calls Tryz.prog 23 #[.string s] w3 fun e w' => e = .returned (.string s) ∧ Below w3.heap.size w3 w') := HCl
  have HD : Hid (D = if n0 = true ∨ t0 = true ∨ rp ≠ 0 then ⟨n0, l0, d0, t0⟩ else if rq ≠ 0 then ⟨n0, l0, d0, t0⟩ else ⟨n, l, d, t⟩) := HD
  go_enter Tryz.func10, Tryz.ntmps10
  go_upto_region 1 with fail
  generalize hX : ((w.alloc (Obj.cells #[Value.bool n0, Value.string l0, Value.string d0, Value.bool t0] 26)).alloc (Obj.cells #[Value.bool false, Value.string ⟨#[]⟩, Value.string ⟨#[]⟩, Value.bool false] 26)) = X
  obtain ⟨hbx, hpx, hzx⟩ := two_paths w n0 l0 d0 t0 hX
  have hs0 : CloS w w.heap.size ⟨n0, l0, d0, t0⟩ X := CloS.of hbx (Nat.le_refl _) hpx hzx
  have HS0 := Lib.hid hs0
  obtain ⟨_, c1, c2, f1, f2⟩ := hs0
  clear hbx hpx hzx hX
  go_region_held3 (fun w' => (Below w.heap.size w w' ∧ w.heap.size ≤ w.heap.size ∧ PathAt w' w.heap.size ⟨n0, l0, d0, t0⟩ ∧ PathAt w' (w.heap.size + 1) PV.zero) ∧ w'.cell? ⟨w.heap.size, 1, none⟩ = some (.string l0) ∧ w'.cell? ⟨w.heap.size, 2, none⟩ = some (.string d0) ∧ w'.frozen? ⟨w.heap.size, 1, none⟩ = false ∧ w'.frozen? ⟨w.heap.size, 2, none⟩ = false)
    (first | exact CloS.drew HS0.out | exact CloS.on (by assumption) hb | exact CloS.set1 (by assumption) | exact CloS.set2 (by assumption) | fail)
    (first | (go_at_call 23; refine (HCl.out _ _ (by first | exact HZ1 | exact HZ2)).mono ?_; rintro e wz ⟨rfl, hb⟩) | fail)
  have hh : CloS w w.heap.size ⟨n0, l0, d0, t0⟩ ((wz.setCell ⟨w.heap.size, 1, none⟩ (.string l0)).setCell ⟨w.heap.size, 2, none⟩ (.string d0)) := by first | assumption | exact CloS.set2 (by assumption) | exact CloS.set2 (CloS.set1 (by assumption))
  generalize ((wz.setCell ⟨w.heap.size, 1, none⟩ (.string l0)).setCell ⟨w.heap.size, 2, none⟩ (.string d0)) = wx at hh ⊢
  obtain ⟨⟨hbx, _, hpx, hzx⟩, _⟩ := hh
  have HB0 := Lib.hid hbx
  have HP0 := Lib.hid hpx
  have HZ0 := Lib.hid hzx
  obtain ⟨p0, p1, p2, p3, r0, r1, r2, r3⟩ := four_cells hpx
  obtain ⟨y0, y1, y2, y3, g0, g1, g2, g3⟩ := four_cells hzx
  clear hbx hpx hzx HS0 HCl HZ1 HZ2 hb c1 c2 f1 f2
  cases n0 with
  | true =>
    have HT : Hid (D = ⟨true, l0, d0, t0⟩) := by have e := HD.out; rw [if_pos (Or.inl rfl)] at e; exact e
    clear HD HR HCa HRq
    go_wp2
    refine bodyPost_ret (results_one_path (p := ⟨true, l0, d0, t0⟩) Tryz.results10 rfl (path_four HZ0.out ⟨true, l0, d0, t0⟩)) rfl ?_
    rw [HT.out]
    exact ⟨rfl, below_four _ (by omega) HB0.out _ _ _ _⟩
  | false =>
    cases t0 with
    | true =>
      have HT : Hid (D = ⟨false, l0, d0, true⟩) := by have e := HD.out; rw [if_pos (Or.inr (Or.inl rfl))] at e; exact e
      clear HD HR HCa HRq
      go_wp2
      refine bodyPost_ret (results_one_path (p := ⟨false, l0, d0, true⟩) Tryz.results10 rfl (path_four HZ0.out ⟨false, l0, d0, true⟩)) rfl ?_
      rw [HT.out]
      exact ⟨rfl, below_four _ (by omega) HB0.out _ _ _ _⟩
    | false =>
      go_wp2_with (first | (go_at_call 24; refine (HR.out _ HB0.out).mono ?_; rintro ee w2 ⟨rfl, hb⟩; refine Hid.out ?_) | fail)
      refine Lib.hid ?_
      have HB2 : Hid (Below w.heap.size w w2) := HB0.out.trans (hb.mono HB0.out.size)
      have p2' := HP0.out.on hb
      have z2' := HZ0.out.on hb
      have HP2 := Lib.hid p2'
      have HZ2 := Lib.hid z2'
      clear p0 p1 p2 p3 r0 r1 r2 r3 y0 y1 y2 y3 g0 g1 g2 g3
      obtain ⟨p0, p1, p2, p3, r0, r1, r2, r3⟩ := four_cells p2'
      obtain ⟨y0, y1, y2, y3, g0, g1, g2, g3⟩ := four_cells z2'
      clear hb p2' z2' HB0 HP0 HZ0
      by_cases hrp : rp = 0
      · subst hrp
        have HD2 : Hid (D = if rq ≠ 0 then ⟨false, l0, d0, false⟩ else ⟨n, l, d, t⟩) := by have e := HD.out; rw [if_neg (by simp)] at e; exact e
        clear HD HR
        go_wp2_with (first | (go_at_call 25; refine (HCa.out _ HB2.out).mono ?_; rintro ee w3 ⟨rfl, hb⟩; refine Hid.out ?_) | fail)
        refine Lib.hid ?_
        have HB3 : Hid (Below w.heap.size w w3) := HB2.out.trans (hb.mono HB2.out.size)
        have HBq := Lib.hid (below_step HB3.out (Obj.cells #[Value.bool n, Value.string l, Value.string d, Value.bool t] 26))
        have p3' := HP2.out.on hb
        have z3' := HZ2.out.on hb
        have hqa : PathAt (w3.alloc (Obj.cells #[Value.bool n, Value.string l, Value.string d, Value.bool t] 26)) w3.heap.size ⟨n, l, d, t⟩ := (MapKept.heap_alloc w3 _).1
        have HP3 := Lib.hid (path_alloc p3' (Obj.cells #[Value.bool n, Value.string l, Value.string d, Value.bool t] 26))
        have HZ3 := Lib.hid (path_alloc z3' (Obj.cells #[Value.bool n, Value.string l, Value.string d, Value.bool t] 26))
        have HQ3 := Lib.hid hqa
        clear p0 p1 p2 p3 r0 r1 r2 r3 y0 y1 y2 y3 g0 g1 g2 g3 hb p3' z3' hqa HB2 HP2 HZ2 HCa
        go_wp2_with (first | (go_at_call 24; refine (HRq.out _ HBq.out).mono ?_; rintro ee w4 ⟨rfl, hb⟩; refine Hid.out ?_) | fail)
        refine Lib.hid ?_
        have HB4 : Hid (Below w.heap.size w w4) := HBq.out.trans (hb.mono HBq.out.size)
        have p4' := HP3.out.on hb
        have z4' := HZ3.out.on hb
        have q4' := HQ3.out.on hb
        have HZ4 := Lib.hid z4'
        obtain ⟨p0, p1, p2, p3, r0, r1, r2, r3⟩ := four_cells p4'
        obtain ⟨y0, y1, y2, y3, g0, g1, g2, g3⟩ := four_cells z4'
        obtain ⟨q0, q1, q2, q3, s0, s1, s2, s3⟩ := four_cells q4'
        clear hb p4' z4' q4' HBq HP3 HZ3 HQ3 HB3 HRq
        by_cases hrq : rq = 0
        · subst hrq
          have HT : Hid (D = ⟨n, l, d, t⟩) := by have e := HD2.out; rw [if_neg (by simp)] at e; exact e
          clear HD2
          go_wp2
          refine bodyPost_ret (results_one_path (p := ⟨n, l, d, t⟩) Tryz.results10 rfl (path_four HZ4.out ⟨n, l, d, t⟩)) rfl ?_
          rw [HT.out]
          exact ⟨rfl, below_four _ (by omega) HB4.out _ _ _ _⟩
        · have e1 : (rq != 0) = true := by rw [bne_iff_ne]; exact hrq
          have HT : Hid (D = ⟨false, l0, d0, false⟩) := by have e := HD2.out; rw [if_pos hrq] at e; exact e
          clear HD2 hrq
          go_wp2
          refine bodyPost_ret (results_one_path (p := ⟨false, l0, d0, false⟩) Tryz.results10 rfl (path_four HZ4.out ⟨false, l0, d0, false⟩)) rfl ?_
          rw [HT.out]
          exact ⟨rfl, below_four _ (by omega) HB4.out _ _ _ _⟩
      · have e1 : (rp != 0) = true := by rw [bne_iff_ne]; exact hrp
        have HT : Hid (D = ⟨false, l0, d0, false⟩) := by have e := HD.out; rw [if_pos (Or.inr (Or.inr hrp))] at e; exact e
        clear HD HCa HRq hrp
        go_wp2
        refine bodyPost_ret (results_one_path (p := ⟨false, l0, d0, false⟩) Tryz.results10 rfl (path_four HZ2.out ⟨false, l0, d0, false⟩)) rfl ?_
        rw [HT.out]
        exact ⟨rfl, below_four _ (by omega) HB2.out _ _ _ _⟩
end Go.Proofs.YtnehgbpfgehhiaaGreatDoor.Path
