/-
  MERGED by mergefill.py: PthBoxW, PthTak, PthPDom.
-/
import Derived.Test.YtnehgbpfgehhiaaGreatDoorPthLocM
/-
  PATH, the program: the walk of a mailbox.
-/
namespace Go.Proofs.YtnehgbpfgehhiaaGreatDoor.Path
open Go.RowKit Base
set_option maxHeartbeats 8000000 in
set_option maxRecDepth 100000 in
theorem pMailbox {w0 : World} {L : ByteArray → Nat → Bool × Nat × ByteArray} (hL : LitOk w0 L) (g k : Nat) (s : ByteArray) (w : World) (hg0 : w0.heap.size ≤ g) (hE : Below w0.heap.size w0 w) (h : RdAt w g s k) (hk : k ≤ s.size) (hs : s.size ≤ 4000000000) :
    Calls Tryz.prog 84 #[.pointer (some ⟨g, 0, none⟩)] w (BoxEnd g s w (mbx L s k)) := by
  have HR := Lib.hid h
  obtain ⟨x0, x1, x2⟩ := h.cells
  have HLi := Lib.hid hL
  have HG0 : Hid (w0.heap.size ≤ g) := hg0
  have HE0 : Hid (∀ w', KeepX g w w' → Below w0.heap.size w0 w') := fun w' hk => hE.trans (hk.below hg0 (heap_lt h))
  have hgB := h.lt
  obtain ⟨HBW, HP0, HP1⟩ := two_boxes w
  have HRW := h.on HBW
  have HBW := Lib.hid HBW
  have HP0 := Lib.hid HP0
  have HP1 := Lib.hid HP1
  have C1 := Lib.hid (pLocal g k s _ HRW hk (by omega))
  have HRW := Lib.hid HRW
  have hle := loc_le s k hk
  have HAS := Lib.hid (loc_ascii s k hk)
  obtain ⟨D, hD⟩ : ∃ D, D = mbx L s k := ⟨_, rfl⟩
  rw [← hD]
  have HD := Lib.hid hD
  unfold mbx at HD
  generalize hlo : loc s k = lo at C1 HD HAS hle
  obtain ⟨b1, m, l⟩ := lo
  have hkm : k ≤ m := hle.2
  have hms : m ≤ s.size := hle.1
  unfold pathO at HBW HP0 HP1 C1 HRW
  clear h hL hD hlo hle hg0 hE
  cases b1 with
  | false =>
    have HT : Hid (D = (false, m, PV.zero)) := HD.out
    clear HD
    go_enter Tryz.func84, Tryz.ntmps84
    go_wp2
    refine wp_scope_fwd fun F hF => ?_
    have HF := Lib.hid hF
    clear hF
    go_wp2_with (first | (go_at_call 125; refine C1.out.mono ?_; rintro ee w1 ⟨rfl, h1, q1⟩; refine Hid.out ?_) | fail)
    refine Lib.hid ?_
    have h1 : RdAt w1 g s m := h1
    have HR1 := Lib.hid h1
    have HQ1 := Lib.hid q1
    have p1 : PathAt w1 (w.heap.size + 1) PV.zero := HP1.out.kept q1 (by omega)
    have p0 : PathAt w1 w.heap.size PV.zero := HP0.out.kept q1 (by omega)
    obtain ⟨c0, c1, c2, c3, f0, f1, f2, f3⟩ := four_cells p1
    have hP0 := Lib.hid p0
    have hP1 := Lib.hid p1
    clear h1 q1 p1 p0
    go_wp2
    go_step3
    refine ⟨_, by rw [HF.out]; rfl, ?_⟩
    clear HF
    obtain ⟨W1, hW1⟩ : ∃ W1, W1 = w1.setCell ⟨w.heap.size + 1, 1, none⟩ (.string l) := ⟨_, rfl⟩
    rw [← hW1]
    have HQ : Hid (KeepX (w.heap.size + 1) w1 W1) := by rw [hW1]; exact KeepX.set _ _ _ _
    have p0 : PathAt W1 w.heap.size PV.zero := hP0.out.kept HQ.out (by omega)
    obtain ⟨d0, d1, d2, d3, e0, e1, e2, e3⟩ := four_cells p0
    have hP2 := Lib.hid p0
    clear hW1 p0
    go_wp2
    rw [Exit.noGoto_ret]
    (try simp only [Exit.inBlock, Exit.then])
    refine bodyPost_ret (results_path Tryz.results84 rfl rfl (path_four hP2.out PV.zero)) rfl ?_
    rw [HT.out]
    exact ⟨rfl, rd_keptK (rd_keptK HR1.out HQ.out (by omega)) (keepX_four _ _ _ _ _ _) (by omega), keepX_above (keepX_above ((KeepX.of_below HBW.out).trans HQ1.out) HQ.out (by omega)) (keepX_four _ _ _ _ _ _) (by omega)⟩
  | true =>
    have HA := Lib.hid (HAS.out rfl)
    have C2 : Hid (∀ W, RdAt W g s m → Calls Tryz.prog 66 #[.pointer (some ⟨g, 0, none⟩), .int .u8 64] W fun e w' => e = .returned (.bool (hasB s m 64)) ∧ RdAt w' g s (if hasB s m 64 = true then m + 1 else m) ∧ KeepX g W w') :=
      fun W h1 => pHas g m s 64 W h1 hms (by omega)
    have HLT : Hid (hasB s m 64 = true → m < s.size) := hasB_lt
    have HT : Hid (D = if hasB s m 64 = true then
      ((hst L s (m + 1)).1, (hst L s (m + 1)).2.1, if (hst L s (m + 1)).1 then ⟨false, l, (hst L s (m + 1)).2.2.2, (hst L s (m + 1)).2.2.1⟩ else PV.zero)
      else if Lib.equalFold (s.extract k m).data.toList postB then (true, m, ⟨false, ⟨postB.toArray⟩, ⟨#[]⟩, false⟩) else (false, m, PV.zero)) := HD.out
    generalize hasB s m 64 = hb at C2 HLT HT
    clear HD HAS
    go_enter Tryz.func84, Tryz.ntmps84
    go_wp2
    refine wp_scope_fwd fun F hF => ?_
    have HF := Lib.hid hF
    clear hF
    go_wp2_with (first | (go_at_call 125; refine C1.out.mono ?_; rintro ee w1 ⟨rfl, h1, q1⟩; refine Hid.out ?_) | fail)
    refine Lib.hid ?_
    have h1 : RdAt w1 g s m := h1
    have HQ1 := Lib.hid q1
    have p1 : PathAt w1 (w.heap.size + 1) PV.zero := HP1.out.kept q1 (by omega)
    have p0 : PathAt w1 w.heap.size PV.zero := HP0.out.kept q1 (by omega)
    obtain ⟨c0, c1, c2, c3, f0, f1, f2, f3⟩ := four_cells p1
    have HS1 : Hid (KeepX (w.heap.size + 1) w1 (w1.setCell ⟨w.heap.size + 1, 1, none⟩ (.string l))) := KeepX.set _ _ _ _
    have HR1 := Lib.hid (rd_keptK h1 HS1.out (by omega))
    have hP0 := Lib.hid (p0.kept HS1.out (by omega))
    have hP1 : Hid (PathAt (w1.setCell ⟨w.heap.size + 1, 1, none⟩ (.string l)) (w.heap.size + 1) ⟨false, l, ⟨#[]⟩, false⟩) := path_one p1 l
    clear h1 q1 p1 p0
    cases hb with
    | false =>
      have HEF := Lib.hid (fun W => Tryz.strings_EqualFold (s.extract k m) ⟨postB.toArray⟩ W (ext_le3 hs k m) (ext_ascii hms HA.out) post_ascii)
      have HT2 : Hid (D = if Lib.equalFold (s.extract k m).data.toList postB then (true, m, ⟨false, ⟨postB.toArray⟩, ⟨#[]⟩, false⟩) else (false, m, PV.zero)) := HT.out
      go_wp2_with (first | (go_at_call 66; refine (C2.out _ HR1.out).mono ?_; rintro ee w2 ⟨rfl, h2, q2⟩; refine Hid.out ?_) | fail)
      refine Lib.hid ?_
      have h2 : RdAt w2 g s m := h2
      have HQ2 := Lib.hid q2
      have HR2 := Lib.hid h2
      have HK2 : Hid (KeepX g w w2) := (keepX_above ((KeepX.of_below HBW.out).trans HQ1.out) HS1.out (by omega)).trans q2
      obtain ⟨y0, y1, y2⟩ := h2.cells
      have p0 := hP0.out.kept q2 (by omega)
      obtain ⟨d0, d1, d2, d3, e0, e1, e2, e3⟩ := four_cells p0
      have hP2 := Lib.hid p0
      have k0 : (0 : Int) ≤ (k : Int) := by omega
      have k1 : (k : Int) ≤ (m : Int) := by omega
      have k2 : (m : Int) ≤ (s.size : Int) := by omega
      have k3 : k ≤ m := by omega
      unfold postB at HEF HT2
      generalize hef : Lib.equalFold (s.extract k m).data.toList [112, 111, 115, 116, 109, 97, 115, 116, 101, 114] = ef at HT2
      have HEF2 : Hid (∀ W, Calls Tryz.prog 100 #[.string (s.extract k m), .string ⟨#[112, 111, 115, 116, 109, 97, 115, 116, 101, 114]⟩] W fun e w' => e = .returned (.bool ef) ∧ w' = W) := fun W => by have e := HEF.out W; rw [← hef]; exact e
      clear p0 h2 q2 HEF hef
      cases ef with
      | false =>
        go_wp2
        go_quiet ((go_at_call 100; exact Calls.quiet_of_same (HEF2.out _)))
        go_wp2
        go_step3
        refine ⟨_, by rw [HF.out]; rfl, ?_⟩
        clear HF
        go_wp2
        rw [Exit.noGoto_ret]
        (try simp only [Exit.inBlock, Exit.then])
        refine bodyPost_ret (results_path Tryz.results84 rfl rfl (path_four (show PathAt (w2.drewN nq) _ _ from hP2.out) PV.zero)) rfl ?_
        rw [HT2.out]
        exact ⟨rfl, rd_keptK (HR2.out.drewN nq) (keepX_four _ _ _ _ _ _) (by omega), keepX_above (HK2.out.trans (KeepX.drewN nq)) (keepX_four _ _ _ _ _ _) (by omega)⟩
      | true =>
        go_wp2
        go_quiet ((go_at_call 100; exact Calls.quiet_of_same (HEF2.out _)))
        go_wp2
        rw [Exit.fwd_ret]
        (try simp only [Exit.inBlock, Exit.then])
        refine bodyPost_ret (results_path Tryz.results84 rfl rfl (path_four (show PathAt (w2.drewN nq) _ _ from hP2.out) ⟨false, ⟨#[112, 111, 115, 116, 109, 97, 115, 116, 101, 114]⟩, ⟨#[]⟩, false⟩)) rfl ?_
        rw [HT2.out]
        exact ⟨rfl, rd_keptK (HR2.out.drewN nq) (keepX_four _ _ _ _ _ _) (by omega), keepX_above (HK2.out.trans (KeepX.drewN nq)) (keepX_four _ _ _ _ _ _) (by omega)⟩
    | true =>
      have hmlt : m < s.size := HLT.out rfl
      have HT2 : Hid (D = ((hst L s (m + 1)).1, (hst L s (m + 1)).2.1, if (hst L s (m + 1)).1 then ⟨false, l, (hst L s (m + 1)).2.2.2, (hst L s (m + 1)).2.2.1⟩ else PV.zero)) := HT.out
      have C3 : Hid (∀ W, KeepX g w W → RdAt W g s (m + 1) → Calls Tryz.prog 35 #[.pointer (some ⟨g, 0, none⟩)] W (HostEnd g s W (hst L s (m + 1)))) := fun W hq h1 => pHost HLi.out g (m + 1) s W HG0.out (HE0.out W hq) h1 (by omega) (by omega)
      generalize hst L s (m + 1) = ho at HT2 C3
      obtain ⟨b2, m2, t, dm⟩ := ho
      go_wp2_with (first | (go_at_call 66; refine (C2.out _ HR1.out).mono ?_; rintro ee w2 ⟨rfl, h2, q2⟩; refine Hid.out ?_) | fail)
      refine Lib.hid ?_
      have h2 : RdAt w2 g s (m + 1) := h2
      have HR2 := Lib.hid h2
      have HK2 : Hid (KeepX g w w2) := (keepX_above ((KeepX.of_below HBW.out).trans HQ1.out) HS1.out (by omega)).trans q2
      have p0 := hP0.out.kept q2 (by omega)
      have p1 := hP1.out.kept q2 (by omega)
      have hP0' := Lib.hid p0
      have hP1' := Lib.hid p1
      clear p0 p1 h2 q2 c0 c1 c2 c3 f0 f1 f2 f3
      go_wp2_with (first | (go_at_call 35; refine (C3.out _ HK2.out HR2.out).mono ?_; rintro ee w3 ⟨rfl, h3, q3⟩; refine Hid.out ?_) | fail)
      refine Lib.hid ?_
      have h3 : RdAt w3 g s m2 := h3
      have HR3 := Lib.hid h3
      have HK3 : Hid (KeepX g w w3) := HK2.out.trans q3
      have p0 := hP0'.out.kept q3 (by omega)
      have p1 := hP1'.out.kept q3 (by omega)
      obtain ⟨c0, c1, c2, c3, f0, f1, f2, f3⟩ := four_cells p1
      have hP03 := Lib.hid p0
      have hP13 := Lib.hid p1
      obtain ⟨d0, d1, d2, d3, e0, e1, e2, e3⟩ := four_cells p0
      have HS3 : Hid (KeepX (w.heap.size + 1) w3 ((w3.setCell ⟨w.heap.size + 1, 2, none⟩ (.string dm)).setCell ⟨w.heap.size + 1, 3, none⟩ (.bool t))) := (KeepX.set _ _ 2 _).trans (KeepX.set _ _ 3 _)
      have hPW := Lib.hid (hP03.out.kept HS3.out (by omega))
      have HRW2 := Lib.hid (rd_keptK HR3.out HS3.out (by omega))
      have HKW := Lib.hid (keepX_above HK3.out HS3.out (by omega))
      clear p0 p1 h3 q3
      cases b2 with
      | false =>
        go_wp2
        go_step3
        refine ⟨_, by rw [HF.out]; rfl, ?_⟩
        clear HF
        go_wp2
        rw [Exit.noGoto_ret]
        (try simp only [Exit.inBlock, Exit.then])
        refine bodyPost_ret (results_path Tryz.results84 rfl rfl (path_four hPW.out PV.zero)) rfl ?_
        rw [HT2.out]
        exact ⟨rfl, rd_keptK HRW2.out (keepX_four _ _ _ _ _ _) (by omega), keepX_above HKW.out (keepX_four _ _ _ _ _ _) (by omega)⟩
      | true =>
        go_wp2
        rw [Exit.fwd_ret]
        (try simp only [Exit.inBlock, Exit.then])
        refine bodyPost_ret (results_path Tryz.results84 rfl rfl (path_four hPW.out ⟨false, l, dm, t⟩)) rfl ?_
        rw [HT2.out]
        exact ⟨rfl, rd_keptK HRW2.out (keepX_four _ _ _ _ _ _) (by omega), keepX_above HKW.out (keepX_four _ _ _ _ _ _) (by omega)⟩
end Go.Proofs.YtnehgbpfgehhiaaGreatDoor.Path
/-
  PATH, the program: what a text is taken as.
-/
namespace Go.Proofs.YtnehgbpfgehhiaaGreatDoor.Path
open Go.RowKit Base
theorem mbx_le {w0 : World} {L : ByteArray → Nat → Bool × Nat × ByteArray} (hL : LitOk w0 L) (s : ByteArray) (k : Nat) (hk : k ≤ s.size) : (mbx L s k).2.1 ≤ s.size ∧ k ≤ (mbx L s k).2.1 := by
  have h1 := loc_le s k hk
  unfold mbx
  split
  · split
    · rename_i hb
      have := hasB_lt hb
      have h2 := hst_le hL s ((loc s k).2.1 + 1) this
      exact ⟨h2.1, Nat.le_trans h1.2 (Nat.le_trans (Nat.le_succ _) h2.2)⟩
    · split <;> exact h1
  · exact h1
/-- What a text is taken as, all of it. -/
def tak (L : ByteArray → Nat → Bool × Nat × ByteArray) (s : ByteArray) : Bool × PV :=
  if s.size = 0 then (true, ⟨true, ⟨#[]⟩, ⟨#[]⟩, false⟩)
  else if (mbx L s 0).1 = true ∧ (mbx L s 0).2.1 = s.size then (true, (mbx L s 0).2.2) else (false, PV.zero)
def TakEnd (w : World) (r : Bool × PV) (e : Ending) (w' : World) : Prop := e = .returned (.tuple #[r.2.val, .bool r.1]) ∧ Below w.heap.size w w'
theorem below_four {w0 w : World} (b : Nat) (hb : w0.heap.size ≤ b) (h : Below w0.heap.size w0 w) (x y z u : Value) : Below w0.heap.size w0 ((((w.setCell ⟨b, 0, none⟩ x).setCell ⟨b, 1, none⟩ y).setCell ⟨b, 2, none⟩ z).setCell ⟨b, 3, none⟩ u) := by
  have q := keepX_four w b x y z u
  exact ⟨q.os.trans h.os, q.tape.trans h.tape, q.output.trans h.output, Nat.le_trans h.size q.size, fun k hk => (q.block k (Nat.lt_of_lt_of_le hk h.size) (by omega)).trans (h.block k hk)⟩
theorem below_of_keep {w0 W w : World} {g : Nat} (hg : w0.heap.size ≤ g) (h : Below w0.heap.size w0 W) (q : KeepX g W w) : Below w0.heap.size w0 w :=
  ⟨q.os.trans h.os, q.tape.trans h.tape, q.output.trans h.output, Nat.le_trans h.size q.size, fun k hk => (q.block k (Nat.lt_of_lt_of_le hk h.size) (by omega)).trans (h.block k hk)⟩
theorem path_alloc {w : World} {b : Nat} {p : PV} (h : PathAt w b p) (o : Obj) : PathAt (w.alloc o) b p := ((Below.alloc1 w o).block b (heap_lt h)).trans h
theorem below_step {w0 w : World} (h : Below w0.heap.size w0 w) (o : Obj) : Below w0.heap.size w0 (w.alloc o) := h.trans ((Below.alloc1 w o).mono h.size)
def readO (s : ByteArray) : Obj := Obj.cells #[Value.string s, Value.int .i64 0] 81
theorem box_reader (w : World) (s : ByteArray) : Below w.heap.size w ((w.alloc pathO).alloc (readO s)) ∧ PathAt ((w.alloc pathO).alloc (readO s)) w.heap.size PV.zero ∧ RdAt ((w.alloc pathO).alloc (readO s)) (w.heap.size + 1) s 0 := by
  have h1 := (MapKept.heap_alloc w pathO).1
  have h2 := (MapKept.heap_alloc (w.alloc pathO) (readO s)).1
  have e : (w.alloc pathO).heap.size = w.heap.size + 1 := by simp
  rw [e] at h2
  exact ⟨(Below.alloc1 w _).trans ((Below.alloc1 _ _).mono (Below.alloc1 w _).size), ((Below.alloc1 _ _).block _ (heap_lt h1)).trans h1, h2⟩
set_option maxHeartbeats 8000000 in
set_option maxRecDepth 100000 in
theorem pTaken {w0 : World} {L : ByteArray → Nat → Bool × Nat × ByteArray} (hL : LitOk w0 L) (s : ByteArray) (w : World) (hE : Below w0.heap.size w0 w) (hs : s.size ≤ 4000000000) :
    Calls Tryz.prog 54 #[.string s] w (TakEnd w (tak L s)) := by
  obtain ⟨D, hD⟩ : ∃ D, D = tak L s := ⟨_, rfl⟩
  rw [← hD]
  by_cases h0 : s.size = 0
  · have HT : Hid (D = (true, ⟨true, ⟨#[]⟩, ⟨#[]⟩, false⟩)) := by unfold tak at hD; rw [if_pos h0] at hD; exact hD
    obtain rfl := str_empty h0
    have hp := (MapKept.heap_alloc w pathO).1
    have hp : PathAt (w.alloc pathO) w.heap.size PV.zero := hp
    unfold pathO at hp
    obtain ⟨d0, d1, d2, d3, e0, e1, e2, e3⟩ := four_cells hp
    have HP := Lib.hid hp
    clear hp hD hL hE
    go_enter Tryz.func54, Tryz.ntmps54
    go_wp2
    (try simp only [Exit.inBlock, Exit.then])
    refine bodyPost_ret (results_path (p := ⟨true, ⟨#[]⟩, ⟨#[]⟩, false⟩) Tryz.results54 rfl rfl (MapKept.heap_alloc w _).1) rfl ?_
    rw [HT.out]
    exact ⟨rfl, Below.alloc1 w _⟩
  · obtain ⟨hn1, hn2⟩ := str_ne h0
    have HT : Hid (D = if (mbx L s 0).1 = true ∧ (mbx L s 0).2.1 = s.size then (true, (mbx L s 0).2.2) else (false, PV.zero)) := by unfold tak at hD; rw [if_neg h0] at hD; exact hD
    obtain ⟨HBW, HP0, HRW⟩ := box_reader w s
    have C1 := pMailbox hL (w.heap.size + 1) 0 s _ (Nat.le_succ_of_le hE.size) (hE.trans (HBW.mono hE.size)) HRW (Nat.zero_le _) hs
    have hle := (mbx_le hL s 0 (Nat.zero_le _)).1
    generalize mbx L s 0 = r at C1 HT hle
    obtain ⟨b, m, n, l, d, t⟩ := r
    have hms : m ≤ s.size := hle
    have HBW := Lib.hid HBW
    have HP0 := Lib.hid HP0
    have C1 : Hid (Calls Tryz.prog 84 #[.pointer (some ⟨w.heap.size + 1, 0, none⟩)] ((w.alloc pathO).alloc (readO s)) fun e w' => e = .returned (.tuple #[.agg #[.bool n, .string l, .string d, .bool t], .bool b]) ∧ RdAt w' (w.heap.size + 1) s m ∧ KeepX (w.heap.size + 1) ((w.alloc pathO).alloc (readO s)) w') := C1
    unfold pathO readO at C1 HBW HP0
    clear hD hL hle h0 HRW hE
    go_enter Tryz.func54, Tryz.ntmps54
    go_wp2_with (first | (go_at_call 84; refine C1.out.mono ?_; rintro ee w1 ⟨rfl, h1, q1⟩; refine Hid.out ?_) | fail)
    refine Lib.hid ?_
    have p0 := HP0.out.kept q1 (by omega)
    have hlt1 := heap_lt p0
    have hlt2 := h1.lt
    obtain ⟨y0, y1, y2⟩ := h1.cells
    obtain ⟨d0, d1, d2, d3, e0, e1, e2, e3⟩ := four_cells p0
    have HPW := Lib.hid p0
    have HB1 := Lib.hid (below_of_keep (by omega) HBW.out q1)
    have ne1 : ¬ w.heap.size = w1.heap.size := by omega
    have ne2 : ¬ w.heap.size + 1 = w1.heap.size := by omega
    have ne3 : ¬ w1.heap.size = w.heap.size := by omega
    have ne4 : ¬ w1.heap.size = w.heap.size + 1 := by omega
    clear p0 h1 q1
    by_cases hc : b = true ∧ m = s.size
    · have HT2 : Hid (D = (true, ⟨n, l, d, t⟩)) := by have e := HT.out; rw [if_pos hc] at e; exact e
      obtain ⟨rfl, hm⟩ := hc
      have q1 : decide (m < s.size) = false := decide_eq_false (by omega)
      have q2 : decide ((m : Int) < (s.size : Int)) = false := decide_eq_false (by omega)
      have q3 : ¬ m < s.size := by omega
      have q4 : s.size ≤ m := by omega
      clear hm
      go_wp2
      (try simp only [Exit.inBlock, Exit.then])
      refine bodyPost_ret (results_path Tryz.results54 rfl rfl (path_alloc (path_four HPW.out ⟨n, l, d, t⟩) _)) rfl ?_
      rw [HT2.out]
      exact ⟨rfl, below_step (below_four _ (Nat.le_refl _) HB1.out _ _ _ _) _⟩
    · have HT2 : Hid (D = (false, PV.zero)) := by have e := HT.out; rw [if_neg hc] at e; exact e
      cases b with
      | false =>
        clear hc
        go_wp2
        (try simp only [Exit.inBlock, Exit.then])
        refine bodyPost_ret (results_path Tryz.results54 rfl rfl (path_alloc (path_four HPW.out PV.zero) _)) rfl ?_
        rw [HT2.out]
        exact ⟨rfl, below_step (below_four _ (Nat.le_refl _) HB1.out _ _ _ _) _⟩

      | true =>
        have q3 : m < s.size := by
          rcases Nat.lt_or_ge m s.size with h | h
          · exact h
          · exact absurd ⟨rfl, by omega⟩ hc
        have q1 : decide (m < s.size) = true := decide_eq_true q3
        have q2 : decide ((m : Int) < (s.size : Int)) = true := decide_eq_true (by omega)
        clear hc
        go_wp2
        (try simp only [Exit.inBlock, Exit.then])
        refine bodyPost_ret (results_path Tryz.results54 rfl rfl (path_alloc (path_four HPW.out PV.zero) _)) rfl ?_
        rw [HT2.out]
        exact ⟨rfl, below_step (below_four _ (Nat.le_refl _) HB1.out _ _ _ _) _⟩

end Go.Proofs.YtnehgbpfgehhiaaGreatDoor.Path
/-
  PATH, the program: Domain.
-/
namespace Go.Proofs.YtnehgbpfgehhiaaGreatDoor.Path
open Go.RowKit Base
theorem box_one (w : World) (s : ByteArray) : Below w.heap.size w (w.alloc (readO s)) ∧ RdAt (w.alloc (readO s)) w.heap.size s 0 := ⟨Below.alloc1 w _, (MapKept.heap_alloc w (readO s)).1⟩
/-- What Domain answers. -/
def domR (L : ByteArray → Nat → Bool × Nat × ByteArray) (s : ByteArray) : ByteArray × Bool × Int :=
  if (hst L s 0).1 = true ∧ (hst L s 0).2.1 = s.size then
    if 255 < (hst L s 0).2.2.2.size then (⟨#[]⟩, false, 91) else ((hst L s 0).2.2.2, (hst L s 0).2.2.1, 0)
  else (⟨#[]⟩, false, 90)
def DomEnd (w : World) (r : ByteArray × Bool × Int) (e : Ending) (w' : World) : Prop := e = .returned (.tuple #[.string r.1, .bool r.2.1, .int .i64 r.2.2]) ∧ Below w.heap.size w w'
set_option maxHeartbeats 8000000 in
set_option maxRecDepth 100000 in
theorem pDomainP {w0 : World} {L : ByteArray → Nat → Bool × Nat × ByteArray} (hL : LitOk w0 L) (s : ByteArray) (w : World) (hE : Below w0.heap.size w0 w) (hs : s.size ≤ 4000000000) :
    Calls Tryz.prog 16 #[.string s] w (DomEnd w (domR L s)) := by
  obtain ⟨D, hD⟩ : ∃ D, D = domR L s := ⟨_, rfl⟩
  rw [← hD]
  have HD := Lib.hid hD
  unfold domR at HD
  obtain ⟨HBW, HRW⟩ := box_one w s
  have C1 := pHost hL w.heap.size 0 s _ hE.size (hE.trans (HBW.mono hE.size)) HRW (Nat.zero_le _) (by omega)
  have hle := (hst_le hL s 0 (Nat.zero_le _)).1
  generalize hst L s 0 = r at C1 hle HD
  obtain ⟨b, m, t, d⟩ := r
  have hms : m ≤ s.size := hle
  have HBW := Lib.hid HBW
  have C1 : Hid (Calls Tryz.prog 35 #[.pointer (some ⟨w.heap.size, 0, none⟩)] (w.alloc (readO s)) fun e w' => e = .returned (.tuple #[.string d, .bool t, .bool b]) ∧ RdAt w' w.heap.size s m ∧ KeepX w.heap.size (w.alloc (readO s)) w') := C1
  unfold readO at C1 HBW
  have HT : Hid (D = if b = true ∧ m = s.size then if 255 < d.size then (⟨#[]⟩, false, 91) else (d, t, 0) else (⟨#[]⟩, false, 90)) := HD.out
  clear hL hle HRW hD HD hE
  go_enter Tryz.func16, Tryz.ntmps16
  go_wp2
  refine wp_scope_fwd fun F hF => ?_
  have HF := Lib.hid hF
  clear hF
  go_wp2_with (first | (go_at_call 35; refine C1.out.mono ?_; rintro ee w1 ⟨rfl, h1, q1⟩; refine Hid.out ?_) | fail)
  refine Lib.hid ?_
  have HR1 := Lib.hid h1
  obtain ⟨y0, y1, y2⟩ := h1.cells
  have HB1 := Lib.hid (below_of_keep (Nat.le_refl _) HBW.out q1)
  clear h1 q1
  by_cases hc : b = true ∧ m = s.size
  · have HT1 : Hid (D = if 255 < d.size then (⟨#[]⟩, false, 91) else (d, t, 0)) := by have e := HT.out; rw [if_pos hc] at e; exact e
    obtain ⟨rfl, hm⟩ := hc
    have q1 : decide (m < s.size) = false := decide_eq_false (by omega)
    have q3 : ¬ m < s.size := by omega
    have q4 : s.size ≤ m := by omega
    clear hm HT
    by_cases hd : 255 < d.size
    · have HT2 : Hid (D = (⟨#[]⟩, false, 91)) := by have e := HT1.out; rw [if_pos hd] at e; exact e
      have r1 : (255 : Int) < (d.size : Int) := by omega
      clear HT1
      go_wp2
      go_step3
      refine ⟨_, by rw [HF.out]; rfl, ?_⟩
      clear HF
      go_wp2
      rw [Exit.noGoto_ret]
      go_ret3
      rw [HT2.out]
      exact ⟨rfl, HB1.out⟩
    · have HT2 : Hid (D = (d, t, 0)) := by have e := HT1.out; rw [if_neg hd] at e; exact e
      have r1 : ¬ (255 : Int) < (d.size : Int) := by omega
      clear HT1
      go_wp2
      rw [Exit.fwd_ret]
      go_ret3
      rw [HT2.out]
      exact ⟨rfl, HB1.out⟩
  · have HT2 : Hid (D = (⟨#[]⟩, false, 90)) := by have e := HT.out; rw [if_neg hc] at e; exact e
    clear HT
    cases b with
    | false =>
      clear hc
      go_wp2
      go_step3
      refine ⟨_, by rw [HF.out]; rfl, ?_⟩
      clear HF
      go_wp2
      rw [Exit.noGoto_ret]
      go_ret3
      rw [HT2.out]
      exact ⟨rfl, HB1.out⟩
    | true =>
      have q3 : m < s.size := by
        rcases Nat.lt_or_ge m s.size with h | h
        · exact h
        · exact absurd ⟨rfl, by omega⟩ hc
      have q1 : decide (m < s.size) = true := decide_eq_true q3
      clear hc
      go_wp2
      go_step3
      refine ⟨_, by rw [HF.out]; rfl, ?_⟩
      clear HF
      go_wp2
      rw [Exit.noGoto_ret]
      go_ret3
      rw [HT2.out]
      exact ⟨rfl, HB1.out⟩
end Go.Proofs.YtnehgbpfgehhiaaGreatDoor.Path
