/-
  LINES, the program: may bytes be a content?
-/
import Derived.Test.YtgiooblopdoobaaLpCode
namespace Go.Proofs.Ytgiooblopdoobaa.Lines
open Go.RowKit Go.Shelf Base
attribute [local go_sem] Oper.semAt_some
theorem results_code {w : World} {tmps : Array Value} {b : Nat} {v : Value} (h1 : tmps.getD 2 undef = .pointer (some ⟨b, 0, none⟩)) (hb : w.cell? ⟨b, 0, none⟩ = some v) :
    (results Try.f18 tmps).run Try.prog w = .ok v w := by
  unfold results
  rw [Try.results18]
  rw [Array.getD_eq_getD_getElem?] at h1
  simp [h1, hb, asAddr, go_sem]
theorem conv_two (w : World) : (convert 32 32 (.slice (some ⟨w.heap.size, 0, none⟩) 2 2)).run Try.prog (w.alloc (.cells #[.int .u8 13, .int .u8 10] 5)) = .ok (.slice (some ⟨w.heap.size, 0, none⟩) 2 2) (w.alloc (.cells #[.int .u8 13, .int .u8 10] 5 (2, 3))) :=
  Lib.run_convert_bytes_const (P := Try.prog) w 32 5 #[.int .u8 13, .int .u8 10] 2 2 Try.underlying32 Try.underlying5
theorem two_reads (w : World) : Reads (w.alloc (.cells #[.int .u8 13, .int .u8 10] 5 (2, 3))) (.slice (some ⟨w.heap.size, 0, none⟩) 2 2) crlf :=
  reads_lit w 5 _ crlf 2 rfl rfl (2, 3)
/-- What a round keeps. -/
structure CI (w : World) (pre : List (LnB w)) (W : World) : Prop where
  below : Below w.heap.size w W
  b0 : Boxed W w.heap.size 26 (.int .i64 0)
  b1 : Boxed W (w.heap.size + 1) 4 (.bool ((linesOf pre).any longW))
  ok : (linesOf pre).any badW = false
  size : w.heap.size + 3 ≤ W.heap.size
structure CX (w : World) (pre : List (LnB w)) (W : World) : Prop where
  below : Below w.heap.size w W
  b0 : Boxed W w.heap.size 26 (.int .i64 121)
  bad : (linesOf pre).any badW = true
theorem boxed_put {W : World} {b k : Nat} {t : TypeId} {v : Value} {o o' : Obj} (h : Boxed W b t v) (hk : W.heap[k]? = some o) (ho : o.isCells = false) : Boxed (W.putObj k o') b t v := by
  have hne : b ≠ k := fun e => by
    subst e
    rw [show W.heap[b]? = _ from h] at hk
    cases hk
    cases ho
  exact (World.putObj_heap_other hne).trans h
theorem below_put {w W : World} {k : Nat} {o' : Obj} (h : Below w.heap.size w W) (hk : w.heap.size ≤ k) : Below w.heap.size w (W.putObj k o') :=
  ⟨h.os, h.tape, h.output, by simpa using h.size, fun b hb => (World.putObj_heap_other (by omega)).trans (h.block b hb)⟩
theorem CI.put {w W : World} {pre : List (LnB w)} {k : Nat} {o o' : Obj} (h : CI w pre W) (hk : w.heap.size ≤ k) (hko : W.heap[k]? = some o) (ho : o.isCells = false) : CI w pre (W.putObj k o') :=
  ⟨below_put h.below hk, boxed_put h.b0 hko ho, boxed_put h.b1 hko ho, h.ok, by simpa using h.size⟩
theorem CX.put {w W : World} {pre : List (LnB w)} {k : Nat} {o o' : Obj} (h : CX w pre W) (hk : w.heap.size ≤ k) (hko : W.heap[k]? = some o) (ho : o.isCells = false) : CX w pre (W.putObj k o') :=
  ⟨below_put h.below hk, boxed_put h.b0 hko ho, h.bad⟩
theorem reads_cutA {w : World} {A : Option Addr} {n c : Nat} {l : List UInt8} (h : Reads w (.slice A n c) l) (k : Nat) (hk : k ≤ l.length) : Reads w (.slice A k c) (l.take k) := by
  rcases h with ⟨rfl, a, c', e, hn⟩ | ⟨b, o, c', e, h1, h2⟩
  · cases e
    obtain rfl : k = 0 := by simpa using hk
    exact Or.inl ⟨by simp, A, c, rfl, hn⟩
  · cases e
    exact reads_cut (Or.inr ⟨b, o, c, rfl, h1, h2⟩) k hk
theorem trim_take (x y : List UInt8) : Lib.trimSuffix x y = x.take (Lib.trimSuffix x y).length ∧ (Lib.trimSuffix x y).length ≤ x.length := by
  unfold Lib.trimSuffix
  split
  · refine ⟨?_, by rw [List.length_take]; omega⟩
    rw [List.length_take, Nat.min_eq_left (by omega)]
  · exact ⟨by simp, Nat.le_refl _⟩
theorem lines_snoc {w : World} (pre : List (LnB w)) (x : LnB w) (p : List UInt8 → Bool) : (linesOf (pre ++ [x])).any p = ((linesOf pre).any p || p x.1.2) := by
  unfold linesOf
  rw [List.map_append, List.any_append]
  simp
set_option maxHeartbeats 1600000 in
set_option maxRecDepth 100000 in
theorem pContentNul {v : Value} {l : List UInt8} {w : World} (hr : Reads w v l) (hz : hasB 0 l = true) : Calls Try.prog 18 #[v] w fun e w' => e = .returned (.int .i64 122) ∧ Below w.heap.size w w' := by
  obtain ⟨A, c, rfl⟩ := hr.form
  obtain ⟨w1, hw1⟩ : ∃ w1, w1 = w.alloc (.cells #[.int .i64 0] 26 (0, 0)) := ⟨_, rfl⟩
  have HW1 := Lib.hid hw1
  have hb1 : Below w.heap.size w w1 := by rw [hw1]; exact Below.alloc1 w _
  have x1 : Boxed w1 w.heap.size 26 (.int .i64 0) := by rw [hw1]; exact Boxed.new w _ _
  have HH : Hid (Calls Try.prog 28 #[.slice A l.length c, .int .u8 0] w1 (fun e w' => e = .returned (.bool (hasB 0 l)) ∧ w1 = w')) := pHas (hr.on hb1) 0
  obtain ⟨n, hn⟩ : ∃ n, n = l.length := ⟨_, rfl⟩
  rw [← hn, hz] at HH
  rw [← hn]
  have c1 := x1.cell
  have f1 := x1.frozen
  have HF : Hid (Below w.heap.size w (w1.setCell ⟨w.heap.size, 0, none⟩ (.int .i64 122)) ∧ Boxed (w1.setCell ⟨w.heap.size, 0, none⟩ (.int .i64 122)) w.heap.size 26 (.int .i64 122)) := ⟨hb1.setCell (p := ⟨w.heap.size, 0, none⟩) (Nat.le_refl _) _, x1.set _⟩
  clear hw1 hb1 hn hr hz x1
  go_enter Try.func18, Try.ntmps18
  go_wp2_with (first | (go_at_call 28; refine (HW1.out ▸ HH.out).mono ?_; rintro e w' ⟨rfl, rfl⟩; refine Hid.out ?_) | fail)
  refine Lib.hid ?_
  rw [← HW1.out]
  go_wp2
  exact bodyPost_ret (results_code rfl HF.out.2.cell) rfl ⟨rfl, HF.out.1⟩
set_option maxHeartbeats 8000000 in
set_option maxRecDepth 100000 in
theorem pContentOk {v : Value} {l : List UInt8} {w : World} (hr : Reads w v l) (hl : l.length ≤ 200000000000000) (hz : hasB 0 l = false) : Calls Try.prog 18 #[v] w fun e w' => e = .returned (.int .i64 ((if (wholesO l).any badW = true then 121 else if (wholesO l).any longW = true then 120 else 0 : Nat) : Int)) ∧ Below w.heap.size w w' := by
  obtain ⟨A, c, rfl⟩ := hr.form
  obtain ⟨w1, hw1⟩ : ∃ w1, w1 = w.alloc (.cells #[.int .i64 0] 26 (0, 0)) := ⟨_, rfl⟩
  have HW1 := Lib.hid hw1
  have hb1 : Below w.heap.size w w1 := by rw [hw1]; exact Below.alloc1 w _
  have x1 : Boxed w1 w.heap.size 26 (.int .i64 0) := by rw [hw1]; exact Boxed.new w _ _
  have hz1 : w1.heap.size = w.heap.size + 1 := by rw [hw1]; simp
  have HH : Hid (Calls Try.prog 28 #[.slice A l.length c, .int .u8 0] w1 (fun e w' => e = .returned (.bool (hasB 0 l)) ∧ w1 = w')) := pHas (hr.on hb1) 0
  obtain ⟨n, hn⟩ : ∃ n, n = l.length := ⟨_, rfl⟩
  have HN := Lib.hid hn
  have HL := Lib.hid hl
  rw [← hn, hz] at HH
  rw [← hn]
  have HR := Lib.hid hr
  obtain ⟨code, hcode⟩ : ∃ code : Nat, code = if (wholesO l).any badW = true then 121 else if (wholesO l).any longW = true then 120 else 0 := ⟨_, rfl⟩
  rw [← hcode]
  have HC := Lib.hid hcode
  obtain ⟨w3, hw3⟩ : ∃ w3, w3 = w1.alloc (.cells #[.bool false] 4 (0, 0)) := ⟨_, rfl⟩
  have HW3 := Lib.hid hw3
  have HLV := Lib.hid (pLinesV A n c w3)
  have hz3 : w3.heap.size = w.heap.size + 2 := by rw [hw3]; simp [hz1]
  have y0 : Boxed w3 w.heap.size 26 (.int .i64 0) := by rw [hw3]; exact x1.alloc _
  have y1 : Boxed w3 (w.heap.size + 1) 4 (.bool false) := by rw [hw3, ← hz1]; exact Boxed.new w1 _ _
  have hb3 : Below w.heap.size w w3 := by rw [hw3]; exact hb1.alloc hb1.size _
  obtain ⟨n0, hn0⟩ : ∃ n0, n0 = w.heap.size := ⟨_, rfl⟩
  rw [← hn0] at y0 y1 hz3 hz1
  rw [hz3] at HLV
  have HZ1 := Lib.hid hz1
  have HN0 := Lib.hid hn0
  have c1 := x1.cell
  have f1 := x1.frozen
  rw [← hn0] at c1 f1
  obtain ⟨w4, hw4⟩ : ∃ w4, w4 = w3.alloc (.cells #[.slice A n c] 32 (0, 0)) := ⟨_, rfl⟩
  have z0 : Boxed w4 n0 26 (.int .i64 0) := by rw [hw4]; exact y0.alloc _
  have z1 : Boxed w4 (n0 + 1) 4 (.bool false) := by rw [hw4]; exact y1.alloc _
  have z2 : Boxed w4 (n0 + 2) 32 (.slice A n c) := by rw [hw4, ← hz3]; exact Boxed.new w3 _ _
  have hb4 : Below w.heap.size w w4 := by rw [hw4]; exact hb3.alloc hb3.size _
  have hz4 : w4.heap.size = n0 + 3 := by rw [hw4]; simp [hz3]
  have H4 : Hid (Boxed w4 n0 26 (.int .i64 0) ∧ Boxed w4 (n0 + 1) 4 (.bool false) ∧ Boxed w4 (n0 + 2) 32 (.slice A n c) ∧ Below w.heap.size w w4 ∧ w4.heap.size = n0 + 3) := ⟨z0, z1, z2, hb4, hz4⟩
  have HW4 := Lib.hid hw4
  rw [← hw4] at HLV
  clear hw1 hb1 hz1 hn hr hl hcode hz hw3 hz3 y0 y1 hb3 z0 z1 z2 hb4 hz4 hw4 x1
  refine (callsIn_wide (n := 5)).1 ?_
  refine callsIn_of_wp_marks Try.func18 rfl trivial ?_ rfl
  simp only [Try.ntmps18, List.size_toArray, List.length_cons, List.length_nil, Nat.reduceAdd, Nat.reduceSub, Array.replicate_succ, Array.replicate_zero, List.push_toArray, List.append_toArray, List.nil_append, List.cons_append]
  gi_wp2
  rw [← HW1.out]
  refine ⟨trivial, ?_⟩
  refine (callsIn_wide.2 HH.out).mono ?_
  rintro e w2 ⟨rfl, rfl⟩
  gi_wp2
  rw [← HW3.out, HZ1.out, ← HN0.out]
  refine ⟨trivial, ?_⟩
  refine (callsIn_wide.2 HLV.out).mono ?_
  rintro e w5 ⟨rfl, rfl⟩
  clear hn0 c1 f1 HLV HH
  gi_wp2
  obtain ⟨z0, z1, z2, hb4, hz4⟩ := H4.out
  have hn0 := HN0.out
  refine range_acc rfl (by omega) (gf := 32) (lb := #[.pointer (some ⟨n0 + 2, 0, none⟩)]) rfl trivial (enters_of Try.func32 (by kernel_rfl) rfl)
    (seq_l 4 (by omega) (n0 + 2) (.slice A n c) l w w5 (by rw [HN.out]; exact HR.out) HL.out (by omega) hb4 z2)
    KpL.trans
    (fun W k o o' hk ho hc => ⟨⟨rfl, rfl, rfl, by simp, fun b hb => World.putObj_heap_other (by omega)⟩, World.putObj_heap_other (by omega)⟩)
    (by omega) (fun _ => rfl) (CI w) (CX w)
    (fun o o' _ _ => ⟨(hb4.alloc hb4.size _).alloc (by rw [World.size_alloc]; have := hb4.size; omega) _, by rw [← hn0]; exact (z0.alloc _).alloc _, by rw [← hn0]; exact (z1.alloc _).alloc _, rfl, by simp [hz4, hn0]⟩)
    (fun pre W k o o' hk hko ho h => h.put (by omega) hko ho) (fun pre W k o o' hk hko ho h => h.put (by omega) hko ho)
    (fun pre W u h => ⟨h.below.setCell (p := ⟨n0 + 2, 0, none⟩) (by show _ ≤ n0 + 2; omega) _, h.b0.other (by omega) _, h.b1.other (by omega) _, h.ok, by simpa [World.setCell] using h.size⟩)
    (fun pre W h => ⟨h.below.drew, h.b0, h.b1, h.ok, h.size⟩)
    (fun x => { tmps := #[.slice A n c, undef, .pointer (some ⟨n0, 0, none⟩), .pointer (some ⟨n0 + 1, 0, none⟩), x.1.1, undef, undef, .slice A n c, .bool false, .slice A n c, linesF (n0 + 2), x.1.1, undef, undef, undef, undef, undef, undef, undef, undef, undef, undef, undef, undef, undef, undef, undef, undef, undef, undef, undef, undef], defers := [] }) ?assign ?body ?done ?stop
  case assign =>
    clear hn0 z0 z1 z2 hb4 hz4
    intro lp x W K hK
    gi_wp2
    exact hK
  case body =>
    have HZ4 := Lib.hid hz4
    clear hn0 z0 z1 z2 hb4 hz4
    rintro lp x pre W _ hI
    have hsn := lines_snoc pre x badW
    have hsl := lines_snoc pre x longW
    rw [hI.ok, Bool.false_or] at hsn
    obtain ⟨long, hlong⟩ : ∃ long, long = (linesOf pre).any longW := ⟨_, rfl⟩
    have HI : Hid (CI w pre W) := hI
    have b0 := hI.b0
    have b1 := hI.b1
    have hb := hI.below
    have hsz := hI.size
    rw [← hlong] at b1 hsl
    rw [← HN0.out] at b0 b1 hsz
    have hx1 := x.2.1
    have hx3 := x.2.2.2
    obtain ⟨xl, hxl⟩ : ∃ xl, xl = x.1.2 := ⟨_, rfl⟩
    obtain ⟨XA, xc, hxf⟩ := hx1.form
    rw [hxf]
    rw [hxf, ← hxl] at hx1
    rw [← hxl] at hx3 hsn hsl ⊢
    obtain ⟨w6, hw6⟩ : ∃ w6, w6 = W.alloc (.cells #[.int .u8 13, .int .u8 10] 5 (2, 3)) := ⟨_, rfl⟩
    have hb6 : Below W.heap.size W w6 := by rw [hw6]; exact Below.alloc1 W _
    have hcut := pCutS (hx1.on (hb.trans (hb6.mono hb.size))) (by rw [hw6]; exact two_reads W) (by omega)
    obtain ⟨ht1, ht2⟩ := trim_take xl crlf
    obtain ⟨m, hm⟩ : ∃ m, m = (Lib.trimSuffix xl crlf).length := ⟨_, rfl⟩
    obtain ⟨en, hen⟩ : ∃ en, en = Lib.hasSuffix xl crlf := ⟨_, rfl⟩
    rw [← hm] at hcut ht1 ht2
    rw [← hen] at hcut
    have hr6 : Reads w6 (.slice XA m xc) (Lib.trimSuffix xl crlf) := by
      rw [ht1]
      exact reads_cutA (hx1.on (hb.trans (hb6.mono hb.size))) m ht2
    obtain ⟨h13, hh13⟩ : ∃ h13, h13 = hasB 13 (Lib.trimSuffix xl crlf) := ⟨_, rfl⟩
    have HH : Hid (Calls Try.prog 28 #[.slice XA m xc, .int .u8 13] w6 (fun e w' => e = .returned (.bool (hasB 13 (Lib.trimSuffix xl crlf))) ∧ w6 = w')) := pHas hr6 13
    rw [← hh13] at HH
    obtain ⟨k, hk⟩ : ∃ k, k = xl.length := ⟨_, rfl⟩
    rw [← hk] at hcut ⊢
    have hbad : badW xl = (!en || h13) := by unfold badW; rw [← hen, ← hh13]
    have hlo : longW xl = decide (998 < m) := by unfold longW; rw [← hm]
    rw [hbad] at hsn
    rw [hlo] at hsl
    rw [hw6] at hcut
    have HCU := Lib.hid hcut
    have hcv : (convert 32 32 (.slice (some ⟨W.heap.size, 0, none⟩) 2 2)).run Try.prog (W.alloc (.cells #[.int .u8 13, .int .u8 10] 5)) = .ok (.slice (some ⟨W.heap.size, 0, none⟩) 2 2) (W.alloc (.cells #[.int .u8 13, .int .u8 10] 5 (2, 3))) := conv_two W
    have d0 : Boxed w6 n0 26 (.int .i64 0) := (hb6.block _ (by omega)).trans b0
    have d1 : Boxed w6 (n0 + 1) 4 (.bool long) := (hb6.block _ (by omega)).trans b1
    have c0 := d0.cell
    have f0 := d0.frozen
    have c1 := d1.cell
    have f1 := d1.frozen
    have hz6 : W.heap.size ≤ w6.heap.size := hb6.size
    have HFX : Hid ((!en || h13) = true → KeepsFrom w5.heap.size W (w6.setCell ⟨n0, 0, none⟩ (.int .i64 121)) ∧ CX w (pre ++ [x]) (w6.setCell ⟨n0, 0, none⟩ (.int .i64 121))) := fun hbd => by
      have hn0 := HN0.out
      refine ⟨⟨by simpa [World.setCell] using hz6, fun j o hj ho hc => ?_⟩, ⟨?_, ?_, ?_⟩⟩
      · exact (KeepsOthers.setCell _ _ _).same j o ((hb6.block j (heap_lt ho)).trans ho) hc
      · exact (hb.trans (hb6.mono hb.size)).setCell (p := ⟨n0, 0, none⟩) (by show _ ≤ n0; omega) _
      · rw [← hn0]; exact d0.set _
      · rw [hsn]; exact hbd
    have HFN : Hid ((!en || h13) = false → ∀ lg, lg = (long || decide (998 < m)) → CI w (pre ++ [x]) (w6.setCell ⟨n0 + 1, 0, none⟩ (.bool lg)) ∧ KeepsFrom w5.heap.size W (w6.setCell ⟨n0 + 1, 0, none⟩ (.bool lg)) ∧ KpL w (n0 + 2) W (w6.setCell ⟨n0 + 1, 0, none⟩ (.bool lg))) := fun hbd lg hlg => by
      have hn0 := HN0.out
      refine ⟨⟨?_, ?_, ?_, ?_, ?_⟩, ⟨by simpa [World.setCell] using hz6, fun j o hj ho hc => ?_⟩, ⟨?_, ?_⟩⟩
      · exact (hb.trans (hb6.mono hb.size)).setCell (p := ⟨n0 + 1, 0, none⟩) (by show _ ≤ n0 + 1; omega) _
      · rw [← hn0]; exact d0.other (by omega) _
      · rw [← hn0, hsl, ← hlg]; exact d1.set _
      · rw [hsn]; exact hbd
      · have : W.heap.size ≤ (w6.setCell ⟨n0 + 1, 0, none⟩ (.bool lg)).heap.size := by simpa [World.setCell] using hz6
        omega
      · exact (KeepsOthers.setCell _ _ _).same j o ((hb6.block j (heap_lt ho)).trans ho) hc
      · exact (hb6.mono hb.size).setCell (p := ⟨n0 + 1, 0, none⟩) (by show _ ≤ n0 + 1; omega) _
      · exact (Below.heap_setCell w6 ⟨n0 + 1, 0, none⟩ _ (n0 + 2) (by simp)).trans (hb6.block _ (by omega))
    have HW6 := Lib.hid hw6
    clear hw6 hb hsz hx1 hx3 hxl hxf hb6 hcut ht1 ht2 hm hen hr6 hh13 hk hbad hlo hsn hsl b0 b1 d0 d1 hz6 hI hlong
    gi_wp2
    refine ⟨trivial, ?_⟩
    refine (CallsIn.inRound lp (callsIn_wide.2 HCU.out)).mono ?_
    rintro e w7 ⟨rfl, rfl⟩
    rw [← HW6.out]
    cases en
    · have HF := Lib.hid (HFX.out rfl)
      clear HFX HFN HCU hcv
      gi_wp2
      refine ⟨trivial, ?_⟩
      gi_wp2
      exact HF.out
    · cases h13
      · clear HFX
        gi_wp2
        refine ⟨trivial, ?_⟩
        refine (CallsIn.inRound lp (callsIn_wide.2 HH.out)).mono ?_
        rintro e w8 ⟨rfl, rfl⟩
        cases long
        · have HF := Lib.hid (HFN.out rfl (decide ((998 : Int) < (m : Int))) (by rw [Bool.false_or]; exact decide_eq_decide.2 (by omega)))
          clear HFN
          gi_wp2
          exact HF.out
        · have HF := Lib.hid (HFN.out rfl true (by simp))
          clear HFN
          gi_wp2
          exact HF.out
      · have HF := Lib.hid (HFX.out rfl)
        clear HFX HFN
        gi_wp2
        refine ⟨trivial, ?_⟩
        refine (CallsIn.inRound lp (callsIn_wide.2 HH.out)).mono ?_
        rintro e w8 ⟨rfl, rfl⟩
        gi_wp2
        exact HF.out
  case done =>
    rintro D xs W hD hS hI hK
    have hcd : code = if (linesOf xs).any longW = true then 120 else 0 := by
      have := HC.out
      rw [← hS, hI.ok] at this
      simpa using this
    obtain ⟨long, hlong⟩ : ∃ long, long = (linesOf xs).any longW := ⟨_, rfl⟩
    have b0 := hI.b0
    have b1 := hI.b1
    rw [← hlong] at hcd b1
    rw [← hn0] at b0 b1
    have c0 := b0.cell
    have f0 := b0.frozen
    have c1 := b1.cell
    have HCD := Lib.hid hcd
    have HF : Hid (∀ u, Below w.heap.size w ((W.setCell ⟨n0, 0, none⟩ u).putObj D (.deferred none)) ∧ Boxed ((W.setCell ⟨n0, 0, none⟩ u).putObj D (.deferred none)) n0 26 u ∧ (W.setCell ⟨n0, 0, none⟩ u).heap[D]? = some (.deferred (some []))) := fun u => by
      have h1 : (W.setCell ⟨n0, 0, none⟩ u).heap[D]? = some (.deferred (some [])) := (KeepsOthers.setCell _ _ _).same D _ hK rfl
      exact ⟨below_put (hI.below.setCell (p := ⟨n0, 0, none⟩) (by show _ ≤ n0; omega) _) (by omega), boxed_put (b0.set u) h1 rfl, h1⟩
    clear hn0 z0 z1 z2 hb4 hz4 hS hI hK hcd b0 b1 hlong
    cases long
    · have HCD2 : Hid (code = 0) := by show _ = _; rw [HCD.out]; rfl
      have HK2 := HF.out (.int .i64 0)
      gi_wp2
      refine ⟨by simp, .inl ⟨_, _, rfl, run_takeDeferred HK2.2.2, ?_⟩⟩
      refine ⟨_, results_code rfl HK2.2.1.cell, ?_⟩
      exact ⟨by rw [HCD2.out]; rfl, HK2.1⟩
    · have HCD2 : Hid (code = 120) := by show _ = _; rw [HCD.out]; rfl
      have HK2 := HF.out (.int .i64 120)
      gi_wp2
      refine ⟨by simp, .inl ⟨_, _, rfl, run_takeDeferred HK2.2.2, ?_⟩⟩
      refine ⟨_, results_code rfl HK2.2.1.cell, ?_⟩
      exact ⟨by rw [HCD2.out]; rfl, HK2.1⟩
  case stop =>
    rintro D pre W hD hSp hX hK
    have hcd : code = 121 := by
      have h1 : (wholesO l).any badW = true := by
        obtain ⟨t, ht⟩ := hSp
        rw [← ht, List.any_append, hX.bad, Bool.true_or]
      have := HC.out
      rw [h1] at this
      simpa using this
    have b0 := hX.b0
    rw [← hn0] at b0
    have HK2 : Below w.heap.size w (W.putObj D (.deferred none)) ∧ Boxed (W.putObj D (.deferred none)) n0 26 (.int .i64 121) := ⟨below_put hX.below (by omega), boxed_put b0 hK rfl⟩
    have HCD := Lib.hid hcd
    clear hn0 z0 z1 z2 hb4 hz4 hSp hX hcd b0
    gi_wp2
    refine ⟨by simp, .inl ⟨_, _, rfl, run_takeDeferred hK, ?_⟩⟩
    refine ⟨_, results_code rfl HK2.2.cell, ?_⟩
    exact ⟨by rw [HCD.out]; rfl, HK2.1⟩
theorem pContent {v : Value} {l : List UInt8} {w : World} (hr : Reads w v l) (hl : l.length ≤ 200000000000000) : Calls Try.prog 18 #[v] w fun e w' => e = .returned (.int .i64 (codeOf l : Int)) ∧ Below w.heap.size w w' := by
  rw [← code_eq]
  unfold codeP
  by_cases hz : hasB 0 l = true
  · rw [if_pos hz]; exact pContentNul hr hz
  · rw [if_neg hz]; exact pContentOk hr hl (by simpa using hz)
end Go.Proofs.Ytgiooblopdoobaa.Lines
