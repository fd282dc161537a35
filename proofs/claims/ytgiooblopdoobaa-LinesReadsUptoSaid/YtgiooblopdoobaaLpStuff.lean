/-
  LINES, the program: a content, as it is sent.
-/
import Derived.Test.YtgiooblopdoobaaLpApp
namespace Go.Proofs.Ytgiooblopdoobaa.Lines
open Go.RowKit Go.Shelf Base
attribute [local go_sem] Oper.semAt_some
theorem results_stuff {w : World} {tmps : Array Value} {a b : Value} (h1 : tmps.getD 2 undef = a) (h2 : tmps.getD 3 undef = b) :
    (results Try.f16 tmps).run Try.prog w = .ok (.tuple #[a, b]) w := by
  unfold results
  rw [Try.results16]
  rw [Array.getD_eq_getD_getElem?] at h1 h2
  simp [h1, h2, go_sem]
/-- What a round leaves: all but the box of what is sent, and its row. -/
structure SS (n1 : Nat) (A B : World) : Prop where
  os : B.os = A.os
  tape : B.tape = A.tape
  output : B.output = A.output
  size : A.heap.size ≤ B.heap.size
  keep : ∀ (k : Nat) (o : Obj), A.heap[k]? = some o → o.isCells = false → B.heap[k]? = some o
  old : ∀ b, b < n1 + 2 → b < A.heap.size → b ≠ n1 → B.heap[b]? = A.heap[b]?
theorem SS.trans {n1 : Nat} {A B C : World} (h : SS n1 A B) (k : SS n1 B C) : SS n1 A C :=
  ⟨k.os.trans h.os, k.tape.trans h.tape, k.output.trans h.output, Nat.le_trans h.size k.size, fun i _ hi ho => k.keep i _ (h.keep i _ hi ho) ho, fun b h1 h2 h3 => (k.old b h1 (Nat.lt_of_lt_of_le h2 h.size) h3).trans (h.old b h1 h2 h3)⟩
theorem SS.of_below {n1 : Nat} {A B : World} (hb : Below A.heap.size A B) : SS n1 A B :=
  ⟨hb.os, hb.tape, hb.output, hb.size, fun k _ hk _ => (hb.block k (heap_lt hk)).trans hk, fun b _ h2 _ => hb.block b h2⟩
theorem owns_cells {w : World} {B : Nat} {v : Value} {l : List UInt8} (h : Owns w B v l) {b : Nat} (hb : v.ownBlock = some b) : ∃ cs t fz, w.heap[b]? = some (.cells cs t fz) := by
  rcases h.2 with ⟨rfl, _⟩ | ⟨g, cap, cur, rfl, _, h2, _⟩
  · simp [Value.ownBlock] at hb
  · have : g = b := by simpa [Value.ownBlock] using hb
    subst this; exact ⟨_, _, _, h2⟩
theorem SS.grown {n1 : Nat} {A B : World} {v : Value} {xs : List UInt8} (ho : Owns A (n1 + 2) v xs) (hg : A.grownBy B v.ownBlock) : SS n1 A B :=
  ⟨hg.os, hg.tape, hg.output, hg.size, fun k o hk hc => (hg.block k (heap_lt hk) (fun e => by
      obtain ⟨cs, t, fz, h⟩ := owns_cells ho e.symm
      rw [h] at hk
      cases hk
      cases hc)).trans hk,
   fun b h1 h2 _ => hg.block b h2 (fun e => by have := (ho.ge b e.symm).1; omega)⟩
theorem SS.set (n1 : Nat) (A : World) (u : Value) : SS n1 A (A.setCell ⟨n1, 0, none⟩ u) :=
  ⟨rfl, rfl, rfl, by simp [World.setCell], fun k o hk hc => (KeepsOthers.setCell _ _ _).same k o hk hc, fun b _ _ hne => Below.heap_setCell A ⟨n1, 0, none⟩ u b (by simpa using hne)⟩
theorem SS.below {n1 : Nat} {A B : World} (h : SS n1 A B) {n : Nat} (hn : n ≤ n1) (hA : n ≤ A.heap.size) : Below n A B :=
  ⟨h.os, h.tape, h.output, h.size, fun b hb => h.old b (by omega) (by omega) (by omega)⟩
/-- What a round keeps. -/
structure SI (w : World) (n1 : Nat) (pre : List (LnB w)) (W : World) : Prop where
  below : Below w.heap.size w W
  sent : ∃ v, Boxed W n1 32 v ∧ Owns W (n1 + 2) v ((linesOf pre).flatMap dotW)
  size : n1 + 2 ≤ W.heap.size
theorem owns_put {W : World} {B k : Nat} {v : Value} {l : List UInt8} {o o' : Obj} (h : Owns W B v l) (hk : W.heap[k]? = some o) (ho : o.isCells = false) : Owns (W.putObj k o') B v l :=
  h.keptB fun b hb _ => World.putObj_heap_other (fun e => by
    obtain ⟨cs, t, fz, hc⟩ := owns_cells h hb
    rw [← e, hc] at hk
    cases hk
    cases ho)
theorem SI.put {w W : World} {n1 : Nat} {pre : List (LnB w)} {k : Nat} {o o' : Obj} (h : SI w n1 pre W) (hk : w.heap.size ≤ k) (hko : W.heap[k]? = some o) (ho : o.isCells = false) : SI w n1 pre (W.putObj k o') := by
  obtain ⟨v, h1, h2⟩ := h.sent
  exact ⟨below_put h.below hk, ⟨v, boxed_put h1 hko ho, owns_put h2 hko ho⟩, by simpa using h.size⟩
theorem dots_le (l : List UInt8) (hc : codeOf l = 0) (hl : l.length ≤ 140737488351232) {pre : List (List UInt8)} (h : pre <+: wholesO l) : (pre.flatMap dotW).length ≤ 190000000000000 := by
  obtain ⟨t, ht⟩ := h
  have h1 := stuff_len hc
  rw [← stuff_lines l.length l (Nat.le_refl _) (code_bad hc), ← ht, List.flatMap_append, List.length_append] at h1
  omega
theorem lines_flat {w : World} (pre : List (LnB w)) (x : LnB w) : (linesOf (pre ++ [x])).flatMap dotW = (linesOf pre).flatMap dotW ++ dotW x.1.2 := by
  unfold linesOf
  rw [List.map_append, List.flatMap_append]
  simp
set_option maxHeartbeats 1600000 in
set_option maxRecDepth 100000 in
theorem pStuffBad {v : Value} {l : List UInt8} {w : World} (hr : Reads w v l) (hl : l.length ≤ 140737488351232) (hc : codeOf l ≠ 0) : Calls Try.prog 16 #[v] w (StuffEnd l w) := by
  have HCO := Lib.hid (pContent hr (by omega))
  obtain ⟨A, c, rfl⟩ := hr.form
  obtain ⟨code, hcode⟩ : ∃ code, code = codeOf l := ⟨_, rfl⟩
  have HF : Hid (∀ w', Below w.heap.size w w' → StuffEnd l w (.returned (.tuple #[.slice none 0 0, .int .i64 (code : Int)])) w') := fun w' hb => ⟨hb, Or.inl ⟨hc, by rw [hcode]⟩⟩
  rw [← hcode] at HCO hc
  have k0 : ¬ (code : Int) = 0 := by omega
  clear hr hcode hc
  go_enter Try.func16, Try.ntmps16
  go_wp2_with (first | (go_at_call 18; refine HCO.out.mono ?_; rintro ee w1 ⟨rfl, hb⟩; refine Hid.out ?_) | fail)
  refine Lib.hid ?_
  have HB := Lib.hid (HF.out w1 hb)
  clear hb
  go_wp2
  go_ret2
  exact HB.out
set_option maxHeartbeats 8000000 in
set_option maxRecDepth 100000 in
theorem pStuffOk {v : Value} {l : List UInt8} {w : World} (hr : Reads w v l) (hl : l.length ≤ 140737488351232) (hc : codeOf l = 0) : Calls Try.prog 16 #[v] w (StuffEnd l w) := by
  have HCO0 := pContent hr (by omega)
  rw [hc] at HCO0
  have HCO : Hid (Calls Try.prog 18 #[v] w fun e w' => e = .returned (.int .i64 0) ∧ Below w.heap.size w w') := HCO0
  obtain ⟨A, c, rfl⟩ := hr.form
  have HFIN : Hid (∀ u W', Below w.heap.size w W' → Owns W' w.heap.size u ((wholesO l).flatMap dotW ++ [46, 13, 10]) → StuffEnd l w (.returned (.tuple #[u, .int .i64 0])) W') := fun u W' h1 h2 => ⟨h1, Or.inr ⟨hc, u, rfl, by rw [stuff_eq hc]; exact h2⟩⟩
  have HDL : Hid (∀ pre, pre <+: wholesO l → (pre.flatMap dotW).length ≤ 190000000000000) := fun pre h => dots_le l hc hl h
  obtain ⟨n, hn⟩ : ∃ n, n = l.length := ⟨_, rfl⟩
  have HN := Lib.hid hn
  have HL := Lib.hid hl
  rw [← hn] at HCO ⊢
  have HR := Lib.hid hr
  have HLV : Hid (∀ w3, Calls Try.prog 27 #[.slice A n c] w3 fun e w' => e = .returned (linesF w3.heap.size) ∧ w' = w3.alloc (.cells #[.slice A n c] 32 (0, 0))) := fun w3 => pLinesV A n c w3
  clear hr hl hc HCO0 hn
  refine (callsIn_wide (n := 5)).1 ?_
  refine callsIn_of_wp_marks Try.func16 rfl trivial ?_ rfl
  simp only [Try.ntmps16, List.size_toArray, List.length_cons, List.length_nil, Nat.reduceAdd, Nat.reduceSub, Array.replicate_succ, Array.replicate_zero, List.push_toArray, List.append_toArray, List.nil_append, List.cons_append]
  gi_wp2
  refine ⟨trivial, ?_⟩
  refine (callsIn_wide.2 HCO.out).mono ?_
  rintro e w2 ⟨rfl, hb2⟩
  have HB2 := Lib.hid hb2
  clear HCO hb2
  gi_wp2
  obtain ⟨w3, hw3⟩ : ∃ w3, w3 = w2.alloc (.cells #[.slice none 0 0] 32 (0, 0)) := ⟨_, rfl⟩
  have hz3 : w3.heap.size = w2.heap.size + 1 := by rw [hw3]; simp
  have HK := HLV.out w3
  rw [hz3] at HK
  rw [← hw3]
  obtain ⟨n1, hn1⟩ : ∃ n1, n1 = w2.heap.size := ⟨_, rfl⟩
  rw [← hn1] at HK hz3 ⊢
  refine ⟨trivial, ?_⟩
  refine (callsIn_wide.2 HK).mono ?_
  rintro e w5 ⟨rfl, hw5⟩
  have y0 : Boxed w3 n1 32 (.slice none 0 0) := by rw [hw3, hn1]; exact Boxed.new w2 _ _
  have hb3 : Below w.heap.size w w3 := by rw [hw3]; exact HB2.out.alloc HB2.out.size _
  have z0 : Boxed w5 n1 32 (.slice none 0 0) := by rw [hw5]; exact y0.alloc _
  have z1 : Boxed w5 (n1 + 1) 32 (.slice A n c) := by rw [hw5, ← hz3]; exact Boxed.new w3 _ _
  have hb5 : Below w.heap.size w w5 := by rw [hw5]; exact hb3.alloc hb3.size _
  have hz5 : w5.heap.size = n1 + 2 := by rw [hw5]; simp [hz3]
  have hwn : w.heap.size ≤ n1 := by rw [hn1]; exact HB2.out.size
  have HZ5 := Lib.hid hz5
  have HWN := Lib.hid hwn
  have HZ : Hid (Boxed w5 n1 32 (.slice none 0 0) ∧ Boxed w5 (n1 + 1) 32 (.slice A n c) ∧ Below w.heap.size w w5) := ⟨z0, z1, hb5⟩
  clear hw3 hz3 HK hn1 hw5 y0 hb3 z0 z1 hb5 hz5 hwn HLV HB2
  gi_wp2
  obtain ⟨z0, z1, hb5⟩ := HZ.out
  have hz5 := HZ5.out
  have hwn := HWN.out
  refine range_acc rfl (by omega) (gf := 32) (lb := #[.pointer (some ⟨n1 + 1, 0, none⟩)]) rfl trivial (enters_of Try.func32 (by kernel_rfl) rfl)
    (seq_l 4 (by omega) (n1 + 1) (.slice A n c) l w w5 (by rw [HN.out]; exact HR.out) (by have := HL.out; omega) (by omega) hb5 z1)
    KpL.trans
    (fun W k o o' hk ho hc => ⟨⟨rfl, rfl, rfl, by simp, fun b hb => World.putObj_heap_other (by omega)⟩, World.putObj_heap_other (by omega)⟩)
    (by omega) (fun _ => rfl) (SI w n1) (fun _ _ => False)
    (fun o o' _ _ => ⟨(hb5.alloc hb5.size _).alloc (by rw [World.size_alloc]; have := hb5.size; omega) _, ⟨_, (z0.alloc _).alloc _, owns_nil _ _⟩, by simp [hz5]⟩)
    (fun pre W k o o' hk hko ho h => h.put (by omega) hko ho) (fun pre W k o o' hk hko ho h => h)
    (fun pre W u h => ⟨h.below.setCell (p := ⟨n1 + 1, 0, none⟩) (by show _ ≤ n1 + 1; omega) _, by
      obtain ⟨v, h1, h2⟩ := h.sent
      exact ⟨v, h1.other (by omega) _, h2.keptB fun b hb _ => Below.heap_setCell W ⟨n1 + 1, 0, none⟩ u b (by have := (h2.ge b hb).1; simp; omega)⟩, by simpa [World.setCell] using h.size⟩)
    (fun pre W h => ⟨h.below.drew, h.sent, h.size⟩)
    (fun x => { tmps := #[.slice A n c, undef, .slice none 0 0, .int .i64 0, .int .i64 0, .pointer (some ⟨n1, 0, none⟩), x.1.1, .slice A n c, .int .i64 0, .int .i64 0, .bool false, undef, .slice A n c, linesF (n1 + 1), x.1.1, undef, undef, undef, undef, undef, undef, undef, undef, undef, undef, undef, undef], defers := [] }) ?assign ?body ?done ?stop
  case assign =>
    clear z0 z1 hb5 hz5 hwn
    intro lp x W K hK
    gi_wp2
    exact hK
  case body =>
    clear z0 z1 hb5 hz5 hwn
    rintro lp x pre W hsp hI
    have hfl := lines_flat pre x
    have hln := HDL.out _ hsp
    rw [hfl] at hln
    obtain ⟨v, hbx, hown⟩ := hI.sent
    obtain ⟨q, hq⟩ : ∃ q, q = (linesOf pre).flatMap dotW := ⟨_, rfl⟩
    rw [← hq] at hfl hln hown
    have hb := hI.below
    have hsz := hI.size
    have hx1 := x.2.1
    have hx2 := x.2.2.1
    obtain ⟨xl, hxl⟩ : ∃ xl, xl = x.1.2 := ⟨_, rfl⟩
    rw [← hxl] at hfl hln hx1 hx2
    obtain ⟨b, o, xc, hxf, hlc, hcell⟩ : ∃ b o c, x.1.1 = .slice (some ⟨b, o, none⟩) xl.length c ∧ xl.length ≤ c ∧ ∀ i, i < xl.length → w.cell? ⟨b, o + i, none⟩ = some (.int .u8 ((xl.getD i 0).toNat : Int)) := by
      rcases hx1 with ⟨h0, _⟩ | h
      · exact absurd h0 hx2
      · exact h
    rw [hxf] at hx1
    rw [hxf]
    have hx0 : 0 < xl.length := List.length_pos_iff.2 hx2
    have hc0 := hcell 0 hx0
    rw [Nat.add_zero] at hc0
    have hcW : W.cell? ⟨b, o, none⟩ = some (.int .u8 ((xl.getD 0 0).toNat : Int)) := by
      rw [hb.cell (p := ⟨b, o, none⟩) (cell_lt hc0)]; exact hc0
    obtain ⟨cn, hcn⟩ : ∃ cn : Nat, cn = (xl.getD 0 0).toNat := ⟨_, rfl⟩
    rw [← hcn] at hcW
    have hcb : cn ≤ 255 := by rw [hcn]; have := (xl.getD 0 0).toNat_lt; omega
    have hdw : dotW xl = if cn = 46 then 46 :: xl else xl := by
      unfold dotW
      cases xl with
      | nil => exact absurd rfl hx2
      | cons d r =>
        have h1 : ((d :: r).head? = some 46) ↔ cn = 46 := by
          rw [hcn]
          show some d = some 46 ↔ d.toNat = 46
          exact byte_eq (n := 46) (by omega)
        by_cases h : cn = 46
        · rw [if_pos (h1.2 h), if_pos h]
        · rw [if_neg (fun e => h (h1.1 e)), if_neg h]
    obtain ⟨k, hk⟩ : ∃ k, k = xl.length := ⟨_, rfl⟩
    rw [← hk] at hx0 hx1 ⊢
    obtain ⟨va, vc, hvf⟩ := hown.reads.form
    obtain ⟨qn, hqn⟩ : ∃ qn, qn = q.length := ⟨_, rfl⟩
    rw [← hqn] at hvf
    subst hvf
    have HX1 := Lib.hid hx1
    have HOWN := Lib.hid hown
    have HBX := Lib.hid hbx
    have HB := Lib.hid hb
    have HSZ := Lib.hid hsz
    have c1 := hbx.cell
    have f1 := hbx.frozen
    have HEND : Hid (∀ W' u r, SS n1 W W' → Boxed W' n1 32 u → Owns W' (n1 + 2) u r → r = q ++ dotW xl → SI w n1 (pre ++ [x]) W' ∧ KeepsFrom w5.heap.size W W' ∧ KpL w (n1 + 1) W W') := fun W' u r h1 h2 h3 h4 => by
      have hwn := HWN.out
      have hbe : Below w.heap.size W W' := h1.below hwn hb.size
      refine ⟨⟨hb.trans hbe, ⟨u, h2, by rw [hfl, ← h4]; exact h3⟩, Nat.le_trans hsz h1.size⟩, ⟨h1.size, fun j o _ hj hc => h1.keep j o hj hc⟩, ⟨hbe, h1.old _ (by omega) (by omega) (by omega)⟩⟩
    have i1 : (0 : Int) < (k : Int) := by omega
    by_cases h46 : cn = 46
    · subst h46
      rw [if_pos rfl] at hdw
      rw [hdw, List.length_append, List.length_cons] at hln
      have HLN := Lib.hid hln
      have HDW := Lib.hid hdw
      clear hI hbx hown hb hsz hx1 hx2 hc0 hcell hcn hcb hdw hxl hxf hfl hln hk hqn hq hsp hlc
      gi_wp2_with (first | (gi_at_builtin; go_must (refine wpIn_append_G _ rfl _ _ rfl (n1 + 2) (.slice va qn vc) _ q [46] rfl rfl (HOWN.out.on (Below.alloc1 W _)) (reads_one W 5 46 46 rfl) (by have := HLN.out; simp; omega) (Nat.le_trans HSZ.out (Below.alloc1 W _).size) ?_); intro v6 w6 o6 g6; refine Hid.out ?_) | fail)
      refine Lib.hid ?_
      have hba : Below W.heap.size W (W.alloc (.cells #[.int .u8 46] 5)) := Below.alloc1 W _
      have S6 : SS n1 W w6 := (SS.of_below hba).trans (SS.grown (HOWN.out.on hba) g6)
      obtain ⟨ua, uc, huf⟩ := o6.reads.form
      obtain ⟨un, hun⟩ : ∃ un, un = (q ++ [46]).length := ⟨_, rfl⟩
      rw [← hun] at huf
      subst huf
      have x6 : Boxed w6 n1 32 (.slice va qn vc) := by
        have h := HBX.out.alloc (.cells #[.int .u8 46] 5)
        exact h.kept g6 (fun e => by have := ((HOWN.out.on hba).ge _ e.symm).1; omega)
      have x7 : Boxed (w6.setCell ⟨n1, 0, none⟩ (.slice ua un uc)) n1 32 (.slice ua un uc) := x6.set _
      have S7 : SS n1 W (w6.setCell ⟨n1, 0, none⟩ (.slice ua un uc)) := S6.trans (SS.set n1 w6 _)
      have o7 : Owns (w6.setCell ⟨n1, 0, none⟩ (.slice ua un uc)) (n1 + 2) (.slice ua un uc) (q ++ [46]) := o6.keptB fun j hj _ => Below.heap_setCell w6 ⟨n1, 0, none⟩ _ j (by have := (o6.ge j hj).1; simp; omega)
      have f7 := x6.frozen
      have c6 := x6.cell
      have c7 := x7.cell
      have f8 := x7.frozen
      have r7 : Reads (w6.setCell ⟨n1, 0, none⟩ (.slice ua un uc)) (.slice (some ⟨b, o, none⟩) k xc) xl := HX1.out.on (HB.out.trans (S7.below HWN.out HB.out.size))
      have z7 : n1 + 2 ≤ (w6.setCell ⟨n1, 0, none⟩ (.slice ua un uc)).heap.size := Nat.le_trans HSZ.out S7.size
      have HS7 := Lib.hid S7
      have HX7 := Lib.hid x7
      have HO7 := Lib.hid o7
      have HR7 := Lib.hid r7
      have HZ7 := Lib.hid z7
      clear c1 f1 S6 x6 S7 o7 r7 z7 x7 hba o6 g6 hun
      gi_wp2_with (first | (gi_at_builtin; go_must (refine wpIn_append_G _ rfl _ _ rfl (n1 + 2) (.slice ua un uc) _ (q ++ [46]) xl rfl rfl HO7.out HR7.out (by have := HLN.out; simp; omega) HZ7.out ?_); intro v9 w9 o9 g9; refine Hid.out ?_) | fail)
      refine Lib.hid ?_
      obtain ⟨ya, yc, hyf⟩ := o9.reads.form
      obtain ⟨yn, hyn⟩ : ∃ yn, yn = (q ++ [46] ++ xl).length := ⟨_, rfl⟩
      rw [← hyn] at hyf
      subst hyf
      have x9 : Boxed w9 n1 32 (.slice ua un uc) := HX7.out.kept g9 (fun e => by have := (HO7.out.ge _ e.symm).1; omega)
      have f9 := x9.frozen
      have c9 := x9.cell
      have HF := Lib.hid (HEND.out (w9.setCell ⟨n1, 0, none⟩ (.slice ya yn yc)) (.slice ya yn yc) (q ++ [46] ++ xl) ((HS7.out.trans (SS.grown HO7.out g9)).trans (SS.set n1 w9 _)) (x9.set _) (o9.keptB fun j hj _ => Below.heap_setCell w9 ⟨n1, 0, none⟩ _ j (by have := (o9.ge j hj).1; simp; omega)) (by rw [HDW.out]; simp))
      clear o9 g9 hyn x9 c6 c7 f7 f8
      gi_wp2
      exact HF.out
    · rw [if_neg h46] at hdw
      rw [hdw, List.length_append] at hln
      have j46 : ¬ (cn : Int) = 46 := by omega
      have HLN := Lib.hid hln
      have HDW := Lib.hid hdw
      have r7 : Reads W (.slice (some ⟨b, o, none⟩) k xc) xl := hx1.on hb
      have HR7 := Lib.hid r7
      clear hI hbx hown hb hsz hx1 hx2 hc0 hcell hcn hdw hxl hxf hfl hln hk hqn hq hsp hlc r7 h46
      gi_wp2_with (first | (gi_at_builtin; go_must (refine wpIn_append_G _ rfl _ _ rfl (n1 + 2) (.slice va qn vc) _ q xl rfl rfl HOWN.out HR7.out (by have := HLN.out; omega) HSZ.out ?_); intro v9 w9 o9 g9; refine Hid.out ?_) | fail)
      refine Lib.hid ?_
      obtain ⟨ya, yc, hyf⟩ := o9.reads.form
      obtain ⟨yn, hyn⟩ : ∃ yn, yn = (q ++ xl).length := ⟨_, rfl⟩
      rw [← hyn] at hyf
      subst hyf
      have x9 : Boxed w9 n1 32 (.slice va qn vc) := HBX.out.kept g9 (fun e => by have := (HOWN.out.ge _ e.symm).1; omega)
      have f9 := x9.frozen
      have c9 := x9.cell
      have HF := Lib.hid (HEND.out (w9.setCell ⟨n1, 0, none⟩ (.slice ya yn yc)) (.slice ya yn yc) (q ++ xl) ((SS.grown HOWN.out g9).trans (SS.set n1 w9 _)) (x9.set _) (o9.keptB fun j hj _ => Below.heap_setCell w9 ⟨n1, 0, none⟩ _ j (by have := (o9.ge j hj).1; simp; omega)) (by rw [HDW.out]))
      clear o9 g9 hyn x9
      gi_wp2
      exact HF.out
  case done =>
    rintro D xs W hD hS hI hK
    have hln := HDL.out _ (show linesOf xs <+: wholesO l from ⟨[], by rw [List.append_nil]; exact hS⟩)
    obtain ⟨v, hbx, hown⟩ := hI.sent
    obtain ⟨q, hq⟩ : ∃ q, q = (linesOf xs).flatMap dotW := ⟨_, rfl⟩
    rw [← hq] at hln hown
    have hb := hI.below
    have hsz := hI.size
    have hqs : (wholesO l).flatMap dotW = q := by rw [hq, ← hS]
    have HQS := Lib.hid hqs
    have HOWN := Lib.hid hown
    have HSZ := Lib.hid hsz
    have HB := Lib.hid hb
    have HLN := Lib.hid hln
    have HD : Hid (w.heap.size ≤ D) := by show _ ≤ _; omega
    have HK := Lib.hid hK
    have HKO := Lib.hid hwn
    have c1 := hbx.cell
    clear z0 z1 hb5 hz5 hwn hI hS hbx hown hb hsz hqs hq hln hK hD
    gi_wp2_with (first | (gi_at_builtin; go_must (refine wpIn_append_S _ rfl _ _ rfl (n1 + 2) v q ⟨#[46, 13, 10]⟩ rfl rfl HOWN.out (by decide) (by have := HLN.out; show q.length + 3 ≤ _; omega) HSZ.out ?_); intro v9 w9 o9 g9; refine Hid.out ?_) | fail)
    refine Lib.hid ?_
    have hk9 : w9.heap[D]? = some (.deferred (some [])) := (g9.block D (heap_lt HK.out) (fun e => by
      obtain ⟨cs, t, fz, h⟩ := owns_cells HOWN.out e.symm
      rw [HK.out] at h
      cases h)).trans HK.out
    have b9 : Below w.heap.size w w9 := HB.out.trans ((SS.grown HOWN.out g9).below HKO.out HB.out.size)
    have HE := Lib.hid (HFIN.out v9 (w9.putObj D (.deferred none)) (below_put b9 HD.out) (by rw [HQS.out]; exact owns_put (o9.mono (by have := HKO.out; omega)) hk9 rfl))
    clear o9 g9 b9
    gi_wp2
    refine ⟨by simp, .inl ⟨_, _, rfl, run_takeDeferred hk9, ?_⟩⟩
    exact ⟨_, results_stuff rfl rfl, HE.out⟩
  case stop =>
    rintro D pre W hD hSp hX hK
    exact hX.elim
theorem pStuff {v : Value} {l : List UInt8} {w : World} (hr : Reads w v l) (hl : l.length ≤ 140737488351232) : Calls Try.prog 16 #[v] w (StuffEnd l w) := by
  by_cases hc : codeOf l = 0
  · exact pStuffOk hr hl hc
  · exact pStuffBad hr hl hc
end Go.Proofs.Ytgiooblopdoobaa.Lines
