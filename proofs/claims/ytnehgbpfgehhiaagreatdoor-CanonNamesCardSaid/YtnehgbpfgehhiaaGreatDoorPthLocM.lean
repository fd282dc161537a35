/-
  MERGED by mergefill.py: PthLoc, PthHost, PthBox.
-/
import Derived.Test.YtnehgbpfgehhiaaGreatDoorPthQuo
/-
  PATH, the program: local parts, hosts.
-/
namespace Go.Proofs.YtnehgbpfgehhiaaGreatDoor.Path
open Go.RowKit Base
theorem dots_le (q : UInt8 → Bool) (ok : List UInt8 → Bool) (s : ByteArray) : ∀ n k, s.size - k ≤ n → k ≤ s.size → (dots q ok s k).2 ≤ s.size ∧ k ≤ (dots q ok s k).2 := by
  intro n
  induction n with
  | zero =>
    intro k hn hk
    have hb : ¬ hasB s (k + rowN q s k) 46 = true := fun h => by have := hasB_lt h; omega
    have hr := row_le q s k hk
    rw [dots_eq, if_neg hb]
    split <;> exact ⟨hr, Nat.le_add_right _ _⟩
  | succ n ih =>
    intro k hn hk
    have hr := row_le q s k hk
    rw [dots_eq]
    split
    · split
      · rename_i hb
        have := hasB_lt hb
        have := ih (k + rowN q s k + 1) (by omega) (by omega)
        exact ⟨this.1, by omega⟩
      · exact ⟨hr, Nat.le_add_right _ _⟩
    · exact ⟨hr, Nat.le_add_right _ _⟩
theorem quo_le (s : ByteArray) : ∀ n k acc, s.size - k ≤ n → k ≤ s.size → (quo s k acc).2.1 ≤ s.size ∧ k ≤ (quo s k acc).2.1 := by
  intro n
  induction n with
  | zero =>
    intro k acc hn hk
    have hb : ¬ hasB s k 34 = true := fun h => by have := hasB_lt h; omega
    have h1 := stepQ_ge s k
    have h2 := stepQ_le s k hk
    rw [quo_eq, if_neg hb, if_neg (by omega)]
    exact ⟨h2, h1⟩
  | succ n ih =>
    intro k acc hn hk
    have h1 := stepQ_ge s k
    have h2 := stepQ_le s k hk
    rw [quo_eq]
    split
    · rename_i hb
      have := hasB_lt hb
      exact ⟨this, Nat.le_succ _⟩
    · split
      · split
        · have := ih (stepQ s k + 1) (acc ++ [s.data.toList.getD (stepQ s k) 0]) (by omega) (by omega)
          exact ⟨this.1, by omega⟩
        · exact ⟨h2, h1⟩
      · exact ⟨h2, h1⟩
/-- A local part from k on: whether it may be, how far one comes, what it stands for. -/
def loc (s : ByteArray) (k : Nat) : Bool × Nat × ByteArray :=
  if hasB s k 34 = true then ((quo s (k + 1) []).1, (quo s (k + 1) []).2.1, ⟨(strQ (quo s (k + 1) [])).toArray⟩)
  else ((dots atomC someB s k).1, (dots atomC someB s k).2, strOf s k (dots atomC someB s k))
theorem loc_le (s : ByteArray) (k : Nat) (hk : k ≤ s.size) : (loc s k).2.1 ≤ s.size ∧ k ≤ (loc s k).2.1 := by
  unfold loc
  split
  · rename_i h
    have := hasB_lt h
    have := quo_le s _ (k + 1) [] (Nat.le_refl _) (by omega)
    exact ⟨this.1, Nat.le_trans (Nat.le_succ k) this.2⟩
  · exact dots_le atomC someB s _ k (Nat.le_refl _) hk
/-- What a step of the reader that answers a text leaves. -/
def LocEnd (g : Nat) (s : ByteArray) (w : World) (r : Bool × Nat × ByteArray) (e : Ending) (w' : World) : Prop := e = .returned (.tuple #[.string r.2.2, .bool r.1]) ∧ RdAt w' g s r.2.1 ∧ KeepX g w w'
set_option maxHeartbeats 8000000 in
set_option maxRecDepth 100000 in
theorem pLocal (g k : Nat) (s : ByteArray) (w : World) (h : RdAt w g s k) (hk : k ≤ s.size) (hs : s.size ≤ 140737488355328) :
    Calls Tryz.prog 125 #[.pointer (some ⟨g, 0, none⟩)] w (LocEnd g s w (loc s k)) := by
  have C1 : Hid (Calls Tryz.prog 66 #[.pointer (some ⟨g, 0, none⟩), .int .u8 34] w fun e w' => e = .returned (.bool (hasB s k 34)) ∧ RdAt w' g s (if hasB s k 34 = true then k + 1 else k) ∧ KeepX g w w') :=
    pHas g k s 34 w h hk (by omega)
  have HLT : Hid (hasB s k 34 = true → k < s.size) := hasB_lt
  have HD : Hid (loc s k = if hasB s k 34 = true then ((quo s (k + 1) []).1, (quo s (k + 1) []).2.1, ⟨(strQ (quo s (k + 1) [])).toArray⟩)
    else ((dots atomC someB s k).1, (dots atomC someB s k).2, strOf s k (dots atomC someB s k))) := rfl
  generalize loc s k = D at HD
  generalize hasB s k 34 = hb at C1 HD HLT
  clear h
  cases hb with
  | true =>
    have hlt : k < s.size := HLT.out rfl
    have HT : Hid (D = ((quo s (k + 1) []).1, (quo s (k + 1) []).2.1, ⟨(strQ (quo s (k + 1) [])).toArray⟩)) := HD.out
    clear HD HLT
    go_enter Tryz.func125, Tryz.ntmps125
    go_wp2_with (first | (go_at_call 66; refine C1.out.mono ?_; rintro ee w1 ⟨rfl, h1, q1⟩; refine Hid.out ?_) | fail)
    refine Lib.hid ?_
    have h1 : RdAt w1 g s (k + 1) := h1
    have HR1 := Lib.hid h1
    have HQ1 := Lib.hid q1
    have C2 := Lib.hid (pQuoted g (k + 1) s w1 h1 (by omega) hs)
    clear h1 q1
    generalize quo s (k + 1) [] = q at C2 HT
    go_wp2_with (first | (go_at_call 169; refine C2.out.mono ?_; rintro ee w2 ⟨rfl, h2, q2⟩; refine Hid.out ?_) | fail)
    refine Lib.hid ?_
    have HR2 := Lib.hid h2
    have HQ2 := Lib.hid q2
    clear h2 q2
    go_wp2
    go_ret2
    rw [HT.out]
    exact ⟨rfl, HR2.out, HQ1.out.trans HQ2.out⟩
  | false =>
    have HT : Hid (D = ((dots atomC someB s k).1, (dots atomC someB s k).2, strOf s k (dots atomC someB s k))) := HD.out
    clear HD HLT
    go_enter Tryz.func125, Tryz.ntmps125
    go_wp2_with (first | (go_at_call 66; refine C1.out.mono ?_; rintro ee w1 ⟨rfl, h1, q1⟩; refine Hid.out ?_) | fail)
    refine Lib.hid ?_
    have h1 : RdAt w1 g s k := h1
    have HQ1 := Lib.hid q1
    have C2 := Lib.hid (pAtoms g k s w1 h1 hk hs)
    clear h1 q1
    generalize dots atomC someB s k = q at C2 HT
    generalize strOf s k q = z at C2 HT
    go_wp2_with (first | (go_at_call 126; refine C2.out.mono ?_; rintro ee w2 ⟨rfl, h2, q2⟩; refine Hid.out ?_) | fail)
    refine Lib.hid ?_
    have HR2 := Lib.hid h2
    have HQ2 := Lib.hid q2
    clear h2 q2
    go_wp2
    go_ret2
    rw [HT.out]
    exact ⟨rfl, HR2.out, HQ1.out.trans HQ2.out⟩
end Go.Proofs.YtnehgbpfgehhiaaGreatDoor.Path
/-
  PATH, the program: hosts.
-/
namespace Go.Proofs.YtnehgbpfgehhiaaGreatDoor.Path
open Go.RowKit Base
/-- What a literal behind its bracket is, with the walk of it. -/
structure LitOk (w0 : World) (L : ByteArray → Nat → Bool × Nat × ByteArray) : Prop where
  le : ∀ s k, k ≤ s.size → (L s k).2.1 ≤ s.size ∧ k ≤ (L s k).2.1
  call : ∀ (g k : Nat) (s : ByteArray) (w : World), w0.heap.size ≤ g → Below w0.heap.size w0 w → RdAt w g s k → k ≤ s.size → s.size ≤ 140737488355328 → Calls Tryz.prog 67 #[.pointer (some ⟨g, 0, none⟩)] w (LocEnd g s w (L s k))
/-- A host from k on: whether it may be, how far one comes, whether it is a literal, its text. -/
def hst (L : ByteArray → Nat → Bool × Nat × ByteArray) (s : ByteArray) (k : Nat) : Bool × Nat × Bool × ByteArray :=
  if hasB s k 91 = true then ((L s (k + 1)).1, (L s (k + 1)).2.1, (L s (k + 1)).1, (L s (k + 1)).2.2)
  else ((dots nameC labelB s k).1, (dots nameC labelB s k).2, false, domOf s k (dots nameC labelB s k))
theorem hst_le {w0 : World} {L : ByteArray → Nat → Bool × Nat × ByteArray} (hL : LitOk w0 L) (s : ByteArray) (k : Nat) (hk : k ≤ s.size) : (hst L s k).2.1 ≤ s.size ∧ k ≤ (hst L s k).2.1 := by
  unfold hst
  split
  · rename_i h
    have := hasB_lt h
    have := hL.le s (k + 1) (by omega)
    exact ⟨this.1, Nat.le_trans (Nat.le_succ k) this.2⟩
  · exact dots_le nameC labelB s _ k (Nat.le_refl _) hk
def HostEnd (g : Nat) (s : ByteArray) (w : World) (r : Bool × Nat × Bool × ByteArray) (e : Ending) (w' : World) : Prop := e = .returned (.tuple #[.string r.2.2.2, .bool r.2.2.1, .bool r.1]) ∧ RdAt w' g s r.2.1 ∧ KeepX g w w'
set_option maxHeartbeats 8000000 in
set_option maxRecDepth 100000 in
theorem pHost {w0 : World} {L : ByteArray → Nat → Bool × Nat × ByteArray} (hL : LitOk w0 L) (g k : Nat) (s : ByteArray) (w : World) (hg0 : w0.heap.size ≤ g) (hE : Below w0.heap.size w0 w) (h : RdAt w g s k) (hk : k ≤ s.size) (hs : s.size ≤ 140737488355328) :
    Calls Tryz.prog 35 #[.pointer (some ⟨g, 0, none⟩)] w (HostEnd g s w (hst L s k)) := by
  have C1 : Hid (Calls Tryz.prog 66 #[.pointer (some ⟨g, 0, none⟩), .int .u8 91] w fun e w' => e = .returned (.bool (hasB s k 91)) ∧ RdAt w' g s (if hasB s k 91 = true then k + 1 else k) ∧ KeepX g w w') :=
    pHas g k s 91 w h hk (by omega)
  have HLT : Hid (hasB s k 91 = true → k < s.size) := hasB_lt
  have HLi := Lib.hid hL
  have HG0 : Hid (w0.heap.size ≤ g) := hg0
  have HE0 : Hid (∀ w', KeepX g w w' → Below w0.heap.size w0 w') := fun w' hk => hE.trans (hk.below hg0 (heap_lt h))
  have HD : Hid (hst L s k = if hasB s k 91 = true then ((L s (k + 1)).1, (L s (k + 1)).2.1, (L s (k + 1)).1, (L s (k + 1)).2.2)
    else ((dots nameC labelB s k).1, (dots nameC labelB s k).2, false, domOf s k (dots nameC labelB s k))) := rfl
  generalize hst L s k = D at HD
  generalize hasB s k 91 = hb at C1 HD HLT
  clear h hL hE hg0
  cases hb with
  | true =>
    have hlt : k < s.size := HLT.out rfl
    have HT : Hid (D = ((L s (k + 1)).1, (L s (k + 1)).2.1, (L s (k + 1)).1, (L s (k + 1)).2.2)) := HD.out
    clear HD HLT
    go_enter Tryz.func35, Tryz.ntmps35
    go_wp2_with (first | (go_at_call 66; refine C1.out.mono ?_; rintro ee w1 ⟨rfl, h1, q1⟩; refine Hid.out ?_) | fail)
    refine Lib.hid ?_
    have h1 : RdAt w1 g s (k + 1) := h1
    have HR1 := Lib.hid h1
    have HQ1 := Lib.hid q1
    have C2 := Lib.hid (HLi.out.call g (k + 1) s w1 HG0.out (HE0.out _ q1) h1 (by omega) hs)
    clear h1 q1
    generalize L s (k + 1) = q at C2 HT
    go_wp2_with (first | (go_at_call 67; refine C2.out.mono ?_; rintro ee w2 ⟨rfl, h2, q2⟩; refine Hid.out ?_) | fail)
    refine Lib.hid ?_
    have HR2 := Lib.hid h2
    have HQ2 := Lib.hid q2
    clear h2 q2
    go_wp2
    go_ret3
    rw [HT.out]
    exact ⟨rfl, HR2.out, HQ1.out.trans HQ2.out⟩
  | false =>
    have HT : Hid (D = ((dots nameC labelB s k).1, (dots nameC labelB s k).2, false, domOf s k (dots nameC labelB s k))) := HD.out
    clear HD HLT
    go_enter Tryz.func35, Tryz.ntmps35
    go_wp2_with (first | (go_at_call 66; refine C1.out.mono ?_; rintro ee w1 ⟨rfl, h1, q1⟩; refine Hid.out ?_) | fail)
    refine Lib.hid ?_
    have h1 : RdAt w1 g s k := h1
    have HQ1 := Lib.hid q1
    have C2 := Lib.hid (pDomain g k s w1 h1 hk hs)
    clear h1 q1
    generalize dots nameC labelB s k = q at C2 HT
    generalize domOf s k q = z at C2 HT
    go_wp2_with (first | (go_at_call 68; refine C2.out.mono ?_; rintro ee w2 ⟨rfl, h2, q2⟩; refine Hid.out ?_) | fail)
    refine Lib.hid ?_
    have HR2 := Lib.hid h2
    have HQ2 := Lib.hid q2
    clear h2 q2
    go_wp2
    go_ret3
    rw [HT.out]
    exact ⟨rfl, HR2.out, HQ1.out.trans HQ2.out⟩
end Go.Proofs.YtnehgbpfgehhiaaGreatDoor.Path
/-
  PATH, the program: mailboxes.
-/
namespace Go.Proofs.YtnehgbpfgehhiaaGreatDoor.Path
open Go.RowKit Base
theorem quo_ascii (s : ByteArray) : ∀ n k acc, s.size - k ≤ n → k ≤ s.size → (quo s k acc).1 = true → ∀ j, k ≤ j → j < (quo s k acc).2.1 → (s.data.toList.getD j 0).toNat < 128 := by
  intro n
  induction n with
  | zero =>
    intro k acc hn hk
    have hb : ¬ hasB s k 34 = true := fun h => by have := hasB_lt h; omega
    have h1 := stepQ_ge s k
    rw [quo_eq, if_neg hb, if_neg (by omega)]
    intro h; cases h
  | succ n ih =>
    intro k acc hn hk
    have h1 := stepQ_ge s k
    have h2 := stepQ_le s k hk
    rw [quo_eq]
    split
    · rename_i hb
      intro _ j hj hd
      have : j = k := by simp only at hd; omega
      rw [this, hasB_at hb]; decide
    · split
      · rename_i hlt
        split
        · rename_i hsh
          intro h j hj hd
          by_cases e1 : stepQ s k + 1 ≤ j
          · exact ih _ _ (by omega) (by omega) h j e1 hd
          · by_cases e2 : j = stepQ s k
            · have := of_decide_eq_true hsh
              rw [e2]; omega
            · by_cases hb : hasB s k 92 = true
              · have e3 : stepQ s k = k + 1 := by unfold stepQ; rw [if_pos hb]
                have : j = k := by omega
                rw [this, hasB_at hb]; decide
              · have e3 : stepQ s k = k := by unfold stepQ; rw [if_neg hb]
                omega
        · intro h; cases h
      · intro h; cases h
theorem atomC_ascii (c : UInt8) (h : atomC c = true) : c.toNat < 128 := by
  unfold atomC at h
  rw [Bool.or_eq_true] at h
  rcases h with h | h
  · exact ldC_ascii h
  · have h := of_decide_eq_true h
    obtain ⟨o, ho⟩ := Int.eq_ofNat_of_zero_le h
    have := (Lib.indexByte_some ho).1
    have hm := List.mem_of_getElem? this
    have : ∀ x ∈ marksB, x.toNat < 128 := by decide
    exact this c hm
theorem loc_ascii (s : ByteArray) (k : Nat) (hk : k ≤ s.size) (h : (loc s k).1 = true) : ∀ j, k ≤ j → j < (loc s k).2.1 → (s.data.toList.getD j 0).toNat < 128 := by
  unfold loc at h ⊢
  split at h
  · rename_i hb
    rw [if_pos hb]
    have hlt := hasB_lt hb
    intro j hj hd
    by_cases e : j = k
    · rw [e, hasB_at hb]; decide
    · exact quo_ascii s _ (k + 1) [] (Nat.le_refl _) (by omega) h j (by omega) hd
  · rename_i hb
    rw [if_neg hb]
    exact dots_ascii atomC someB atomC_ascii s _ k (Nat.le_refl _) hk
/-- A path, its value, its block. -/
structure PV where
  null : Bool
  loc : ByteArray
  dom : ByteArray
  lit : Bool
def PV.zero : PV := ⟨false, ⟨#[]⟩, ⟨#[]⟩, false⟩
def PV.cells (p : PV) : List Value := [.bool p.null, .string p.loc, .string p.dom, .bool p.lit]
def PV.val (p : PV) : Value := .agg p.cells.toArray
def PathAt (w : World) (b : Nat) (p : PV) : Prop := w.heap[b]? = some (.cells p.cells.toArray 26 (0, 0))
theorem PathAt.kept {w w' : World} {b g : Nat} {p : PV} (h : PathAt w b p) (hk : KeepX g w w') (hne : b ≠ g) : PathAt w' b p := (hk.block b (heap_lt h) hne).trans h
def postB : List UInt8 := [112, 111, 115, 116, 109, 97, 115, 116, 101, 114]
/-- A mailbox from k on: whether it may be, how far one comes, which. -/
def mbx (L : ByteArray → Nat → Bool × Nat × ByteArray) (s : ByteArray) (k : Nat) : Bool × Nat × PV :=
  if (loc s k).1 then
    if hasB s (loc s k).2.1 64 = true then
      ((hst L s ((loc s k).2.1 + 1)).1, (hst L s ((loc s k).2.1 + 1)).2.1, if (hst L s ((loc s k).2.1 + 1)).1 then ⟨false, (loc s k).2.2, (hst L s ((loc s k).2.1 + 1)).2.2.2, (hst L s ((loc s k).2.1 + 1)).2.2.1⟩ else PV.zero)
    else if Lib.equalFold (s.extract k (loc s k).2.1).data.toList postB then (true, (loc s k).2.1, ⟨false, ⟨postB.toArray⟩, ⟨#[]⟩, false⟩) else (false, (loc s k).2.1, PV.zero)
  else (false, (loc s k).2.1, PV.zero)
def BoxEnd (g : Nat) (s : ByteArray) (w : World) (r : Bool × Nat × PV) (e : Ending) (w' : World) : Prop := e = .returned (.tuple #[r.2.2.val, .bool r.1]) ∧ RdAt w' g s r.2.1 ∧ KeepX g w w'
theorem results_path {w : World} {fn : Func} {tmps : Array Value} {i j b : Nat} {p : PV} {v : Value} (hr : fn.results = #[ResultVar.cell i 26, ResultVar.tmp j]) (h1 : tmps.getD i undef = .pointer (some ⟨b, 0, none⟩)) (h2 : tmps.getD j undef = v) (hat : PathAt w b p) :
    (results fn tmps).run Tryz.prog w = .ok (.tuple #[p.val, v]) w := by
  have hl := run_loadVar_row (P := Tryz.prog) w b 26 26 p.cells.toArray (0, 0) _ hat Tryz.underlying26 rfl (by kernel_rfl)
  unfold results
  rw [hr]
  rw [Array.getD_eq_getD_getElem?] at h1 h2
  simp [h1, h2, hl, asAddr, PV.val]
theorem rd_keptK {w w' : World} {g b k : Nat} {s : ByteArray} (h : RdAt w g s k) (q : KeepX b w w') (hne : g ≠ b) : RdAt w' g s k := (q.block g (heap_lt h) hne).trans h
theorem keepX_above {w0 w w' : World} {g b : Nat} (h : KeepX g w0 w) (q : KeepX b w w') (hb : w0.heap.size ≤ b) : KeepX g w0 w' :=
  ⟨q.os.trans h.os, q.tape.trans h.tape, q.output.trans h.output, Nat.le_trans h.size q.size, fun k hk hne => (q.block k (Nat.lt_of_lt_of_le hk h.size) (by omega)).trans (h.block k hk hne)⟩
theorem keepX_four (w : World) (b : Nat) (x y z u : Value) : KeepX b w ((((w.setCell ⟨b, 0, none⟩ x).setCell ⟨b, 1, none⟩ y).setCell ⟨b, 2, none⟩ z).setCell ⟨b, 3, none⟩ u) :=
  (KeepX.set b _ 0 x).trans ((KeepX.set b _ 1 y).trans ((KeepX.set b _ 2 z).trans (KeepX.set b _ 3 u)))
theorem path_four {w : World} {b : Nat} {p : PV} (h : PathAt w b p) (q : PV) : PathAt ((((w.setCell ⟨b, 0, none⟩ (.bool q.null)).setCell ⟨b, 1, none⟩ (.string q.loc)).setCell ⟨b, 2, none⟩ (.string q.dom)).setCell ⟨b, 3, none⟩ (.bool q.lit)) b q :=
  set_four h _ _ _ _
theorem path_one {w : World} {b : Nat} {p : PV} (h : PathAt w b p) (l : ByteArray) : PathAt (w.setCell ⟨b, 1, none⟩ (.string l)) b ⟨p.null, l, p.dom, p.lit⟩ := by
  unfold PathAt; rw [heap_setCell_any w b 1 _ _ _ _ h]; rfl
theorem ext_le3 {s : ByteArray} (hs : s.size ≤ 4000000000) (k m : Nat) : (s.extract k m).size < 4294967281 := by
  rw [ByteArray.size_extract]; omega
theorem post_ascii : ∀ (j : Nat) (b : UInt8), (⟨postB.toArray⟩ : ByteArray).data.toList[j]? = some b → b.toNat < 128 := by
  intro j b h
  have hm := List.mem_of_getElem? h
  have : ∀ x ∈ postB, x.toNat < 128 := by decide
  exact this b hm
def pathO : Obj := Obj.cells #[Value.bool false, Value.string ⟨#[]⟩, Value.string ⟨#[]⟩, Value.bool false] 26
/-- The world behind two boxes of paths. -/
theorem two_boxes (w : World) : Below w.heap.size w ((w.alloc pathO).alloc pathO) ∧ PathAt ((w.alloc pathO).alloc pathO) w.heap.size PV.zero ∧ PathAt ((w.alloc pathO).alloc pathO) (w.heap.size + 1) PV.zero := by
  have h1 := (MapKept.heap_alloc w pathO).1
  have h2 := (MapKept.heap_alloc (w.alloc pathO) pathO).1
  have e : (w.alloc pathO).heap.size = w.heap.size + 1 := by simp
  rw [e] at h2
  exact ⟨(Below.alloc1 w _).trans ((Below.alloc1 _ _).mono (Below.alloc1 w _).size), ((Below.alloc1 _ _).block _ (heap_lt h1)).trans h1, h2⟩
end Go.Proofs.YtnehgbpfgehhiaaGreatDoor.Path
