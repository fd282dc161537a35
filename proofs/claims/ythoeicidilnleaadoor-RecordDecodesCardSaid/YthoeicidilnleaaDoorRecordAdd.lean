/-
  RECORD: numbers and texts behind bytes, of the program and of the document's answer.
-/
import Derived.Test.YthoeicidilnleaaDoorRecordRight
import Derived.ArgAppend
namespace Go.Proofs.YthoeicidilnleaaDoor.Codec
open Go.RowKit

/-- Bytes that something may be appended to: the call's own, or a full row. -/
def Apps (w : World) (B : Nat) (v : Value) (xs : List UInt8) : Prop := Owns w B v xs ∨ ((∃ b o, v = .slice (some ⟨b, o, none⟩) xs.length xs.length) ∧ Reads w v xs)
theorem Apps.on {w w' : World} {B : Nat} {v : Value} {l : List UInt8} (h : Apps w B v l) (hb : Below w.heap.size w w') : Apps w' B v l := by
  rcases h with h | ⟨h1, h2⟩
  · exact Or.inl (h.on hb)
  · exact Or.inr ⟨h1, h2.on hb⟩
/-- All blocks that were there are as they were, but for the slice's own. -/
def Spares (v : Value) (w w' : World) : Prop := w.heap.size ≤ w'.heap.size ∧ ∀ k, k < w.heap.size → some k ≠ v.ownBlock → w'.heap[k]? = w.heap[k]?
theorem Spares.of_below (v : Value) {w w' : World} (h : Below w.heap.size w w') : Spares v w w' := ⟨h.size, fun k hk _ => h.block k hk⟩
theorem Spares.of_grown {v : Value} {w w' : World} {row : Option Nat} (h : w.grownBy w' row) (hr : ∀ k, row = some k → v.ownBlock = some k) : Spares v w w' :=
  ⟨h.size, fun k hk hne => h.block k hk fun e => hne (hr k e.symm).symm⟩
theorem Spares.trans {v : Value} {w w1 w2 : World} (h : Spares v w w1) (h2 : Spares v w1 w2) : Spares v w w2 :=
  ⟨Nat.le_trans h.1 h2.1, fun k hk hne => (h2.2 k (Nat.lt_of_lt_of_le hk h.1) hne).trans (h.2 k hk hne)⟩
theorem Spares.own {v : Value} {w w' : World} (h : Spares v w w') {base : Nat} {e : TypeId} {size : Nat} {u : Value} {n : Nat} {xs : List Value} (ho : w.ownsRow base e size u n xs) (hne : u.ownBlock = none ∨ u.ownBlock ≠ v.ownBlock) : w'.ownsRow base e size u n xs := by
  refine ⟨ho.1, ?_⟩
  rcases ho.2 with hn | ⟨g, cap, cur, rfl, h1, h2, h3⟩
  · exact Or.inl hn
  · refine Or.inr ⟨g, cap, cur, rfl, h1, ?_, h3⟩
    have hg : g < w.heap.size := by
      rcases Nat.lt_or_ge g w.heap.size with h | h
      · exact h
      · rw [Array.getElem?_eq_none h] at h2; simp at h2
    rcases hne with hne | hne
    · simp [Value.ownBlock] at hne
    · rw [h.2 g hg (by simpa [Value.ownBlock] using hne), h2]
/-- Rows of two kinds of elements never share a block. -/
theorem own_apart {w : World} {B B' : Nat} {e e' : TypeId} {size size' n n' : Nat} {v u : Value} {xs ys : List Value} (hv : w.ownsRow B e size v n xs) (hu : w.ownsRow B' e' size' u n' ys) (hne : e ≠ e') : u.ownBlock = none ∨ u.ownBlock ≠ v.ownBlock := by
  rcases hu.2 with ⟨rfl, _⟩ | ⟨g, cap, cur, rfl, _, h2, _⟩
  · exact Or.inl rfl
  · rcases hv.2 with ⟨rfl, _⟩ | ⟨g', cap', cur', rfl, _, h2', _⟩
    · right; simp [Value.ownBlock]
    · right
      intro he
      have : g = g' := by simpa [Value.ownBlock] using he
      subst this
      rw [h2] at h2'
      injection h2' with h2'
      injection h2' with _ h3
      exact hne h3.symm
section
variable (w : World)
theorem cells_of {b o : Nat} {l : List UInt8} (hc : ∀ i, i < l.length → w.cell? ⟨b, o + i, none⟩ = some (.int .u8 ((l.getD i 0).toNat : Int))) : ∀ j u, (Lib.byteCells l)[j]? = some u → w.cell? ((⟨b, o, none⟩ : Addr).add j) = some u := fun j u h => by
  have hj : j < l.length := by
    rcases Nat.lt_or_ge j l.length with h' | h'
    · exact h'
    · simp [Lib.byteCells, List.getElem?_eq_none h'] at h
  have e := hc j hj
  rw [Addr.add_lit, e]
  simp [Lib.byteCells, List.getElem?_eq_getElem hj] at h
  rw [← h]; simp [List.getD, List.getElem?_eq_getElem hj]
theorem run_append_apps (B : Nat) (ty : TypeId) (v x : Value) (xs l : List UInt8) (hown : Apps w B v xs) (hr : Reads w x l) (h0 : 0 < l.length) (hlim : xs.length + l.length ≤ 100000000000000) (hB : B ≤ w.heap.size) :
    ∃ v' w', (Builtin.append_ #[23, 23] ty #[v, x]).run Tryd.prog w = .ok v' w' ∧ Owns w' B v' (xs ++ l) ∧ Below B w w' ∧ Spares v w w' := by
  obtain ⟨i0, hi, hz0, hz1, hz2⟩ := info_parts info5
  rcases hr with ⟨rfl, _⟩ | ⟨b', o', c, rfl, _, hcell⟩
  · simp at h0
  rcases hown with hown | ⟨⟨b, o, rfl⟩, hr2⟩
  · obtain ⟨v', w', h1, h2, h3, _⟩ := run_append_own_wide (P := Tryd.prog) w B 23 ty 5 i0 (.int .u8 0) 1 1 Tryd.underlying23 hi hz0 hz1 hz2 rfl (by decide) v _ _ hown ⟨b', o', none⟩ l.length c (Lib.byteCells l) (by simp [Lib.byteCells]) (cells_of w hcell) (Lib.byteCells_one _) (by unfold maxLen; omega) (by omega) hB
    refine ⟨v', w', h1, ?_, (Below.refl B w).grown h3 hB (fun k hk => (hown.lt k hk).1), Spares.of_grown h3 fun k hk => hk⟩
    unfold Owns
    rw [List.length_append, Lib.byteCells_append]; exact h2
  · have holds : ∀ j u, (Lib.byteCells xs)[j]? = some u → w.cell? ((⟨b, o, none⟩ : Addr).add j) = some u := by
      rcases hr2 with ⟨rfl, _⟩ | ⟨b2, o2, c2, he, _, h2⟩
      · intro j u h; simp [Lib.byteCells] at h
      · cases he; exact cells_of w h2
    obtain ⟨v', w', h1, h2, h3⟩ := run_append_arg_grows (P := Tryd.prog) w 23 ty 5 i0 (.int .u8 0) 1 1 Tryd.underlying23 hi hz0 hz1 hz2 rfl (by decide) ⟨b, o, none⟩ xs.length xs.length (Lib.byteCells xs) (by simp [Lib.byteCells]) holds ⟨b', o', none⟩ l.length c (Lib.byteCells l) (by simp [Lib.byteCells]) (cells_of w hcell) (by omega) (by unfold maxLen; omega) (by omega)
    refine ⟨v', w', h1, ?_, (Below.refl B w).grown h3 hB (fun k hk => by cases hk), Spares.of_grown h3 (fun k hk => by cases hk)⟩
    refine Owns.mono (B := w.heap.size) ?_ hB
    unfold Owns
    rw [List.length_append, Lib.byteCells_append]; exact h2
theorem wp_append_apps {ops : Array Oper} {rest : List Oper} {o : Oper} {a : Act} {Q : Exit → Act → World → Prop} (hgd : o.guard = none) (s x : Operand)
    (ho : o.op = .call { callee := .builtin .append, args := #[s, x], argTypes := #[23, 23] })
    (B : Nat) (v y : Value) (xs l : List UInt8) (hs : a.eval s = v) (hx : a.eval x = y) (hown : Apps w B v xs) (hr : Reads w y l) (h0 : 0 < l.length) (hlim : xs.length + l.length ≤ 100000000000000) (hB : B ≤ w.heap.size)
    (h : ∀ v' w', Owns w' B v' (xs ++ l) → Below B w w' → Spares v w w' → wpList Tryd.prog ops Q rest (a.put o.dst v') w') : wpList Tryd.prog ops Q (o :: rest) a w := by
  refine wpList_plain hgd fun K hK => ?_
  obtain ⟨v', w', hr, h2, h3, h4⟩ := run_append_apps w B o.type v y xs l hown hr h0 hlim hB
  unfold Oper.wp execOp
  simp only [ho, resolve, invoke, builtin, Sem.run_bind, Sem.run_pure, Result.andThen_ok, List.map_toArray, List.map_cons, List.map_nil, hs, hx, hr]
  exact hK _ _ (h v' w' h2 h3 h4)
theorem step_append_apps {ops : Array Oper} {o : Oper} {a : Act} {K : Act → World → Prop} {Q : Exit → Act → World → Prop} {E : Prop} (hgd : o.guard = none) (s x : Operand)
    (ho : o.op = .call { callee := .builtin .append, args := #[s, x], argTypes := #[23, 23] })
    (B : Nat) (v y : Value) (xs l : List UInt8) (hs : a.eval s = v) (hx : a.eval x = y) (hown : Apps w B v xs) (hr : Reads w y l) (h0 : 0 < l.length) (hlim : xs.length + l.length ≤ 100000000000000) (hB : B ≤ w.heap.size)
    (h : ∀ v' w', Owns w' B v' (xs ++ l) → Below B w w' → Spares v w w' → K (a.put o.dst v') w') :
    if Region.wanted o (yielded ops a.tmps) = true then Oper.wp Tryd.prog o a w K Q else E := by
  have hw : Region.wanted o (yielded ops a.tmps) = true := by simp [Region.wanted, hgd]
  rw [if_pos hw]
  obtain ⟨v', w', hr, h2, h3, h4⟩ := run_append_apps w B o.type v y xs l hown hr h0 hlim hB
  unfold Oper.wp execOp
  simp only [ho, resolve, invoke, builtin, Sem.run_bind, Sem.run_pure, Result.andThen_ok, List.map_toArray, List.map_cons, List.map_nil, hs, hx, hr]
  exact h v' w' h2 h3 h4
end

theorem numBytes_len {n : Nat} (h : n ≤ 9007199254740992) : 0 < (numBytes n).length ∧ (numBytes n).length ≤ 18 := by
  unfold numBytes; have := digits_17 h; simp; omega
theorem textBytes_len {s : List UInt8} (h : s.length ≤ 1048576) : 0 < (textBytes s).length ∧ (textBytes s).length ≤ s.length + 19 := by
  rw [text_len]; have := digits_17 (n := s.length) (by omega); omega

/-- A call's end: bytes of its own, told by a row's base. -/
def AddEnd2 (B : Nat) (u : Value) (l : List UInt8) (w : World) (e : Ending) (w' : World) : Prop := ∃ v, e = .returned v ∧ Owns w' B v l ∧ Below B w w' ∧ Spares u w w'
def AddEnd (B : Nat) (l : List UInt8) (w : World) (e : Ending) (w' : World) : Prop := ∃ v, e = .returned v ∧ Owns w' B v l ∧ Below B w w'

set_option maxHeartbeats 400000 in
set_option maxRecDepth 100000 in
theorem cAddNumber (B : Nat) (v : Value) (xs : List UInt8) (n : Nat) (w : World) (hown : Apps w B v xs) (hB : B ≤ w.heap.size) (hl : xs.length ≤ 1000000000) (hn : n ≤ 9007199254740992) (htab : Tab B w) :
    Calls Tryd.prog 49 #[v, .int .i64 n] w (AddEnd2 B v (xs ++ numBytes n) w) := by
  have HN := Lib.hid (cNumber_yes n w hn (htab.up hB))
  have hlen := numBytes_len hn
  generalize numBytes n = X at *
  have HO := Lib.hid hown
  clear hown htab hn
  go_enter Tryd.func49, Tryd.ntmps49
  go_wp2_with (go_at_call 61; refine HN.out.mono ?_; rintro e w1 ⟨v1, rfl, own1, hb1⟩; refine Hid.out ?_)
  refine Lib.hid ?_
  have hs := hb1.size
  go_wp2_with (at_builtin; refine wp_append_apps _ rfl _ _ rfl B v v1 xs X rfl rfl (HO.out.on hb1) own1.reads hlen.1 (by omega) (by omega) ?_; intro v2 w2 own2 hb2 sp2; refine Hid.out ?_)
  refine Lib.hid ?_
  go_wp2
  go_ret
  exact ⟨v2, rfl, own2, (hb1.mono hB).trans hb2, (Spares.of_below v hb1).trans sp2⟩
set_option maxHeartbeats 400000 in
set_option maxRecDepth 100000 in
theorem cAddText (B : Nat) (v : Value) (xs : List UInt8) (s : ByteArray) (w : World) (hown : Apps w B v xs) (hB : B ≤ w.heap.size) (hl : xs.length ≤ 1000000000) (hn : s.size ≤ 1048576) (htab : Tab B w) :
    Calls Tryd.prog 25 #[v, .string s] w (AddEnd2 B v (xs ++ textBytes s.data.toList) w) := by
  have HN := Lib.hid (cText_yes s w hn (htab.up hB))
  have hsl : s.data.toList.length = s.size := Array.length_toList
  have hlen := textBytes_len (s := s.data.toList) (by omega)
  rw [hsl] at hlen
  generalize textBytes s.data.toList = X at *
  have HO := Lib.hid hown
  clear hown htab hsl
  go_enter Tryd.func25, Tryd.ntmps25
  go_wp2_with (go_at_call 50; refine HN.out.mono ?_; rintro e w1 ⟨v1, rfl, own1, hb1⟩; refine Hid.out ?_)
  refine Lib.hid ?_
  have hs := hb1.size
  go_wp2_with (at_builtin; refine wp_append_apps _ rfl _ _ rfl B v v1 xs X rfl rfl (HO.out.on hb1) own1.reads hlen.1 (by omega) (by omega) ?_; intro v2 w2 own2 hb2 sp2; refine Hid.out ?_)
  refine Lib.hid ?_
  go_wp2
  go_ret
  exact ⟨v2, rfl, own2, (hb1.mono hB).trans hb2, (Spares.of_below v hb1).trans sp2⟩

set_option maxHeartbeats 400000 in
set_option maxRecDepth 100000 in
theorem rNumber (B : Nat) (v : Value) (xs : List UInt8) (kind : Int) (c : UInt8) (hc : kind = (c.toNat : Int)) (n : Nat) (w : World) (hown : Apps w B v xs) (hB : B ≤ w.heap.size) (hl : xs.length ≤ 1000000000) (hn : n ≤ 9007199254740992) :
    Calls Tryd.prog 48 #[v, .int .u8 kind, .int .i64 n] w (AddEnd B (xs ++ c :: numBytes n) w) := by
  have HN := Lib.hid (fun w => rNumber_yes n w hn)
  have hlen := numBytes_len hn
  generalize numBytes n = X at *
  have HO := Lib.hid hown
  have HC := Lib.hid hc
  clear hown hn hc
  go_enter Tryd.func48, Tryd.ntmps48
  go_wp2_with (at_builtin; refine wp_append_apps _ rfl _ _ rfl B v _ xs [c] rfl rfl (HO.out.on (Below.alloc1 _ _)) (reads_one _ _ _ c HC.out) (by simp) (by simp; omega) (by simp; omega) ?_; intro v2 w2 own2 hb2 sp2; refine Hid.out ?_)
  refine Lib.hid ?_
  have hb3 := ((Below.alloc1 w (.cells #[.int .u8 kind] 5)).mono hB).trans hb2
  have hs := hb3.size
  go_wp2_with (go_at_call 60; refine (HN.out _).mono ?_; rintro e w1 ⟨v1, rfl, own1, hb1⟩; refine Hid.out ?_)
  refine Lib.hid ?_
  have hs1 := hb1.size
  go_wp2_with (at_builtin; refine wp_append_apps _ rfl _ _ rfl B v2 v1 (xs ++ [c]) X rfl rfl (Or.inl (own2.on hb1)) own1 hlen.1 (by simp; omega) (by omega) ?_; intro v3 w3 own3 hb4 sp3; refine Hid.out ?_)
  refine Lib.hid ?_
  go_wp2
  go_ret
  exact ⟨v3, rfl, by rw [List.append_assoc] at own3; exact own3, (hb3.trans (hb1.mono (Nat.le_trans hB hs))).trans hb4⟩
set_option maxHeartbeats 400000 in
set_option maxRecDepth 100000 in
theorem rText (B : Nat) (v : Value) (xs : List UInt8) (kind : Int) (c : UInt8) (hc : kind = (c.toNat : Int)) (s : ByteArray) (w : World) (hown : Apps w B v xs) (hB : B ≤ w.heap.size) (hl : xs.length ≤ 1000000000) (hn : s.size ≤ 1048576) :
    Calls Tryd.prog 20 #[v, .int .u8 kind, .string s] w (AddEnd B (xs ++ c :: textBytes s.data.toList) w) := by
  have HN := Lib.hid (fun w => rText_yes s w hn)
  have hsl : s.data.toList.length = s.size := Array.length_toList
  have hlen := textBytes_len (s := s.data.toList) (by omega)
  rw [hsl] at hlen
  generalize textBytes s.data.toList = X at *
  have HO := Lib.hid hown
  have HC := Lib.hid hc
  clear hown hsl hc
  go_enter Tryd.func20, Tryd.ntmps20
  go_wp2_with (at_builtin; refine wp_append_apps _ rfl _ _ rfl B v _ xs [c] rfl rfl (HO.out.on (Below.alloc1 _ _)) (reads_one _ _ _ c HC.out) (by simp) (by simp; omega) (by simp; omega) ?_; intro v2 w2 own2 hb2 sp2; refine Hid.out ?_)
  refine Lib.hid ?_
  have hb3 := ((Below.alloc1 w (.cells #[.int .u8 kind] 5)).mono hB).trans hb2
  have hs := hb3.size
  go_wp2_with (go_at_call 47; refine (HN.out _).mono ?_; rintro e w1 ⟨v1, rfl, own1, hb1⟩; refine Hid.out ?_)
  refine Lib.hid ?_
  have hs1 := hb1.size
  go_wp2_with (at_builtin; refine wp_append_apps _ rfl _ _ rfl B v2 v1 (xs ++ [c]) X rfl rfl (Or.inl (own2.on hb1)) own1 hlen.1 (by simp; omega) (by omega) ?_; intro v3 w3 own3 hb4 sp3; refine Hid.out ?_)
  refine Lib.hid ?_
  go_wp2
  go_ret
  exact ⟨v3, rfl, by rw [List.append_assoc] at own3; exact own3, (hb3.trans (hb1.mono (Nat.le_trans hB hs))).trans hb4⟩
end Go.Proofs.YthoeicidilnleaaDoor.Codec
