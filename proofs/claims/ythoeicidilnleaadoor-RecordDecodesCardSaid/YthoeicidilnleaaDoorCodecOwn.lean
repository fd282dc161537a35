/-
  CODEC: bytes that a call owns; append of whatever reads as bytes; the program's Number and Text.
-/
import Derived.Test.YthoeicidilnleaaDoorCodecRef
import Derived.Test.YthoeicidilnleaaDoorShelf
import Derived.OwnWalk
import Derived.Deep.DeepAppendWide
import Derived.Lib.AppendStr
namespace Go.Proofs.YthoeicidilnleaaDoor.Codec
open Go.RowKit

theorem info5 : (Tryd.prog.info? 5).map (fun i => (i.zero, i.size, i.bytes)) = some (some (.int .u8 0), 1, 1) := by kernel_rfl

/-! ### Bytes that the call owns, carried on -/
/-- A slice of the call's own that holds these bytes. -/
def Owns (w : World) (B : Nat) (v : Value) (l : List UInt8) : Prop := w.ownsRow B 5 1 v l.length (Lib.byteCells l)
theorem Owns.on {w w' : World} {B : Nat} {v : Value} {l : List UInt8} (h : Owns w B v l) (hb : Below w.heap.size w w') : Owns w' B v l := by
  refine ⟨h.1, ?_⟩
  rcases h.2 with hn | ⟨g, cap, cur, rfl, h1, h2, h3⟩
  · exact Or.inl hn
  · refine Or.inr ⟨g, cap, cur, rfl, h1, ?_, h3⟩
    have hg : g < w.heap.size := by
      rcases Nat.lt_or_ge g w.heap.size with h | h
      · exact h
      · rw [Array.getElem?_eq_none h] at h2; simp at h2
    rw [hb.block g hg, h2]
theorem Owns.mono {w : World} {B B' : Nat} {v : Value} {l : List UInt8} (h : Owns w B v l) (hB : B' ≤ B) : Owns w B' v l := by
  refine ⟨h.1, ?_⟩
  rcases h.2 with hn | ⟨g, cap, cur, rfl, h1, h2⟩
  · exact Or.inl hn
  · exact Or.inr ⟨g, cap, cur, rfl, by omega, h2⟩
theorem Owns.reads {w : World} {B : Nat} {v : Value} {l : List UInt8} (h : Owns w B v l) : Reads w v l := by
  rcases h.2 with ⟨rfl, hn⟩ | ⟨g, cap, cur, rfl, h1, h2, h3, h4, h5, h6⟩
  · have : l = [] := List.eq_nil_of_length_eq_zero hn
    subst this
    exact Or.inl ⟨rfl, none, 0, rfl, fun _ => rfl⟩
  · refine Or.inr ⟨g, 0, cap, rfl, h3, fun i hi => ?_⟩
    unfold World.cell?
    rw [h2]
    show cur[0 + i]? = _
    rw [Nat.mul_one] at h6
    have e : (Lib.byteCells l)[i]? = some (.int .u8 ((l.getD i 0).toNat : Int)) := by
      simp [Lib.byteCells, List.getD, List.getElem?_eq_getElem hi]
    rw [← e, ← h6, List.getElem?_take_of_lt hi, Nat.zero_add, Array.getElem?_toList]
/-- The first bytes of it. -/
theorem Owns.cut {w : World} {B : Nat} {g : Nat} {n c : Nat} {l : List UInt8} (h : Owns w B (.slice (some ⟨g, 0, none⟩) n c) l) (k : Nat) (hk : k ≤ l.length) : Reads w (.slice (some ⟨g, 0, none⟩) k c) (l.take k) := by
  rcases h.reads with ⟨rfl, a, c', e, _⟩ | ⟨b, o, c', e, h1, h2⟩
  · refine Or.inl ⟨by simp, some ⟨g, 0, none⟩, c, ?_, fun h => by cases h⟩
    simp at hk; rw [hk]
  · cases e
    have hl : (l.take k).length = k := by simp; omega
    refine Or.inr ⟨g, 0, c, by rw [hl], by omega, fun i hi => ?_⟩
    rw [hl] at hi
    rw [h2 i (by omega)]
    congr 3
    simp [List.getD, List.getElem?_take_of_lt hi]

section
variable (w : World)
/-- append OF A SLICE THAT READS AS SOME BYTES, nil and empty too, onto a slice of the call's own. -/
theorem run_append_reads (B : Nat) (ty : TypeId) (v x : Value) (xs l : List UInt8) (hown : Owns w B v xs) (hr : Reads w x l) (hlim : xs.length + l.length ≤ 200000000000000) (hB : B ≤ w.heap.size) :
    ∃ v' w', (Builtin.append_ #[23, 23] ty #[v, x]).run Tryd.prog w = .ok v' w' ∧ Owns w' B v' (xs ++ l) ∧ Below B w w' := by
  obtain ⟨i0, hi, hz0, hz1, hz2⟩ := info_parts info5
  have hb : ∀ w', w.grownBy w' v.ownBlock → Below B w w' := fun w' hg => (Below.refl B w).grown hg hB fun k hk => (hown.lt k hk).1
  rcases hr with ⟨rfl, a, c, rfl, hc⟩ | ⟨b, o, c, rfl, _, hcell⟩
  · cases a with
    | none =>
      obtain rfl := hc rfl
      refine ⟨v, w, run_append_owned_none (P := Tryd.prog) w B 23 ty 5 i0 1 Tryd.underlying23 hi v _ _ hown, ?_, Below.refl _ _⟩
      rw [List.append_nil]; exact hown
    | some a =>
      obtain ⟨v', w', h1, h2, h3, _⟩ := run_append_own_wide (P := Tryd.prog) w B 23 ty 5 i0 (.int .u8 0) 1 1 Tryd.underlying23 hi hz0 hz1 hz2 rfl (by decide) v _ _ hown a 0 c [] rfl (fun j u h => by simp at h) (fun u h => by cases h) (by unfold maxLen; simp at hlim ⊢; omega) (by simp at hlim ⊢; omega) hB
      refine ⟨v', w', h1, ?_, hb w' h3⟩
      rw [List.append_nil]; simpa [Owns] using h2
  · obtain ⟨v', w', h1, h2, h3, _⟩ := run_append_own_wide (P := Tryd.prog) w B 23 ty 5 i0 (.int .u8 0) 1 1 Tryd.underlying23 hi hz0 hz1 hz2 rfl (by decide) v _ _ hown ⟨b, o, none⟩ l.length c (Lib.byteCells l) (by simp [Lib.byteCells]) (fun j u h => by
        have hj : j < l.length := by
          rcases Nat.lt_or_ge j l.length with h' | h'
          · exact h'
          · simp [Lib.byteCells, List.getElem?_eq_none h'] at h
        have e := hcell j hj
        rw [Addr.add_lit, e]
        simp [Lib.byteCells, List.getElem?_eq_getElem hj] at h
        rw [← h]; simp [List.getD, List.getElem?_eq_getElem hj]) (Lib.byteCells_one _) (by unfold maxLen; omega) (by omega) hB
    refine ⟨v', w', h1, ?_, hb w' h3⟩
    unfold Owns
    rw [List.length_append, Lib.byteCells_append]; exact h2

/-- The operation, for the walk. -/
theorem wp_append_reads {ops : Array Oper} {rest : List Oper} {o : Oper} {a : Act} {Q : Exit → Act → World → Prop} (hgd : o.guard = none) (s x : Operand)
    (ho : o.op = .call { callee := .builtin .append, args := #[s, x], argTypes := #[23, 23] })
    (B : Nat) (v y : Value) (xs l : List UInt8) (hs : a.eval s = v) (hx : a.eval x = y) (hown : Owns w B v xs) (hr : Reads w y l) (hlim : xs.length + l.length ≤ 200000000000000) (hB : B ≤ w.heap.size)
    (h : ∀ v' w', Owns w' B v' (xs ++ l) → Below B w w' → wpList Tryd.prog ops Q rest (a.put o.dst v') w') : wpList Tryd.prog ops Q (o :: rest) a w := by
  refine wpList_plain hgd fun K hK => ?_
  obtain ⟨v', w', hr, h2, h3⟩ := run_append_reads w B o.type v y xs l hown hr hlim hB
  unfold Oper.wp execOp
  simp only [ho, resolve, invoke, builtin, Sem.run_bind, Sem.run_pure, Result.andThen_ok, List.map_toArray, List.map_cons, List.map_nil, hs, hx, hr]
  exact hK _ _ (h v' w' h2 h3)
theorem wp_append_str {ops : Array Oper} {rest : List Oper} {o : Oper} {a : Act} {Q : Exit → Act → World → Prop} (hgd : o.guard = none) (s x : Operand)
    (ho : o.op = .call { callee := .builtin .append, args := #[s, x], argTypes := #[23, 9] })
    (B : Nat) (v : Value) (xs : List UInt8) (S : ByteArray) (hs : a.eval s = v) (hx : a.eval x = .string S) (hown : Owns w B v xs) (hlim : xs.length + S.size ≤ 140737488355328) (hB : B ≤ w.heap.size)
    (h : ∀ v' w', Owns w' B v' (xs ++ S.data.toList) → Below B w w' → wpList Tryd.prog ops Q rest (a.put o.dst v') w') : wpList Tryd.prog ops Q (o :: rest) a w := by
  obtain ⟨i0, hi, hz0, hz1, hz2⟩ := info_parts info5
  refine Lib.wpList_append_own_string w hgd s x 23 9 ho B 5 i0 Tryd.underlying23 Tryd.underlying9 hi hz0 hz1 hz2 v _ _ hs hown S hx (by unfold maxLen; omega) hlim hB (fun v' w' h1 h2 _ => h v' w' ?_ ?_)
  · unfold Owns
    rw [List.length_append, Lib.byteCells_append, show S.data.toList.length = S.size from Array.length_toList]; exact h1
  · exact (Below.refl B w).grown h2 hB fun k hk => (hown.lt k hk).1
end

theorem reads_one (w : World) (t : TypeId) (z : Int) (d : UInt8) (h : z = (d.toNat : Int)) : Reads (w.alloc (.cells #[.int .u8 z] t)) (.slice (some ⟨w.heap.size, 0, none⟩) 1 1) [d] := by
  refine Or.inr ⟨w.heap.size, 0, 1, rfl, Nat.le_refl _, fun i hi => ?_⟩
  obtain rfl : i = 0 := by simpa using hi
  rw [h]
  go_simp

/-- The table that AppendInt reads. -/
def Tab (B : Nat) (w : World) : Prop := Lib.TabBelow Tryd.prog B w "internal/strconv.uint64pow10" .u64 Lib.pow10Tab
theorem Tab.on {B : Nat} {w w' : World} (h : Tab B w) (hb : Below B w w') : Tab B w' := Lib.TabBelow.on h hb
theorem Tab.up {B B' : Nat} {w : World} (h : Tab B w) (hB : B ≤ B') : Tab B' w := fun w' hb => h w' (hb.mono hB)

set_option maxHeartbeats 400000 in
set_option maxRecDepth 100000 in
theorem digitsThen_any (B i : Nat) (c : Int) (d : UInt8) (sv : Value) (xs : List UInt8) (w : World) (hown : Owns w B sv xs) (hBw : B ≤ w.heap.size) (hn : xs.length ≤ 1000) (hi : i ≤ 9007199254740992) (hc : c = (d.toNat : Int)) (htab : Tab B w) :
    Calls Tryd.prog 62 #[sv, .int .i64 i, .int .u8 c] w fun e w' => ∃ v, e = .returned v ∧ Owns w' B v (xs ++ Lib.decDigits i ++ [d]) ∧ Below B w w' := by
  have happ := Tryd.strconv_AppendInt_10 B xs.length (i : Int) (by omega) (by omega) sv _ w hown hBw (by omega) htab
  rw [Lib.itoa_nonneg] at happ
  have hlen := digits_17 hi
  obtain ⟨X, hX⟩ : ∃ X, X = xs ++ Lib.decDigits i := ⟨_, rfl⟩
  have hXl : X.length ≤ 1017 := by rw [hX, List.length_append]; omega
  have happ2 : Calls Tryd.prog 68 #[sv, .int .i64 i, .int .i64 10] w fun e w' => ∃ v', e = .returned v' ∧ Owns w' B v' X ∧ Below B w w' :=
    happ.mono fun e w' ⟨v', h1, h2, h3, _⟩ => ⟨v', h1, by rw [hX]; unfold Owns; rw [List.length_append, Lib.byteCells_append]; exact h2, h3⟩
  rw [← hX]
  have HA := Lib.hid happ2
  have HC := Lib.hid hc
  clear happ happ2 hX hown htab hi hc hlen
  go_enter Tryd.func62, Tryd.ntmps62
  go_wp2_with (go_at_call 68; refine HA.out.mono ?_; rintro e w1 ⟨v1, rfl, hown1, hb1⟩; refine Hid.out ?_)
  refine Lib.hid ?_
  have hsz := hb1.size
  go_wp2_with (at_builtin; refine wp_append_reads _ rfl _ _ rfl B v1 _ X [d] rfl rfl (hown1.on ((Below.refl _ _).alloc (Nat.le_refl _) _)) (reads_one _ _ _ d HC.out) (by simp; omega) (by simp; omega) ?_; intro v2 w2 hown2 hb2; refine Hid.out ?_)
  refine Lib.hid ?_
  go_wp2
  go_ret
  exact ⟨v2, rfl, hown2, (hb1.alloc (by omega) _).trans hb2⟩

/-- A call's end: bytes of its own. -/
def OwnEnd (l : List UInt8) (z : Int) (w : World) (e : Ending) (w' : World) : Prop := ∃ v, e = .returned (.tuple #[v, .int .i64 z]) ∧ Owns w' w.heap.size v l ∧ Below w.heap.size w w'
theorem OwnEnd.bytes {l : List UInt8} {z : Int} {w : World} {e : Ending} {w' : World} (h : OwnEnd l z w e w') : BytesEnd l z w e w' := by
  obtain ⟨v, h1, h2, h3⟩ := h; exact ⟨v, h1, h2.reads, h3⟩
theorem owns_nil (w : World) (B : Nat) : Owns w B (.slice none 0 0) [] := World.ownsRow_nil w B 5 1

theorem cNumber_no (n : Int) (w : World) (h : n < 0 ∨ 9007199254740992 < n) : Calls Tryd.prog 61 #[.int .i64 n] w (OwnEnd [] 22 w) := by
  rcases h with h | h
  · go_enter Tryd.func61, Tryd.ntmps61
    go_wp2
    go_ret2
    exact ⟨_, rfl, owns_nil _ _, Below.refl _ _⟩
  · go_enter Tryd.func61, Tryd.ntmps61
    go_wp2
    go_ret2
    exact ⟨_, rfl, owns_nil _ _, Below.refl _ _⟩
theorem cNumber_yes (n : Nat) (w : World) (h : n ≤ 9007199254740992) (htab : Tab w.heap.size w) : Calls Tryd.prog 61 #[.int .i64 n] w (OwnEnd (numBytes n) 0 w) := by
  have hd := digitsThen_any w.heap.size n 59 59 (.slice none 0 0) [] w (owns_nil _ _) (Nat.le_refl _) (by simp) h (by decide) htab
  have e : [] ++ Lib.decDigits n ++ [59] = numBytes n := rfl
  rw [e] at hd
  have HD := Lib.hid hd
  clear hd htab e
  go_enter Tryd.func61, Tryd.ntmps61
  go_wp2_with (go_at_call 62; refine HD.out.mono ?_; rintro e w1 ⟨v1, rfl, hown, hb1⟩; refine Hid.out ?_)
  refine Lib.hid ?_
  go_wp2
  go_ret2
  exact ⟨_, rfl, hown, hb1⟩
theorem cText_no (s : ByteArray) (w : World) (h : 1048576 < s.size) : Calls Tryd.prog 50 #[.string s] w (OwnEnd [] 22 w) := by
  go_enter Tryd.func50, Tryd.ntmps50
  go_wp2
  go_ret2
  exact ⟨_, rfl, owns_nil _ _, Below.refl _ _⟩

set_option maxHeartbeats 400000 in
set_option maxRecDepth 100000 in
theorem cText_yes (s : ByteArray) (w : World) (h : s.size ≤ 1048576) (htab : Tab w.heap.size w) : Calls Tryd.prog 50 #[.string s] w (OwnEnd (textBytes s.data.toList) 0 w) := by
  obtain ⟨i0, hi, hz0, hz1, hz2⟩ := info_parts info5
  have hd := fun (v : Value) (w1 : World) (hown : Owns w1 w.heap.size v []) (hb : Below w.heap.size w w1) => digitsThen_any w.heap.size s.size 58 58 v [] w1 hown hb.size (by simp) (by omega) (by decide) (htab.on hb)
  obtain ⟨X, hX⟩ : ∃ X, X = [] ++ Lib.decDigits s.size ++ [58] := ⟨_, rfl⟩
  have hXl : X.length ≤ 18 := by rw [hX]; have := digits_17 (n := s.size) (by omega); simp; omega
  have e : textBytes s.data.toList = X ++ s.data.toList ++ [44] := by
    rw [hX, textBytes, show s.data.toList.length = s.size from Array.length_toList]; simp
  have hsl : s.data.toList.length = s.size := Array.length_toList
  rw [e]
  rw [← hX] at hd
  have HD := Lib.hid hd
  have HSL := Lib.hid hsl
  clear hd htab e hX hsl
  go_enter Tryd.func50, Tryd.ntmps50
  go_wp2_with (at_make; refine wpList_make_own _ rfl _ _ 23 rfl w.heap.size 5 i0 (.int .u8 0) 1 Tryd.underlying23 hi hz0 hz1 .i64 .i64 _ (8 + s.size + 1) rfl rfl (by omega) (by rw [hz2]; omega) (by unfold maxLen; omega) (Nat.le_refl _) ?_; intro w1 hown1 hg1; refine Hid.out ?_)
  refine Lib.hid ?_
  have hb1 : Below w.heap.size w w1 := (Below.refl _ _).grown hg1 (Nat.le_refl _) (fun k hk => by cases hk)
  go_wp2_with (go_at_call 62; refine (HD.out _ _ hown1 hb1).mono ?_; rintro e w2 ⟨v2, rfl, hown2, hb2⟩; refine Hid.out ?_)
  refine Lib.hid ?_
  have hs1 := hb1.size
  have hs2 := hb2.size
  go_wp2_with (at_builtin; refine wp_append_str _ rfl _ _ rfl w.heap.size v2 X s rfl rfl hown2 (by omega) (by omega) ?_; intro v3 w3 hown3 hb3; refine Hid.out ?_)
  refine Lib.hid ?_
  have hs3 := hb3.size
  go_wp2_with (at_builtin; refine wp_append_reads _ rfl _ _ rfl w.heap.size v3 _ (X ++ s.data.toList) [44] rfl rfl (hown3.on ((Below.refl _ _).alloc (Nat.le_refl _) _)) (reads_one _ _ _ 44 (by decide)) (by have := HSL.out; simp; omega) (by simp; omega) ?_; intro v4 w4 hown4 hb4; refine Hid.out ?_)
  refine Lib.hid ?_
  go_wp2
  go_ret2
  exact ⟨_, rfl, hown4, (((hb1.trans hb2).trans hb3).alloc (by omega) _).trans hb4⟩
end Go.Proofs.YthoeicidilnleaaDoor.Codec
