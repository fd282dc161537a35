/-
  MERGED by mergefill.py: PthRepP, PthEqF.
-/
import Derived.Test.YtnehgbpfgehhiaaGreatDoorPthFormM
import Derived.Lib.SlBuf
import Derived.Test.YtnehgbpfgehhiaaGreatDoorShelf
import Derived.Laws.RangeAny
import Derived.Laws.Strings3
import Derived.Deep.LoopGhost
import Derived.Lib.Walk
import Derived.Lib.Fold
import Derived.Lib.Strings
/-
  PATH, the program: the library's replacer of two bytes, plain, and what it is in memory once it is built.
-/
namespace Go.Proofs.YtnehgbpfgehhiaaGreatDoor.Path
open Go.RowKit Base
def escB (l : List UInt8) : List UInt8 := l.flatMap fun c => if c = 34 then [92, 34] else if c = 92 then [92, 92] else [c]
def isEsc (c : UInt8) : Bool := c == 34 || c == 92
theorem escB_cons (c : UInt8) (l : List UInt8) : escB (c :: l) = (if c = 34 then [92, 34] else if c = 92 then [92, 92] else [c]) ++ escB l := rfl
theorem escB_app (l m : List UInt8) : escB (l ++ m) = escB l ++ escB m := by unfold escB; rw [List.flatMap_append]
theorem esc_len (l : List UInt8) : (escB l).length = l.length + l.countP isEsc := by
  induction l with
  | nil => rfl
  | cons c l ih =>
    rw [escB_cons, List.length_append, ih, List.countP_cons, List.length_cons]
    by_cases h : c = 34
    · subst h; simp [isEsc]; omega
    · by_cases h2 : c = 92
      · subst h2; simp [isEsc]; omega
      · have e : isEsc c = false := by unfold isEsc; rw [Bool.or_eq_false_iff]; exact ⟨beq_eq_false_iff_ne.2 h, beq_eq_false_iff_ne.2 h2⟩
        simp [h, h2, e]; omega
theorem esc_none {l : List UInt8} (h : l.countP isEsc = 0) : escB l = l := by
  induction l with
  | nil => rfl
  | cons c l ih =>
    rw [List.countP_cons] at h
    have h1 : isEsc c = false := by cases hc : isEsc c with | true => rw [hc] at h; simp at h | false => rfl
    rw [h1] at h
    unfold isEsc at h1
    rw [Bool.or_eq_false_iff] at h1
    rw [escB_cons, if_neg (beq_eq_false_iff_ne.1 h1.1), if_neg (beq_eq_false_iff_ne.1 h1.2), ih (by simpa using h)]
    rfl
theorem esc_two (l : List UInt8) : l.countP isEsc = l.count 92 + l.count 34 := by
  induction l with
  | nil => rfl
  | cons c l ih =>
    rw [List.countP_cons, List.count_cons, List.count_cons, ih]
    by_cases h : c = 34
    · subst h; simp [isEsc]; omega
    · by_cases h2 : c = 92
      · subst h2; simp [isEsc]; omega
      · have e : isEsc c = false := by unfold isEsc; rw [Bool.or_eq_false_iff]; exact ⟨beq_eq_false_iff_ne.2 h, beq_eq_false_iff_ne.2 h2⟩
        simp [h, h2, e]
theorem take_next {l : List UInt8} {k : Nat} (h : k < l.length) : l.take (k + 1) = l.take k ++ [l.getD k 0] := by
  rw [List.take_add_one, List.getElem?_eq_getElem h, List.getD_eq_getElem?_getD, List.getElem?_eq_getElem h]
  rfl
theorem esc_next {l : List UInt8} {k : Nat} (h : k < l.length) : escB (l.take (k + 1)) = escB (l.take k) ++ (if l.getD k 0 = 34 then [92, 34] else if l.getD k 0 = 92 then [92, 92] else [l.getD k 0]) := by
  rw [take_next h, escB_app, escB_cons]
  simp [escB]
theorem cnt_next {l : List UInt8} {k : Nat} (h : k < l.length) : (l.take (k + 1)).countP isEsc = (l.take k).countP isEsc + (if isEsc (l.getD k 0) then 1 else 0) := by
  rw [take_next h, List.countP_append, List.countP_cons, List.countP_nil, Nat.zero_add]
theorem cnt_le (l : List UInt8) : l.countP isEsc ≤ l.length := List.countP_le_length
theorem esc_take_le (l : List UInt8) (k : Nat) : (escB (l.take k)).length ≤ (escB l).length := by
  have e : escB l = escB (l.take k) ++ escB (l.drop k) := by rw [← escB_app, List.take_append_drop]
  rw [e, List.length_append]
  omega
/-- What the library's table of replacements holds at a byte. -/
def repV (sq sb : Value) (c : Nat) : Value := if c = 34 then sq else if c = 92 then sb else .slice none 0 0
/-- A replacer that is built: the block of its table. -/
structure RepAt (w : World) (g A c1 c2 a1 a2 : Nat) : Prop where
  row : ∀ c, c < 256 → w.cell? ⟨g, c, none⟩ = some (repV (.slice (some ⟨a1, 0, none⟩) 2 c1) (.slice (some ⟨a2, 0, none⟩) 2 c2) c)
  list : w.cell? ⟨g, 256, none⟩ = some (.slice (some ⟨A, 0, none⟩) 2 2)
  l0 : w.cell? ⟨A, 0, none⟩ = some (.string ⟨#[92]⟩)
  l1 : w.cell? ⟨A, 1, none⟩ = some (.string ⟨#[34]⟩)
  q : Reads w (.slice (some ⟨a1, 0, none⟩) 2 c1) [92, 34]
  b : Reads w (.slice (some ⟨a2, 0, none⟩) 2 c2) [92, 92]
theorem cell_on {w w' : World} {b o : Nat} {v : Value} (h : w.cell? ⟨b, o, none⟩ = some v) (hb : Below w.heap.size w w') : w'.cell? ⟨b, o, none⟩ = some v := by
  rw [hb.cell (p := ⟨b, o, none⟩) (cell_lt h), h]
theorem RepAt.on {w w' : World} {g A c1 c2 a1 a2 : Nat} (h : RepAt w g A c1 c2 a1 a2) (hb : Below w.heap.size w w') : RepAt w' g A c1 c2 a1 a2 :=
  ⟨fun c hc => cell_on (h.row c hc) hb, cell_on h.list hb, cell_on h.l0 hb, cell_on h.l1 hb, h.q.on hb, h.b.on hb⟩
theorem holds_of_reads {w : World} {a : Option Addr} {n c : Nat} {l : List UInt8} (h : Reads w (.slice a n c) l) : Lib.HoldsBytes w (.slice a n c) l := by
  rcases h with ⟨rfl, a', c', e, ha⟩ | ⟨b, o, c', e, _, hc⟩
  · injection e with e1 e2 e3
    subst e1; subst e2; subst e3
    exact ⟨a, c, rfl, fun _ => rfl, fun _ _ i x h => by simp at h⟩
  · injection e with e1 e2 e3
    subst e1; subst e2; subst e3
    refine ⟨_, c, rfl, fun h => by simp at h, fun a ha i x hx => ?_⟩
    injection ha with ha
    subst ha
    have hi : i < l.length := (List.getElem?_eq_some_iff.1 hx).1
    have := hc i hi
    rw [List.getD_eq_getElem?_getD, hx] at this
    have ha : (⟨b, o, none⟩ : Addr).add i = ⟨b, o + i, none⟩ := by
      unfold Addr.add
      by_cases h0 : i = 0
      · subst h0; simp
      · simp [h0]
    rw [ha]
    exact this
theorem buf_put {w0 wr : World} {h N : Nat} {acc : List UInt8} (hb : Lib.Buf w0 wr h N acc) (hlt : acc.length < N) (c : UInt8) : Lib.Buf w0 (wr.setCell ⟨h, acc.length, none⟩ (.int .u8 (c.toNat : Int))) h N (acc ++ [c]) := by
  have hth := hb.there _ hlt
  obtain ⟨u, hu⟩ := Option.isSome_iff_exists.1 hth
  refine ⟨hb.below.setCell (p := ⟨h, _, none⟩) (Nat.le_refl _) _, fun j hj => ?_, fun j hj => ?_, fun j x hx => ?_, by rw [List.length_append]; exact hlt⟩
  · by_cases e : j = acc.length
    · subst e; rw [World.cell?_setCell_same _ _ _ hu]; rfl
    · rw [World.cell?_setCell_other _ _ _ _ (fun h => e (by injection h with _ h2; exact h2.symm))]; exact hb.there j hj
  · rw [World.frozen?_setCell]; exact hb.free j hj
  · by_cases e : j = acc.length
    · subst e
      rw [World.cell?_setCell_same _ _ _ hu]
      rw [List.getElem?_append_right (Nat.le_refl _), Nat.sub_self] at hx
      injection hx with hx
      rw [← hx]
    · have hj : j < acc.length := by
        have := (List.getElem?_eq_some_iff.1 hx).1
        rw [List.length_append] at this
        have : j < acc.length + 1 := this
        omega
      rw [World.cell?_setCell_other _ _ _ _ (fun h => e (by injection h with _ h2; exact h2.symm))]
      rw [List.getElem?_append_left hj] at hx
      exact hb.holds j x hx
theorem buf_reads {w0 wr : World} {h N : Nat} {acc : List UInt8} (hb : Lib.Buf w0 wr h N acc) (hN : acc.length = N) : Reads wr (.slice (some ⟨h, 0, none⟩) N N) acc := by
  refine Or.inr ⟨h, 0, N, by rw [hN], by rw [hN]; exact Nat.le_refl _, fun i hi => ?_⟩
  rw [Nat.zero_add]
  rw [hb.holds i acc[i] (List.getElem?_eq_getElem hi), List.getD_eq_getElem?_getD, List.getElem?_eq_getElem hi]
  rfl
theorem buf_made {w w' : World} {N : Nat} {xs : List Value} (h : w'.ownsRow w.heap.size 5 1 (.slice (some ⟨w.heap.size, 0, none⟩) N N) N xs) (hg : w.grownBy w' none) : Lib.Buf w w' w.heap.size N [] := by
  have hl : xs.length = N := by have := h.1; omega
  refine ⟨(Below.refl _ _).grown hg (Nat.le_refl _) (fun k hk => by cases hk), fun j hj => ?_, fun j _ => World.ownsRow.frozenAt h j, fun j x hx => by simp at hx, Nat.zero_le _⟩
  rw [World.ownsRow.cellAt h j (by omega), List.getElem?_eq_getElem (by omega)]
  rfl
end Go.Proofs.YtnehgbpfgehhiaaGreatDoor.Path
/-
  PATH, the program: strings.EqualFold of any text with an ASCII one of the same length; unicode.SimpleFold of ASCII.
-/
namespace Go.Proofs.YtnehgbpfgehhiaaGreatDoor.Path
open Go.RowKit Base
set_option maxHeartbeats 4000000 in
set_option maxRecDepth 100000 in
theorem pSimple (r f : Nat) (hr : r < 128) (hf : f < 128) (w : World) (hc : w.cell? ⟨1, r, none⟩ = some (.int .u16 (f : Int))) : Calls Tryz.prog 133 #[.int .i32 (r : Int)] w fun e w' => e = .returned (.int .i32 (f : Int)) ∧ w' = w := by
  have e1 : ¬ (r : Int) < 0 := by omega
  have e2 : ¬ (1114111 : Int) < (r : Int) := by omega
  have e3 : (r : Int) < 128 := by omega
  have e4 : (0 : Int) ≤ (r : Int) := by omega
  go_enter Tryz.func133, Tryz.ntmps133
  go_wp2
  go_ret
  exact ⟨rfl, rfl⟩
/-- An ASCII text whose letters' orbits are in the library's table. -/
structure FoldT (w : World) (t : ByteArray) : Prop where
  asc : ∀ (j : Nat) b, t.data.toList[j]? = some b → b.toNat < 128
  fold : ∀ (j : Nat) b, t.data.toList[j]? = some b → ∃ f : Nat, f < 128 ∧ w.cell? ⟨1, b.toNat, none⟩ = some (.int .u16 (f : Int)) ∧ w.cell? ⟨1, f, none⟩ = some (.int .u16 (b.toNat : Int))
theorem ext_head {s : ByteArray} {i : Nat} {x : UInt8} (h : s.data.toList[i]? = some x) : (s.extract i s.size).data.toList[0]? = some x := by
  rw [extract_bytes]
  show ((s.data.toList.take s.size).drop i)[0]? = _
  rw [List.getElem?_drop, Nat.add_zero, List.take_of_length_le (by rw [str_len]; exact Nat.le_refl _)]
  exact h
set_option maxHeartbeats 8000000 in
set_option maxRecDepth 100000 in
theorem pEqF (s t : ByteArray) (w : World) (hs : s.size < 4294967281) (hst : s.size = t.size) (hF : FoldT w t) :
    Calls Tryz.prog 100 #[.string s, .string t] w fun e w' => e = .returned (.bool (Lib.equalFold s.data.toList t.data.toList)) ∧ Below w.heap.size w w' := by
  have HT : Hid (FoldT w t) := hF
  obtain ⟨out, hout⟩ : ∃ out, out = Lib.equalFold s.data.toList t.data.toList := ⟨_, rfl⟩
  have HO := Lib.hid hout
  rw [← hout]
  have HST := Lib.hid hst
  have hmin : min (s.size : Int) (t.size : Int) = (s.size : Int) := by omega
  clear hF hout hst
  go_enter Tryz.func100, Tryz.ntmps100
  go_wp2
  refine wp_scope_fwd fun F hF => ?_
  have HF := Lib.hid hF
  clear hF
  go_wp2
  go_loopg [5] s.size (fun g s5 wx => w = wx ∧ ∃ i : Nat, i + g = s.size ∧ s5 = .int .i64 i ∧ Lib.equalFold (s.data.toList.drop i) (t.data.toList.drop i) = out)
  case atStart => exact ⟨rfl, 0, by omega, rfl, HO.out.symm⟩
  case round =>
    obtain ⟨rfl, i, hig, rfl, hinv⟩ := hrel
    have HI := Lib.hid hinv
    clear hinv hmin
    cases gk with
    | zero =>
      have hiM : ¬ ((i : Int) < (s.size : Int)) := by omega
      have hst := HST.out
      have hE : Hid (out = true) := by
        show _ = _
        rw [← HI.out, Lib.equalFold_end _ _ (Or.inl (List.drop_eq_nil_of_le (by rw [← Lib.size_eq]; omega))), List.length_drop, List.length_drop, ← Lib.size_eq, ← Lib.size_eq]
        exact decide_eq_true (by omega)
      have hb : ((s.size : Int) == (t.size : Int)) = true := beq_iff_eq.2 (by omega)
      clear hst
      go_wp2
      rw [Exit.fwd_ret]
      go_ret
      exact ⟨by rw [hE.out]; rfl, Below.refl _ _⟩
    | succ g =>
      have hiM : (i : Int) < (s.size : Int) := by omega
      have hitz : (i : Int) < (t.size : Int) := by have := HST.out; omega
      obtain ⟨x, hx⟩ : ∃ x : UInt8, s[i]'(by omega) = x := ⟨_, rfl⟩
      obtain ⟨y, hy⟩ : ∃ y : UInt8, t[i]'(by omega) = y := ⟨_, rfl⟩
      have hxl : s.data.toList[i]? = some x := by rw [← hx]; exact Lib.data_getElem? s i (by omega)
      have hyl : t.data.toList[i]? = some y := by rw [← hy]; exact Lib.data_getElem? t i (by omega)
      have hy128 : y.toNat < 128 := HT.out.asc i y hyl
      have Hx : Hid (s.data.toList[i]? = some x ∧ t.data.toList[i]? = some y) := ⟨hxl, hyl⟩
      by_cases hx128 : x.toNat < 128
      · have hor : bits .or .u8 (x.toNat : Int) (y.toNat : Int) = ((x.toNat ||| y.toNat : Nat) : Int) := u8_or_nat _ _ (by omega) (by omega)
        have hor128 : ¬ ((128 : Int) ≤ ((x.toNat ||| y.toNat : Nat) : Int)) := by have := Nat.or_lt_two_pow (n := 7) hx128 hy128; omega
        clear hxl hyl
        go_wp2
        all_goals (try simp only [beq_iff_eq, beq_eq_false_iff_ne, ne_eq] at *)
        all_goals first
          | (go_roundg g
             case measure => omega
             case rel => exact ⟨rfl, i + 1, by omega, by first | rfl | simp, by rw [← HI.out, Lib.drop_at Hx.out.1, Lib.drop_at Hx.out.2, Lib.equalFold_yes _ _ _ _ (decide_eq_true (by omega))]⟩)
          | (rw [Exit.fwd_ret]
             go_ret
             refine ⟨?_, Below.refl _ _⟩
             rw [← HI.out, Lib.drop_at Hx.out.1, Lib.drop_at Hx.out.2, Lib.equalFold_no _ _ _ _ (decide_eq_false (by omega))]
             rfl)
      · have hor : bits .or .u8 (x.toNat : Int) (y.toNat : Int) = ((x.toNat ||| y.toNat : Nat) : Int) := u8_or_nat _ _ (by have := x.toNat_lt; omega) (by omega)
        have hor128 : (128 : Int) ≤ ((x.toNat ||| y.toNat : Nat) : Int) := by have : x.toNat ≤ x.toNat ||| y.toNat := Nat.left_le_or; omega
        have HE : Hid (out = false) := by
          show _ = _
          rw [← HI.out, Lib.drop_at Hx.out.1, Lib.drop_at Hx.out.2, Lib.equalFold_no _ _ _ _ (decide_eq_false (by omega))]
        clear hxl hyl
        obtain ⟨f, hf128, hcy, hcf⟩ := HT.out.fold i y Hx.out.2
        have HC : Hid (w.cell? ⟨1, y.toNat, none⟩ = some (.int .u16 (f : Int)) ∧ w.cell? ⟨1, f, none⟩ = some (.int .u16 (y.toNat : Int))) := ⟨hcy, hcf⟩
        have b1 : (i : Int) ≤ (s.size : Int) := by omega
        have b2 : (i : Int) ≤ (t.size : Int) := by omega
        have b3 : (0 : Int) ≤ (i : Int) := by omega
        have b4 : i < s.size := by omega
        have b5 : i < t.size := by omega
        clear hcy hcf
        go_wp2
        go_step3
        (try simp only [Exit.inBlock, Exit.then])
        refine ⟨_, by rw [HF.out]; rfl, ?_⟩
        clear HF
        obtain ⟨S, hS⟩ : ∃ S, S = s.extract i s.size := ⟨_, rfl⟩
        obtain ⟨T, hTt⟩ : ∃ T, T = t.extract i t.size := ⟨_, rfl⟩
        have hSs : 0 < S.size := by rw [hS, ByteArray.size_extract]; omega
        have hS0 : S.data.toList[0]? = some x := by rw [hS]; exact ext_head Hx.out.1
        have hT0 : T.data.toList[0]? = some y := by rw [hTt]; exact ext_head Hx.out.2
        have hTs : 0 < T.size := by rw [hTt, ByteArray.size_extract]; omega
        have hx0 : 128 ≤ (S[0]'hSs).toNat := by
          have e := Lib.data_getElem? S 0 hSs
          rw [hS0] at e
          injection e with e
          rw [← e]; omega
        have hd := decode_high S 0 hSs hx0
        have HBI : Hid (∀ p, Below w.heap.size w (w.iter S p)) := fun p => (Below.refl _ _).alloc (Nat.le_refl _) _
        have HT0 := Lib.hid hT0
        have HS1 := Lib.hid hSs
        clear hS0 hT0 hx0 hx hy
        go_wp2
        rw [← hS, ← hTt]
        clear hS hTt
        go_loopw [1] (fun t1 wx => t1 = .string T ∧ wx = w.iter S 0) (fun _ _ => 0)
        case atStart => exact ⟨rfl, rfl⟩
        case round =>
          obtain ⟨rfl, rfl⟩ := hrel
          have hnx : ∀ ty, (Instr.next (.pointer (some ⟨w.heap.size, 0, none⟩)) true ty).run Tryz.prog (w.iter S 0) = _ := fun ty => run_next_any w S 0 ty HS1.out
          generalize Utf8.decode S 0 = D at hnx hd
          obtain ⟨R, wd⟩ := D
          have hd : 128 ≤ R := hd.1
          have e1 : ((T.size : Int) == 0) = false := beq_eq_false_iff_ne.2 (by omega)
          have e2 : ((y.toNat : Int) == (R : Int)) = false := beq_eq_false_iff_ne.2 (by omega)
          have e3 : (y.toNat : Int) < (R : Int) := by omega
          have e4 : ¬ (R : Int) < 128 := by omega
          have e5 : (1 : Int) ≤ (T.size : Int) := by omega
          have C1 : Hid (∀ W, Calls Tryz.prog 132 #[.string T] W fun e w' => e = .returned (.tuple #[.int .i32 y.toNat, .int .i64 1]) ∧ w' = W) := fun W => Tryz.utf8_DecodeRuneInString_ascii T y W HT0.out hy128
          go_wp2_with (first | (go_at_call 132; refine (C1.out _).mono ?_; rintro ee W1 ⟨rfl, rfl⟩; refine Hid.out ?_) | fail)
          refine Lib.hid ?_
          have C2 : Hid (Calls Tryz.prog 133 #[.int .i32 (y.toNat : Int)] (w.iter S wd) fun e w' => e = .returned (.int .i32 (f : Int)) ∧ w' = w.iter S wd) := pSimple y.toNat f hy128 hf128 _ (cell_on HC.out.1 (HBI.out wd))
          have C3 : Hid (Calls Tryz.prog 133 #[.int .i32 (f : Int)] (w.iter S wd) fun e w' => e = .returned (.int .i32 (y.toNat : Int)) ∧ w' = w.iter S wd) := pSimple f y.toNat hf128 hy128 _ (cell_on HC.out.2 (HBI.out wd))
          have HY : Hid (f < R) := by show f < R; omega
          go_wp2_with (first | (go_at_call 133; refine C2.out.mono ?_; rintro ee W1 ⟨rfl, rfl⟩; refine Hid.out ?_) | fail)
          refine Lib.hid ?_
          go_wp2
          go_loop [13] (fun r => ∃ k : Nat, k ≤ 1 ∧ r = .int .i32 (if k = 0 then (f : Int) else (y.toNat : Int))) (fun r => if intOf r = (y.toNat : Int) then 0 else 1)
          case atStart => exact ⟨0, by omega, rfl⟩
          case round =>
            obtain ⟨k, hk, rfl⟩ := hrel
            rcases (by omega : k = 0 ∨ k = 1) with rfl | rfl
            · rw [if_pos rfl]
              by_cases hfy : f = y.toNat
              · subst hfy
                have c1 : ((y.toNat : Int) == (y.toNat : Int)) = true := beq_self_eq_true _
                have c2 : ((y.toNat : Int) == (R : Int)) = false := e2
                go_wp2
                go_ret
                exact ⟨by rw [HE.out]; rfl, HBI.out wd⟩
              · have c1 : ((f : Int) != (y.toNat : Int)) = true := by rw [bne_iff_ne]; omega
                have c2 : (f : Int) < (R : Int) := by have := HY.out; omega
                go_wp2_with (first | (go_at_call 133; refine C3.out.mono ?_; rintro ee W1 ⟨rfl, rfl⟩; refine Hid.out ?_) | fail)
                refine Lib.hid ?_
                go_wp2
                go_round
                case rel => exact ⟨1, by omega, rfl⟩
                case measure => have hne : ¬ (f : Int) = (y.toNat : Int) := by omega
                                simp [intOf, hne]
            · rw [if_neg (show ¬ (1 : Nat) = 0 by decide)]
              go_wp2
              go_ret
              exact ⟨by rw [HE.out]; rfl, HBI.out wd⟩
end Go.Proofs.YtnehgbpfgehhiaaGreatDoor.Path
