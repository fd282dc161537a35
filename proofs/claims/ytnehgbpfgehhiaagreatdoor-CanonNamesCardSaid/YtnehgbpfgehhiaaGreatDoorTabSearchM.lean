/-
  MERGED by mergefill.py: TabSearch, TabExact, TabAsk.
-/
import Derived.Test.YtnehgbpfgehhiaaGreatDoorTabValueM
import Derived.Test.YtnehgbpfgehhiaaGreatDoorShelf
import Derived.Deep.RegionHeld3
/-
  TABLE, the program: the search; Exact, on both sides.
-/
namespace Go.Proofs.YtnehgbpfgehhiaaGreatDoor.Table
open Go.RowKit Base
theorem cmp_less : ∀ (a b : List UInt8), (Lib.compareBytes a b < 0) = (a < b)
  | [], [] => by simp [Lib.compareBytes]
  | [], _ :: _ => by simp [Lib.compareBytes]
  | _ :: _, [] => by simp [Lib.compareBytes]
  | x :: a, y :: b => by
    have ih := cmp_less a b
    unfold Lib.compareBytes
    rw [eq_iff_iff, List.cons_lt_cons_iff]
    by_cases h1 : x < y
    · simp [h1]
    · by_cases h2 : y < x
      · have : x ≠ y := fun e => by subst e; exact absurd h2 (by simp)
        simp [h1, h2, this]
      · have : x = y := UInt8.le_antisymm (UInt8.not_lt.1 h2) (UInt8.not_lt.1 h1)
        simp [this, ih]
theorem cmp_same : ∀ (a b : List UInt8), (Lib.compareBytes a b = 0) = (a = b)
  | [], [] => by simp [Lib.compareBytes]
  | [], _ :: _ => by simp [Lib.compareBytes]
  | _ :: _, [] => by simp [Lib.compareBytes]
  | x :: a, y :: b => by
    have ih := cmp_same a b
    unfold Lib.compareBytes
    by_cases h1 : x < y
    · have : x ≠ y := fun e => by subst e; exact absurd h1 (by simp)
      simp [h1, this]
    · by_cases h2 : y < x
      · have : x ≠ y := fun e => by subst e; exact absurd h2 (by simp)
        simp [h1, h2, this]
      · have : x = y := UInt8.le_antisymm (UInt8.not_lt.1 h2) (UInt8.not_lt.1 h1)
        simp [this, ih]
def CmpEnd (a b : List UInt8) (w : World) (e : Ending) (w' : World) : Prop := e = .returned (.int .i64 (Lib.compareBytes a b)) ∧ Below w.heap.size w w'
/-- .. its value under a name. -/
theorem cmp_any {f : FuncId} {args : Array Value} {a b : List UInt8} (h : ∀ w, Calls Tryz.prog f args w (CmpEnd a b w)) : ∃ r : Int, (r < 0 ↔ a < b) ∧ (r = 0 ↔ a = b) ∧ ∀ w, Calls Tryz.prog f args w fun e w' => e = .returned (.int .i64 r) ∧ Below w.heap.size w w' :=
  ⟨Lib.compareBytes a b, by rw [cmp_less], by rw [cmp_same], h⟩
set_option maxHeartbeats 1000000 in
theorem pCmp (k v : List UInt8) (key : ByteArray) (w : World) : Calls Tryz.prog 174 #[.agg #[S k, S v], .string key] w (CmpEnd k key.data.toList w) := by
  have HC := Lib.hid (fun w => Tryz.strings_Compare ⟨k.toArray⟩ key w)
  go_enter Tryz.func174, Tryz.ntmps174
  go_wp2_with (first | (go_at_call 77; refine (HC.out _).mono ?_; rintro e w' ⟨rfl, rfl⟩; refine Hid.out ?_) | fail)
  refine Lib.hid ?_
  go_wp2
  go_ret
  exact ⟨rfl, Below.alloc1 _ _⟩
def SearchEnd (T : List KV) (key : List UInt8) (w : World) (e : Ending) (w' : World) : Prop := e = .returned (.tuple #[.int .i64 (posOf T key : Int), .bool (hasOf T key)]) ∧ Below w.heap.size w w'
set_option maxHeartbeats 4000000 in
set_option maxRecDepth 100000 in
theorem pSearch (v : Value) (T : List KV) (key : ByteArray) (w : World) (h : Rows2 w v T) (hr : Rising T) (hn : T.length ≤ 1000000) : Calls Tryz.prog 173 #[v, .string key, .func (.func 174) #[] #[]] w (SearchEnd T key.data.toList w) := by
  obtain ⟨a, c, rfl, hlc⟩ := h.form
  have HROW := Lib.hid h
  have HR := Lib.hid hr
  have HC := Lib.hid (fun k v w => pCmp k v key w)
  clear h hr
  go_enter Tryz.func173, Tryz.ntmps173
  go_wp2
  go_loopw [9, 10] (fun x y wr => ∃ lo hi : Nat, x = .int .i64 lo ∧ y = .int .i64 hi ∧ Sought T key.data.toList lo hi ∧ Below w.heap.size w wr) (fun x y _ => (intOf y).toNat - (intOf x).toNat)
  case atStart => exact ⟨0, T.length, rfl, rfl, Sought.start _ _, Below.refl _ _⟩
  case round =>
    obtain ⟨lo, hi, rfl, rfl, hs, hbw⟩ := hrel
    have hle := hs.le
    have htop := hs.top
    have HS := Lib.hid hs
    have HBW := Lib.hid hbw
    have HROW2 := Lib.hid (HROW.out.on hbw)
    clear hs hbw
    by_cases hlt : lo < hi
    · have i1 : (lo : Int) < (hi : Int) := by omega
      obtain ⟨m, hm⟩ : ∃ m : Nat, ((lo : Int) + (hi : Int)) / 2 = (m : Int) := ⟨(lo + hi) / 2, by omega⟩
      have hm1 : lo ≤ m := by omega
      have hm2 : m < hi := by omega
      have j0 : (0 : Int) ≤ (m : Int) := by omega
      have j1 : (m : Int) < (T.length : Int) := by omega
      obtain ⟨p, hp⟩ : ∃ p, T[m]? = some p := ⟨T[m], List.getElem?_eq_getElem (by omega)⟩
      obtain ⟨gb, go_, rfl, c1, c2⟩ := HROW2.out.cell hp
      obtain ⟨r, r1, _, r3⟩ := cmp_any (fun w => HC.out p.1 p.2 w)
      have HC2 := Lib.hid r3
      clear r3
      by_cases hk : p.1 < key.data.toList
      · have HS2 := Lib.hid (HS.out.up HR.out hm2 hp hk)
        have e1 : r < 0 := r1.2 hk
        clear hk hp r1
        go_wp2_with fail
        refine (HC2.out _).mono ?_
        rintro e w1 ⟨rfl, hb1⟩
        have HB1 := Lib.hid (HBW.out.trans (hb1.mono HBW.out.size))
        clear hb1
        go_wp2_with fail
        go_roundw
        case rel => exact ⟨m + 1, hi, by go_num, rfl, HS2.out, HB1.out⟩
        case measure => simp [intOf]; omega
      · have HS2 := Lib.hid (HS.out.down HR.out hm1 hm2 hp hk)
        have e1 : ¬ r < 0 := fun h => hk (r1.1 h)
        clear hk hp r1
        go_wp2_with fail
        refine (HC2.out _).mono ?_
        rintro e w1 ⟨rfl, hb1⟩
        have HB1 := Lib.hid (HBW.out.trans (hb1.mono HBW.out.size))
        clear hb1
        go_wp2_with fail
        go_roundw
        case rel => exact ⟨lo, m, rfl, by first | rfl | rw [hm], HS2.out, HB1.out⟩
        case measure => simp [intOf]; omega
    · obtain rfl : lo = hi := by omega
      have HP := Lib.hid HS.out.fin
      have j0 : (0 : Int) ≤ (lo : Int) := by omega
      have i1 : ¬ (lo : Int) < (lo : Int) := by omega
      by_cases hl : lo < T.length
      · have j1 : (lo : Int) < (T.length : Int) := by omega
        obtain ⟨p, hp⟩ : ∃ p, T[lo]? = some p := ⟨T[lo], List.getElem?_eq_getElem hl⟩
        obtain ⟨gb, go_, rfl, c1, c2⟩ := HROW2.out.cell hp
        have HH : Hid (hasOf T key.data.toList = (p.1 == key.data.toList)) := by show _ = _; unfold hasOf; rw [HP.out, hp]
        obtain ⟨r, _, r2, r3⟩ := cmp_any (fun w => HC.out p.1 p.2 w)
        have HC2 := Lib.hid r3
        clear hp r3
        cases hk : p.1 == key.data.toList
        · have e2 : (r == 0) = false := by rw [beq_eq_false_iff_ne]; intro h; rw [r2.1 h] at hk; simp at hk
          rw [hk] at HH
          clear hk r2
          go_wp2_with fail
          refine (HC2.out _).mono ?_
          rintro e w1 ⟨rfl, hb1⟩
          have HB1 := Lib.hid (HBW.out.trans (hb1.mono HBW.out.size))
          clear hb1
          go_wp2_with fail
          go_ret2
          exact ⟨by rw [HP.out, HH.out]; rfl, HB1.out⟩
        · have e2 : (r == 0) = true := by rw [beq_iff_eq]; exact r2.2 (by simpa using hk)
          rw [hk] at HH
          clear hk r2
          go_wp2_with fail
          refine (HC2.out _).mono ?_
          rintro e w1 ⟨rfl, hb1⟩
          have HB1 := Lib.hid (HBW.out.trans (hb1.mono HBW.out.size))
          clear hb1
          go_wp2_with fail
          go_ret2
          exact ⟨by rw [HP.out, HH.out]; rfl, HB1.out⟩
      · have j1 : ¬ (lo : Int) < (T.length : Int) := by omega
        have HH : Hid (hasOf T key.data.toList = false) := by show _ = _; unfold hasOf; rw [HP.out, List.getElem?_eq_none (by omega)]
        go_wp2_with fail
        go_ret2
        exact ⟨by rw [HP.out, HH.out]; rfl, HBW.out⟩
end Go.Proofs.YtnehgbpfgehhiaaGreatDoor.Table
/-
  TABLE: Exact, on both sides.
-/
namespace Go.Proofs.YtnehgbpfgehhiaaGreatDoor.Table
open Go.RowKit Base
/-- What a table answers of a key. -/
def ExactEnd (T : List KV) (key : List UInt8) (w : World) (e : Ending) (w' : World) : Prop := e = .returned (.tuple #[S (valOf T key), .bool (hasOf T key)]) ∧ Below w.heap.size w w'
theorem has_cases (T : List KV) (key : List UInt8) : (hasOf T key = false ∧ valOf T key = []) ∨ ∃ p, T[posOf T key]? = some p ∧ posOf T key < T.length ∧ hasOf T key = true ∧ valOf T key = p.2 := by
  cases hh : hasOf T key
  · refine Or.inl ⟨rfl, ?_⟩
    unfold valOf; rw [hh]; rfl
  · refine Or.inr ?_
    have h2 := hh
    unfold hasOf at h2
    cases hp : T[posOf T key]? with
    | none => rw [hp] at h2; cases h2
    | some p =>
      refine ⟨p, rfl, (List.getElem?_eq_some_iff.1 hp).1, rfl, ?_⟩
      unfold valOf
      rw [hh, if_pos rfl, List.getD_eq_getElem?_getD, hp]; rfl
theorem place_no {T : List KV} {key : List UInt8} {w : World} {f : FuncId} {args : Array Value} (h : Calls Tryz.prog f args w (SearchEnd T key w)) (hh : hasOf T key = false) :
    Calls Tryz.prog f args w fun e w' => ∃ x : Int, e = .returned (.tuple #[.int .i64 x, .bool false]) ∧ Below w.heap.size w w' :=
  h.mono fun e w' ⟨h1, h2⟩ => ⟨posOf T key, by rw [h1, hh], h2⟩
theorem place_yes {T : List KV} {key : List UInt8} {w : World} {f : FuncId} {args : Array Value} {m : Nat} (h : Calls Tryz.prog f args w (SearchEnd T key w)) (hh : hasOf T key = true) (hm : posOf T key = m) :
    Calls Tryz.prog f args w fun e w' => e = .returned (.tuple #[.int .i64 (m : Int), .bool true]) ∧ Below w.heap.size w w' :=
  h.mono fun e w' ⟨h1, h2⟩ => ⟨by rw [h1, hh, hm], h2⟩
theorem place_below {T : List KV} {key : List UInt8} {w : World} {f : FuncId} {args : Array Value} (h : Calls Tryz.prog f args w (PlaceEnd T key w)) : Calls Tryz.prog f args w (SearchEnd T key w) :=
  h.mono fun e w' ⟨h1, n, h2⟩ => ⟨h1, by rw [h2]; exact bel_drewN n w (Nat.le_refl _)⟩
set_option maxHeartbeats 4000000 in
set_option maxRecDepth 100000 in
theorem rExact (b : Nat) (T : List KV) (key : ByteArray) (w : World) (h : TabAt 64 w b T) (hr : Rising T) (hn : T.length ≤ 1000000) (hs : key.size ≤ 9223372036854775807) : Calls Tryz.prog 32 #[.pointer (some ⟨b, 0, none⟩), .string key] w (ExactEnd T (lower key.data.toList) w) := by
  have HL := Lib.hid (rLower key w hs)
  have HT := Lib.hid h
  obtain ⟨lk, hlk⟩ : ∃ lk, lk = lower key.data.toList := ⟨_, rfl⟩
  unfold LowEnd at HL
  rw [← hlk] at HL ⊢
  have HP : ∀ w1, Below w.heap.size w w1 → Calls Tryz.prog 51 #[.pointer (some ⟨b, 0, none⟩), S lk] w1 (SearchEnd T lk w1) := fun w1 hb => place_below (rPlace b T ⟨lk.toArray⟩ w1 (HT.out.on hb) hr hn)
  clear h hr hlk
  rcases has_cases T lk with ⟨h1, h2⟩ | ⟨p, hp, hm, h1, h2⟩
  · have HP2 := Lib.hid (fun w1 hb => place_no (HP w1 hb) h1)
    have HE : Hid (∀ w', Below w.heap.size w w' → ExactEnd T lk w (.returned (.tuple #[.string ⟨#[]⟩, .bool false])) w') := fun w' hb => ⟨by rw [h1, h2], hb⟩
    clear HP h1 h2
    go_enter Tryz.func32, Tryz.ntmps32
    go_wp2_with (first | (go_at_call 26; refine HL.out.mono ?_; rintro e w1 ⟨rfl, hb1⟩; refine Hid.out ?_) | fail)
    refine Lib.hid ?_
    have HB1 := Lib.hid hb1
    clear hb1
    go_wp2_with (first | (go_at_call 51; refine (HP2.out _ HB1.out).mono ?_; rintro e w2 ⟨x, rfl, hb2⟩; refine Hid.out ?_) | fail)
    refine Lib.hid ?_
    have HB2 := Lib.hid (HB1.out.trans (hb2.mono HB1.out.size))
    clear hb2
    go_wp2
    go_ret2
    exact HE.out _ HB2.out
  · obtain ⟨m, hm2⟩ : ∃ m, posOf T lk = m := ⟨_, rfl⟩
    have HP2 := Lib.hid (fun w1 hb => place_yes (HP w1 hb) h1 hm2)
    have HE : Hid (∀ w', Below w.heap.size w w' → ExactEnd T lk w (.returned (.tuple #[S p.2, .bool true])) w') := fun w' hb => ⟨by rw [h1, h2], hb⟩
    rw [hm2] at hp hm
    have HX : Hid (∀ w', Below w.heap.size w w' → ∃ gb o c, w'.cell? ⟨b, 0, none⟩ = some (.slice (some ⟨gb, o, none⟩) T.length c) ∧ T.length ≤ c ∧ w'.cell? ⟨gb, o + m * 2 + 1, none⟩ = some (S p.2)) := fun w' hb => by
      obtain ⟨a, c, c1, c2, c3⟩ := (HT.out.on hb).cell
      obtain ⟨gb, o, rfl, _, c4⟩ := c3.cell hp
      exact ⟨gb, o, c, c1, c2, c4⟩
    have j0 : (0 : Int) ≤ (m : Int) := by omega
    have j1 : (m : Int) < (T.length : Int) := by omega
    clear HP h1 h2 hp hm2
    go_enter Tryz.func32, Tryz.ntmps32
    go_wp2_with (first | (go_at_call 26; refine HL.out.mono ?_; rintro e w1 ⟨rfl, hb1⟩; refine Hid.out ?_) | fail)
    refine Lib.hid ?_
    have HB1 := Lib.hid hb1
    clear hb1
    go_wp2_with (first | (go_at_call 51; refine (HP2.out _ HB1.out).mono ?_; rintro e w2 ⟨rfl, hb2⟩; refine Hid.out ?_) | fail)
    refine Lib.hid ?_
    have HB2 := Lib.hid (HB1.out.trans (hb2.mono HB1.out.size))
    obtain ⟨gb, o, c, d1, d2, d3⟩ := HX.out _ HB2.out
    clear hb2
    go_wp2
    go_ret2
    exact HE.out _ HB2.out
/-- Keys of a table are not long. -/
def Short (T : List KV) : Prop := ∀ p ∈ T, p.1.length ≤ 320
theorem long_no {T : List KV} {key : List UInt8} (h : Short T) (hl : 320 < key.length) : hasOf T key = false ∧ valOf T key = [] := by
  have : hasOf T key = false := by
    cases hh : hasOf T key
    · rfl
    · unfold hasOf at hh
      cases hp : T[posOf T key]? with
      | none => rw [hp] at hh; cases hh
      | some p =>
        rw [hp] at hh
        have h1 := h p (List.mem_of_getElem? hp)
        have h2 : p.1 = key := by simpa using hh
        rw [h2] at h1; omega
  exact ⟨this, by unfold valOf; rw [this]; rfl⟩
/-- What the search's statement keeps. -/
def KeptT (w : World) (b : Nat) (x : Value) (w' : World) : Prop := Below w.heap.size w w' ∧ w'.cell? ⟨b, 0, none⟩ = some x
theorem KeptT.keep {w w1 w2 : World} {b : Nat} {x : Value} (h : KeptT w b x w1) (hb : Below w1.heap.size w1 w2) : KeptT w b x w2 :=
  ⟨h.1.trans (hb.mono h.1.size), (hb.cell (p := ⟨b, 0, none⟩) (World.block_lt_of_cell? w1 _ h.2)).trans h.2⟩
theorem KeptT.start {w : World} {b : Nat} {x : Value} (h : w.cell? ⟨b, 0, none⟩ = some x) : KeptT w b x w.drew := ⟨⟨rfl, rfl, rfl, Nat.le_refl _, fun _ _ => rfl⟩, h⟩
set_option maxHeartbeats 4000000 in
set_option maxRecDepth 100000 in
theorem pExact (b : Nat) (T : List KV) (key : ByteArray) (w : World) (h : TabAt 106 w b T) (hr : Rising T) (hS : Short T) (hn : T.length ≤ 1000000) (hs : key.size ≤ 9223372036854775807) : Calls Tryz.prog 130 #[.pointer (some ⟨b, 0, none⟩), .string key] w (ExactEnd T (lower key.data.toList) w) := by
  by_cases hlong : 320 < key.size
  · have hno := long_no (key := lower key.data.toList) hS (by rw [lower_len, str_len]; exact hlong)
    have HE : Hid (ExactEnd T (lower key.data.toList) w (.returned (.tuple #[.string ⟨#[]⟩, .bool false])) w) := ⟨by rw [hno.1, hno.2], Below.refl _ _⟩
    have i1 : (320 : Int) < (key.size : Int) := by omega
    clear hno hlong h hr
    go_enter Tryz.func130, Tryz.ntmps130
    go_wp2
    go_ret2
    exact HE.out
  · have i1 : ¬ (320 : Int) < (key.size : Int) := by omega
    have HT := Lib.hid h
    obtain ⟨a, c, c1, c2, c3⟩ := h.cell
    have C3 := Lib.hid c3
    have HS0 := Lib.hid (KeptT.start c1)
    have HL : Hid (∀ w1, Calls Tryz.prog 73 #[.string key] w1 fun e w' => e = .returned (S (lower key.data.toList)) ∧ Below w1.heap.size w1 w') := fun w1 => pLower key w1 hs
    obtain ⟨lk, hlk⟩ : ∃ lk, lk = lower key.data.toList := ⟨_, rfl⟩
    rw [← hlk] at HL ⊢
    have HP : ∀ w1, Below w.heap.size w w1 → Calls Tryz.prog 173 #[.slice a T.length c, S lk, .func (.func 174) #[] #[]] w1 (SearchEnd T lk w1) := fun w1 hb => pSearch _ T ⟨lk.toArray⟩ w1 (c3.on hb) hr hn
    clear h hr hlk c1 c3
    rcases has_cases T lk with ⟨h1, h2⟩ | ⟨p, hp, hm, h1, h2⟩
    · have HP2 := Lib.hid (fun w1 hb => place_no (HP w1 hb) h1)
      have HE : Hid (∀ w', Below w.heap.size w w' → ExactEnd T lk w (.returned (.tuple #[.string ⟨#[]⟩, .bool false])) w') := fun w' hb => ⟨by rw [h1, h2], hb⟩
      clear HP h1 h2
      go_enter Tryz.func130, Tryz.ntmps130
      go_wp2
      go_region_held3 (fun w' => Below w.heap.size w w' ∧ w'.cell? ⟨b, 0, none⟩ = some (.slice a T.length c))
        (first | exact HS0.out | exact KeptT.keep (by assumption) hb | fail)
        (first
          | (go_at_call 73; refine (HL.out _).mono ?_; rintro e wn ⟨rfl, hb⟩)
          | (go_at_call 173; refine (HP2.out _ (And.left (by assumption))).mono ?_; rintro e wn ⟨x, rfl, hb⟩)
          | fail)
      all_goals
        go_wp2
        go_ret2
        exact HE.out _ (And.left (by assumption))
    · obtain ⟨m, hm2⟩ : ∃ m, posOf T lk = m := ⟨_, rfl⟩
      have HP2 := Lib.hid (fun w1 hb => place_yes (HP w1 hb) h1 hm2)
      have HE : Hid (∀ w', Below w.heap.size w w' → ExactEnd T lk w (.returned (.tuple #[S p.2, .bool true])) w') := fun w' hb => ⟨by rw [h1, h2], hb⟩
      rw [hm2] at hp hm
      obtain ⟨gb, o, rfl, _, _⟩ := C3.out.cell hp
      have HX : Hid (∀ w', Below w.heap.size w w' → w'.cell? ⟨gb, o + m * 2 + 1, none⟩ = some (S p.2)) := fun w' hb => by
        obtain ⟨gb2, o2, he, _, c4⟩ := (C3.out.on hb).cell hp
        cases he
        exact c4
      have j0 : (0 : Int) ≤ (m : Int) := by omega
      have j1 : (m : Int) < (T.length : Int) := by omega
      clear HP h1 h2 hp hm2
      go_enter Tryz.func130, Tryz.ntmps130
      go_wp2
      go_region_held3 (fun w' => Below w.heap.size w w' ∧ w'.cell? ⟨b, 0, none⟩ = some (.slice (some ⟨gb, o, none⟩) T.length c))
        (first | exact HS0.out | exact KeptT.keep (by assumption) hb | fail)
        (first
          | (go_at_call 73; refine (HL.out _).mono ?_; rintro e wn ⟨rfl, hb⟩)
          | (go_at_call 173; refine (HP2.out _ (And.left (by assumption))).mono ?_; rintro e wn ⟨rfl, hb⟩)
          | fail)
      all_goals
        have d3 := HX.out _ (And.left (by assumption))
        go_wp2
        go_ret2
        exact HE.out _ (And.left (by assumption))
end Go.Proofs.YtnehgbpfgehhiaaGreatDoor.Table
/-
  TABLE: Address, Domain, on both sides; Len, At.
-/
namespace Go.Proofs.YtnehgbpfgehhiaaGreatDoor.Table
open Go.RowKit Base
abbrev Ans := List UInt8 × Bool
def AnsEnd (a : Ans) (w : World) (e : Ending) (w' : World) : Prop := e = .returned (.tuple #[S a.1, .bool a.2]) ∧ Below w.heap.size w w'
def exactA (T : List KV) (key : List UInt8) : Ans := (valOf T (lower key), hasOf T (lower key))
def addrA (T : List KV) (l d : List UInt8) : Ans := if (exactA T (l ++ 64 :: d)).2 = true then exactA T (l ++ 64 :: d) else exactA T (64 :: d)
def domGo (T : List KV) : Ans → List UInt8 → Ans
  | a, [] => a
  | a, c :: r => if a.2 = true then a else domGo T (if c.toNat = 46 then exactA T (c :: r) else a) r
def domA (T : List KV) (d : List UInt8) : Ans := domGo T (exactA T d) (d.drop 1)
theorem domGo_yes (T : List KV) (a : Ans) (h : a.2 = true) : ∀ r, domGo T a r = a
  | [] => rfl
  | c :: r => by rw [domGo, if_pos h]
/-- A table that is asked: by its function for one key. -/
def Asks (f : FuncId) (b : Nat) (T : List KV) (w : World) : Prop := ∀ (w1 : World) (key : ByteArray), Below w.heap.size w w1 → key.size ≤ 9223372036854775807 → Calls Tryz.prog f #[.pointer (some ⟨b, 0, none⟩), .string key] w1 (AnsEnd (exactA T key.data.toList) w1)
theorem rAsks {b : Nat} {T : List KV} {w : World} (h : TabAt 64 w b T) (hr : Rising T) (hn : T.length ≤ 1000000) : Asks 32 b T w := fun w1 key hb hs => rExact b T key w1 (h.on hb) hr hn hs
theorem pAsks {b : Nat} {T : List KV} {w : World} (h : TabAt 106 w b T) (hr : Rising T) (hS : Short T) (hn : T.length ≤ 1000000) : Asks 130 b T w := fun w1 key hb hs => pExact b T key w1 (h.on hb) hr hS hn hs
theorem ans_form {f : FuncId} {args : Array Value} {a : Ans} {w : World} {B : Bool} (h : Calls Tryz.prog f args w (AnsEnd a w)) (hB : a.2 = B) : Calls Tryz.prog f args w fun e w' => e = .returned (.tuple #[S a.1, .bool B]) ∧ Below w.heap.size w w' := by
  subst hB; exact h
theorem app_key (l d : ByteArray) : (l ++ ⟨#[64]⟩ ++ d).data.toList = l.data.toList ++ 64 :: d.data.toList := by simp
theorem app_key1 (d : ByteArray) : ((⟨#[64]⟩ : ByteArray) ++ d).data.toList = 64 :: d.data.toList := by simp
theorem app_size (l d : ByteArray) : (l ++ (⟨#[64]⟩ : ByteArray) ++ d).size = l.size + 1 + d.size := by simp; rfl
theorem app_size1 (d : ByteArray) : ((⟨#[64]⟩ : ByteArray) ++ d).size = 1 + d.size := by simp; rfl
set_option maxHeartbeats 4000000 in
set_option maxRecDepth 100000 in
theorem rAddress (b : Nat) (T : List KV) (l d : ByteArray) (w : World) (h : Asks 32 b T w) (hl : l.size ≤ 140737488355328) (hd : d.size ≤ 140737488355328) : Calls Tryz.prog 33 #[.pointer (some ⟨b, 0, none⟩), .string l, .string d] w (AnsEnd (addrA T l.data.toList d.data.toList) w) := by
  have H1 := h w (l ++ ⟨#[64]⟩ ++ d) (Below.refl _ _) (by rw [app_size]; omega)
  have H2 : ∀ w1, Below w.heap.size w w1 → Calls Tryz.prog 32 #[.pointer (some ⟨b, 0, none⟩), .string (⟨#[64]⟩ ++ d)] w1 (AnsEnd (exactA T (64 :: d.data.toList)) w1) := fun w1 hb => by
    have := h w1 (⟨#[64]⟩ ++ d) hb (by rw [app_size1]; omega)
    rwa [app_key1] at this
  rw [app_key] at H1
  have HE : Hid (addrA T l.data.toList d.data.toList = if (exactA T (l.data.toList ++ 64 :: d.data.toList)).2 = true then exactA T (l.data.toList ++ 64 :: d.data.toList) else exactA T (64 :: d.data.toList)) := rfl
  generalize exactA T (l.data.toList ++ 64 :: d.data.toList) = a1 at H1 HE
  generalize exactA T (64 :: d.data.toList) = a2 at H2 HE
  have HL := Lib.hid hl
  have HD := Lib.hid hd
  clear h
  cases hB : a1.2
  · have HC1 := Lib.hid (ans_form H1 hB)
    have HC2 := Lib.hid H2
    rw [hB] at HE
    clear H1 H2 hB
    go_enter Tryz.func33, Tryz.ntmps33
    go_wp2_with (first | (go_at_call 32; refine HC1.out.mono ?_; rintro e w1 ⟨rfl, hb1⟩; refine Hid.out ?_) | fail)
    refine Lib.hid ?_
    have HB1 := Lib.hid hb1
    clear hb1
    go_wp2_with (first | (go_at_call 32; refine (HC2.out _ HB1.out).mono ?_; rintro e w2 ⟨rfl, hb2⟩; refine Hid.out ?_) | fail)
    refine Lib.hid ?_
    have HB2 := Lib.hid (HB1.out.trans (hb2.mono HB1.out.size))
    clear hb2
    go_wp2
    go_ret2
    exact ⟨by rw [HE.out]; rfl, HB2.out⟩
  · have HC1 := Lib.hid (ans_form H1 hB)
    have HE2 : Hid (addrA T l.data.toList d.data.toList = a1) := by show _ = _; rw [HE.out, if_pos hB]
    have HB := Lib.hid hB
    clear H1 H2 hB HE
    go_enter Tryz.func33, Tryz.ntmps33
    go_wp2_with (first | (go_at_call 32; refine HC1.out.mono ?_; rintro e w1 ⟨rfl, hb1⟩; refine Hid.out ?_) | fail)
    refine Lib.hid ?_
    have HB1 := Lib.hid hb1
    clear hb1
    go_wp2
    go_ret2
    exact ⟨by rw [HE2.out, HB.out]; rfl, HB1.out⟩
set_option maxHeartbeats 4000000 in
set_option maxRecDepth 100000 in
theorem pAddress (b : Nat) (T : List KV) (l d : ByteArray) (w : World) (h : Asks 130 b T w) (hl : l.size ≤ 140737488355328) (hd : d.size ≤ 140737488355328) : Calls Tryz.prog 89 #[.pointer (some ⟨b, 0, none⟩), .string l, .string d] w (AnsEnd (addrA T l.data.toList d.data.toList) w) := by
  have H1 := h w (l ++ ⟨#[64]⟩ ++ d) (Below.refl _ _) (by rw [app_size]; omega)
  have H2 : ∀ w1, Below w.heap.size w w1 → Calls Tryz.prog 130 #[.pointer (some ⟨b, 0, none⟩), .string (⟨#[64]⟩ ++ d)] w1 (AnsEnd (exactA T (64 :: d.data.toList)) w1) := fun w1 hb => by
    have := h w1 (⟨#[64]⟩ ++ d) hb (by rw [app_size1]; omega)
    rwa [app_key1] at this
  rw [app_key] at H1
  have HE : Hid (addrA T l.data.toList d.data.toList = if (exactA T (l.data.toList ++ 64 :: d.data.toList)).2 = true then exactA T (l.data.toList ++ 64 :: d.data.toList) else exactA T (64 :: d.data.toList)) := rfl
  generalize exactA T (l.data.toList ++ 64 :: d.data.toList) = a1 at H1 HE
  generalize exactA T (64 :: d.data.toList) = a2 at H2 HE
  have HL := Lib.hid hl
  have HD := Lib.hid hd
  clear h
  cases hB : a1.2
  · have HC1 := Lib.hid (ans_form H1 hB)
    have HC2 := Lib.hid H2
    rw [hB] at HE
    clear H1 H2 hB
    go_enter Tryz.func89, Tryz.ntmps89
    go_wp2_with (first | (go_at_call 130; refine HC1.out.mono ?_; rintro e w1 ⟨rfl, hb1⟩; refine Hid.out ?_) | fail)
    refine Lib.hid ?_
    have HB1 := Lib.hid hb1
    clear hb1
    go_wp2_with (first | (go_at_call 130; refine (HC2.out _ HB1.out).mono ?_; rintro e w2 ⟨rfl, hb2⟩; refine Hid.out ?_) | fail)
    refine Lib.hid ?_
    have HB2 := Lib.hid (HB1.out.trans (hb2.mono HB1.out.size))
    clear hb2
    go_wp2
    go_ret2
    exact ⟨by rw [HE.out]; rfl, HB2.out⟩
  · have HC1 := Lib.hid (ans_form H1 hB)
    have HE2 : Hid (addrA T l.data.toList d.data.toList = a1) := by show _ = _; rw [HE.out, if_pos hB]
    have HB := Lib.hid hB
    clear H1 H2 hB HE
    go_enter Tryz.func89, Tryz.ntmps89
    go_wp2_with (first | (go_at_call 130; refine HC1.out.mono ?_; rintro e w1 ⟨rfl, hb1⟩; refine Hid.out ?_) | fail)
    refine Lib.hid ?_
    have HB1 := Lib.hid hb1
    clear hb1
    go_wp2
    go_ret2
    exact ⟨by rw [HE2.out, HB.out]; rfl, HB1.out⟩
set_option maxHeartbeats 4000000 in
set_option maxRecDepth 100000 in
theorem rDomain (b : Nat) (T : List KV) (d : ByteArray) (w : World) (h : Asks 32 b T w) (hd : d.size ≤ 140737488355328) : Calls Tryz.prog 34 #[.pointer (some ⟨b, 0, none⟩), .string d] w (AnsEnd (domA T d.data.toList) w) := by
  have HC1 := Lib.hid (h w d (Below.refl _ _) (by omega))
  have HA := Lib.hid h
  obtain ⟨fin, hfin⟩ : ∃ fin, fin = domA T d.data.toList := ⟨_, rfl⟩
  have HF0 : Hid (domGo T (exactA T d.data.toList) (d.data.toList.drop 1) = fin) := by show _ = _; rw [hfin]; rfl
  rw [← hfin]
  clear hfin h
  generalize exactA T d.data.toList = a0 at HC1 HF0
  go_enter Tryz.func34, Tryz.ntmps34
  go_wp2_with (first | (go_at_call 32; refine HC1.out.mono ?_; rintro e w1 ⟨rfl, hb1⟩; refine Hid.out ?_) | fail)
  refine Lib.hid ?_
  have HB1 := Lib.hid hb1
  clear hb1 HC1
  go_wp2
  go_loopw [6, 7, 8] (fun v i n wr => ∃ (k : Nat) (a : Ans), 1 ≤ k ∧ n = .int .i64 k ∧ (k ≤ d.size ∨ k = 1) ∧ v = S a.1 ∧ i = .bool a.2 ∧ Hid (domGo T a (d.data.toList.drop k) = fin) ∧ Hid (Below w.heap.size w wr)) (fun _ _ n _ => d.size + 1 - (intOf n).toNat)
  case atStart => exact ⟨1, a0, by omega, rfl, Or.inr rfl, rfl, rfl, HF0, HB1⟩
  case round =>
    clear HF0 HB1
    obtain ⟨k, ⟨av, ai⟩, hk1, rfl, hk, rfl, rfl, HG, HBW⟩ := hrel
    by_cases hlt : k < d.size
    · have i1 : (k : Int) < (d.size : Int) := by omega
      have i0 : (0 : Int) ≤ (k : Int) := by omega
      have i2 : (k : Int) ≤ (d.size : Int) := by omega
      cases ai
      · have hkl : k < d.data.toList.length := by rw [str_len]; exact hlt
        have hdr : d.data.toList.drop k = d[k] :: d.data.toList.drop (k + 1) := by rw [List.drop_eq_getElem_cons hkl, str_getL d k hlt hkl]
        have hgo : domGo T (av, false) (d.data.toList.drop k) = domGo T (if d[k].toNat = 46 then exactA T (d.data.toList.drop k) else (av, false)) (d.data.toList.drop (k + 1)) := by
          rw [hdr, domGo]; rfl
        rw [hgo] at HG
        by_cases hc : d[k].toNat = 46
        · have e1 : ((d[k].toNat : Int) == 46) = true := by rw [hc]; rfl
          rw [if_pos hc] at HG
          have HC2 : Hid (Calls Tryz.prog 32 #[.pointer (some ⟨b, 0, none⟩), .string (d.extract k d.size)] wr (AnsEnd (exactA T (d.data.toList.drop k)) wr)) := by
            have hsz : (d.extract k d.size).size ≤ d.size := by simp
            have := HA.out wr (d.extract k d.size) HBW.out (by omega)
            have e : (d.extract k d.size).data.toList = d.data.toList.drop k := by rw [extract_bytes, List.take_of_length_le (by rw [str_len]; omega)]
            rwa [e] at this
          generalize exactA T (d.data.toList.drop k) = a2 at HG HC2
          clear hdr hgo hc
          go_wp2_with (first | (go_at_call 32; refine HC2.out.mono ?_; rintro e w2 ⟨rfl, hb2⟩; refine Hid.out ?_) | fail)
          refine Lib.hid ?_
          have HB2 := Lib.hid (HBW.out.trans (hb2.mono HBW.out.size))
          clear hb2
          go_wp2
          go_roundw
          case rel => exact ⟨k + 1, a2, by omega, by go_num, Or.inl (by omega), rfl, rfl, HG, HB2⟩
          case measure => simp [intOf]; omega
        · have e1 : ((d[k].toNat : Int) == 46) = false := by rw [beq_eq_false_iff_ne]; omega
          rw [if_neg hc] at HG
          clear hdr hgo hc
          go_wp2
          go_roundw
          case rel => exact ⟨k + 1, (av, false), by omega, by go_num, Or.inl (by omega), rfl, rfl, HG, HBW⟩
          case measure => simp [intOf]; omega
      · have HG2 : Hid ((av, true) = fin) := by show _ = _; rw [← HG.out, domGo_yes T (av, true) rfl]
        clear HG
        go_wp2
        go_ret2
        exact ⟨by rw [← HG2.out]; rfl, HBW.out⟩
    · have i1 : ¬ (k : Int) < (d.size : Int) := by omega
      have HG2 : Hid ((av, ai) = fin) := by
        show _ = _
        rw [← HG.out, List.drop_eq_nil_of_le (by rw [str_len]; omega)]; rfl
      clear HG
      go_wp2
      go_ret2
      exact ⟨by rw [← HG2.out]; rfl, HBW.out⟩
theorem pLen (b : Nat) (T : List KV) (w : World) (h : TabAt 106 w b T) : Calls Tryz.prog 45 #[.pointer (some ⟨b, 0, none⟩)] w fun e w' => e = .returned (.int .i64 (T.length : Int)) ∧ w = w' := by
  obtain ⟨a, c, c1, c2, c3⟩ := h.cell
  clear h c3
  go_enter Tryz.func45, Tryz.ntmps45
  go_wp2
  go_ret
  exact ⟨rfl, rfl⟩
set_option maxRecDepth 100000 in
theorem pAt (b : Nat) (T : List KV) (k : Nat) (p : KV) (w : World) (h : TabAt 106 w b T) (hp : T[k]? = some p) (_hn : T.length ≤ 1000000) : Calls Tryz.prog 46 #[.pointer (some ⟨b, 0, none⟩), .int .i64 (k : Int)] w fun e w' => e = .returned (.tuple #[S p.1, S p.2, .bool true]) ∧ Below w.heap.size w w' := by
  obtain ⟨a, c, c1, c2, c3⟩ := h.cell
  obtain ⟨gb, o, rfl, c4, c5⟩ := c3.cell hp
  have hk := (List.getElem?_eq_some_iff.1 hp).1
  have i0 : (0 : Int) ≤ (k : Int) := by omega
  have i1 : (k : Int) < (T.length : Int) := by omega
  have i2 : ¬ (k : Int) < 0 := by omega
  clear h c3 hp
  go_enter Tryz.func46, Tryz.ntmps46
  go_wp2
  go_quiet (fail)
  go_wp2
  go_ret3
  exact ⟨rfl, bel_drewN _ _ (Nat.le_refl _)⟩
set_option maxRecDepth 100000 in
theorem pAtLow (b : Nat) (T : List KV) (w : World) (_h : TabAt 106 w b T) : Calls Tryz.prog 46 #[.pointer (some ⟨b, 0, none⟩), .int .i64 (-1)] w fun e w' => e = .returned (.tuple #[.string ⟨#[]⟩, .string ⟨#[]⟩, .bool false]) ∧ Below w.heap.size w w' := by
  go_enter Tryz.func46, Tryz.ntmps46
  go_wp2
  go_ret3
  exact ⟨rfl, Below.refl _ _⟩
set_option maxRecDepth 100000 in
theorem pAtHigh (b : Nat) (T : List KV) (w : World) (h : TabAt 106 w b T) (_hn : T.length ≤ 1000000) : Calls Tryz.prog 46 #[.pointer (some ⟨b, 0, none⟩), .int .i64 (T.length : Int)] w fun e w' => e = .returned (.tuple #[.string ⟨#[]⟩, .string ⟨#[]⟩, .bool false]) ∧ Below w.heap.size w w' := by
  obtain ⟨a, c, c1, c2, c3⟩ := h.cell
  have i0 : (0 : Int) ≤ (T.length : Int) := by omega
  have i2 : ¬ (T.length : Int) < 0 := by omega
  clear h c3
  go_enter Tryz.func46, Tryz.ntmps46
  go_wp2
  go_ret3
  exact ⟨rfl, Below.refl _ _⟩
end Go.Proofs.YtnehgbpfgehhiaaGreatDoor.Table
