/-
  TABLE: Exact, on both sides.
-/
import Derived.Test.YtbgdohggdaoojaaDoorTabSearch
namespace Go.Proofs.YtbgdohggdaoojaaDoor.Table
open Go.RowKit Base
/-- What a table answers of a key. -/
def ExactEnd (T : List KV) (key : List UInt8) (w : World) (e : Ending) (w' : World) : Prop := e = .returned (.tuple #[S (valOf T key), .bool (hasOf T key)]) ∧ Below w.heap.size w w'
theorem has_cases (T : List KV) (key : List UInt8) : (hasOf T key = false ∧ valOf T key = []) ∨ ∃ p, T[posOf T key]? = some p ∧ posOf T key < T.length ∧ hasOf T key = true ∧ valOf T key = p.2 := by
  cases hh : hasOf T key
  · refine Or.inl ⟨rfl, ?_⟩
    unfold valOf; rw [hh]; rfl
  · refine Or.inr ?_
    have h2 := hh
    unfold hasOf at h2
    cases hp : T[posOf T key]? with
    | none => rw [hp] at h2; cases h2
    | some p =>
      refine ⟨p, rfl, (List.getElem?_eq_some_iff.1 hp).1, rfl, ?_⟩
      unfold valOf
      rw [hh, if_pos rfl, List.getD_eq_getElem?_getD, hp]; rfl
theorem place_no {T : List KV} {key : List UInt8} {w : World} {f : FuncId} {args : Array Value} (h : Calls Tryd.prog f args w (SearchEnd T key w)) (hh : hasOf T key = false) :
    Calls Tryd.prog f args w fun e w' => ∃ x : Int, e = .returned (.tuple #[.int .i64 x, .bool false]) ∧ Below w.heap.size w w' :=
  h.mono fun e w' ⟨h1, h2⟩ => ⟨posOf T key, by rw [h1, hh], h2⟩
theorem place_yes {T : List KV} {key : List UInt8} {w : World} {f : FuncId} {args : Array Value} {m : Nat} (h : Calls Tryd.prog f args w (SearchEnd T key w)) (hh : hasOf T key = true) (hm : posOf T key = m) :
    Calls Tryd.prog f args w fun e w' => e = .returned (.tuple #[.int .i64 (m : Int), .bool true]) ∧ Below w.heap.size w w' :=
  h.mono fun e w' ⟨h1, h2⟩ => ⟨by rw [h1, hh, hm], h2⟩
theorem place_below {T : List KV} {key : List UInt8} {w : World} {f : FuncId} {args : Array Value} (h : Calls Tryd.prog f args w (PlaceEnd T key w)) : Calls Tryd.prog f args w (SearchEnd T key w) :=
  h.mono fun e w' ⟨h1, n, h2⟩ => ⟨h1, by rw [h2]; exact bel_drewN n w (Nat.le_refl _)⟩
set_option maxHeartbeats 4000000 in
set_option maxRecDepth 100000 in
theorem rExact (b : Nat) (T : List KV) (key : ByteArray) (w : World) (h : TabAt 36 w b T) (hr : Rising T) (hn : T.length ≤ 1000000) (hs : key.size ≤ 9223372036854775807) : Calls Tryd.prog 34 #[.pointer (some ⟨b, 0, none⟩), .string key] w (ExactEnd T (lower key.data.toList) w) := by
  have HL := Lib.hid (rLower key w hs)
  have HT := Lib.hid h
  obtain ⟨lk, hlk⟩ : ∃ lk, lk = lower key.data.toList := ⟨_, rfl⟩
  unfold LowEnd at HL
  rw [← hlk] at HL ⊢
  have HP : ∀ w1, Below w.heap.size w w1 → Calls Tryd.prog 24 #[.pointer (some ⟨b, 0, none⟩), S lk] w1 (SearchEnd T lk w1) := fun w1 hb => place_below (rPlace b T ⟨lk.toArray⟩ w1 (HT.out.on hb) hr hn)
  clear h hr hlk
  rcases has_cases T lk with ⟨h1, h2⟩ | ⟨p, hp, hm, h1, h2⟩
  · have HP2 := Lib.hid (fun w1 hb => place_no (HP w1 hb) h1)
    have HE : Hid (∀ w', Below w.heap.size w w' → ExactEnd T lk w (.returned (.tuple #[.string ⟨#[]⟩, .bool false])) w') := fun w' hb => ⟨by rw [h1, h2], hb⟩
    clear HP h1 h2
    go_enter Tryd.func34, Tryd.ntmps34
    go_wp2_with (first | (go_at_call 18; refine HL.out.mono ?_; rintro e w1 ⟨rfl, hb1⟩; refine Hid.out ?_) | fail)
    refine Lib.hid ?_
    have HB1 := Lib.hid hb1
    clear hb1
    go_wp2_with (first | (go_at_call 24; refine (HP2.out _ HB1.out).mono ?_; rintro e w2 ⟨x, rfl, hb2⟩; refine Hid.out ?_) | fail)
    refine Lib.hid ?_
    have HB2 := Lib.hid (HB1.out.trans (hb2.mono HB1.out.size))
    clear hb2
    go_wp2
    go_ret2
    exact HE.out _ HB2.out
  · obtain ⟨m, hm2⟩ : ∃ m, posOf T lk = m := ⟨_, rfl⟩
    have HP2 := Lib.hid (fun w1 hb => place_yes (HP w1 hb) h1 hm2)
    have HE : Hid (∀ w', Below w.heap.size w w' → ExactEnd T lk w (.returned (.tuple #[S p.2, .bool true])) w') := fun w' hb => ⟨by rw [h1, h2], hb⟩
    rw [hm2] at hp hm
    have HX : Hid (∀ w', Below w.heap.size w w' → ∃ gb o c, w'.cell? ⟨b, 0, none⟩ = some (.slice (some ⟨gb, o, none⟩) T.length c) ∧ T.length ≤ c ∧ w'.cell? ⟨gb, o + m * 2 + 1, none⟩ = some (S p.2)) := fun w' hb => by
      obtain ⟨a, c, c1, c2, c3⟩ := (HT.out.on hb).cell
      obtain ⟨gb, o, rfl, _, c4⟩ := c3.cell hp
      exact ⟨gb, o, c, c1, c2, c4⟩
    have j0 : (0 : Int) ≤ (m : Int) := by omega
    have j1 : (m : Int) < (T.length : Int) := by omega
    clear HP h1 h2 hp hm2
    go_enter Tryd.func34, Tryd.ntmps34
    go_wp2_with (first | (go_at_call 18; refine HL.out.mono ?_; rintro e w1 ⟨rfl, hb1⟩; refine Hid.out ?_) | fail)
    refine Lib.hid ?_
    have HB1 := Lib.hid hb1
    clear hb1
    go_wp2_with (first | (go_at_call 24; refine (HP2.out _ HB1.out).mono ?_; rintro e w2 ⟨rfl, hb2⟩; refine Hid.out ?_) | fail)
    refine Lib.hid ?_
    have HB2 := Lib.hid (HB1.out.trans (hb2.mono HB1.out.size))
    obtain ⟨gb, o, c, d1, d2, d3⟩ := HX.out _ HB2.out
    clear hb2
    go_wp2
    go_ret2
    exact HE.out _ HB2.out
/-- Keys of a table are not long. -/
def Short (T : List KV) : Prop := ∀ p ∈ T, p.1.length ≤ 320
theorem long_no {T : List KV} {key : List UInt8} (h : Short T) (hl : 320 < key.length) : hasOf T key = false ∧ valOf T key = [] := by
  have : hasOf T key = false := by
    cases hh : hasOf T key
    · rfl
    · unfold hasOf at hh
      cases hp : T[posOf T key]? with
      | none => rw [hp] at hh; cases hh
      | some p =>
        rw [hp] at hh
        have h1 := h p (List.mem_of_getElem? hp)
        have h2 : p.1 = key := by simpa using hh
        rw [h2] at h1; omega
  exact ⟨this, by unfold valOf; rw [this]; rfl⟩
/-- What the search's statement keeps. -/
def KeptT (w : World) (b : Nat) (x : Value) (w' : World) : Prop := Below w.heap.size w w' ∧ w'.cell? ⟨b, 0, none⟩ = some x
theorem KeptT.keep {w w1 w2 : World} {b : Nat} {x : Value} (h : KeptT w b x w1) (hb : Below w1.heap.size w1 w2) : KeptT w b x w2 :=
  ⟨h.1.trans (hb.mono h.1.size), (hb.cell (p := ⟨b, 0, none⟩) (World.block_lt_of_cell? w1 _ h.2)).trans h.2⟩
theorem KeptT.start {w : World} {b : Nat} {x : Value} (h : w.cell? ⟨b, 0, none⟩ = some x) : KeptT w b x w.drew := ⟨⟨rfl, rfl, rfl, Nat.le_refl _, fun _ _ => rfl⟩, h⟩
set_option maxHeartbeats 4000000 in
set_option maxRecDepth 100000 in
theorem pExact (b : Nat) (T : List KV) (key : ByteArray) (w : World) (h : TabAt 82 w b T) (hr : Rising T) (hS : Short T) (hn : T.length ≤ 1000000) (hs : key.size ≤ 9223372036854775807) : Calls Tryd.prog 21 #[.pointer (some ⟨b, 0, none⟩), .string key] w (ExactEnd T (lower key.data.toList) w) := by
  by_cases hlong : 320 < key.size
  · have hno := long_no (key := lower key.data.toList) hS (by rw [lower_len, str_len]; exact hlong)
    have HE : Hid (ExactEnd T (lower key.data.toList) w (.returned (.tuple #[.string ⟨#[]⟩, .bool false])) w) := ⟨by rw [hno.1, hno.2], Below.refl _ _⟩
    have i1 : (320 : Int) < (key.size : Int) := by omega
    clear hno hlong h hr
    go_enter Tryd.func21, Tryd.ntmps21
    go_wp2
    go_ret2
    exact HE.out
  · have i1 : ¬ (320 : Int) < (key.size : Int) := by omega
    have HT := Lib.hid h
    obtain ⟨a, c, c1, c2, c3⟩ := h.cell
    have C3 := Lib.hid c3
    have HS0 := Lib.hid (KeptT.start c1)
    have HL : Hid (∀ w1, Calls Tryd.prog 43 #[.string key] w1 fun e w' => e = .returned (S (lower key.data.toList)) ∧ Below w1.heap.size w1 w') := fun w1 => pLower key w1 hs
    obtain ⟨lk, hlk⟩ : ∃ lk, lk = lower key.data.toList := ⟨_, rfl⟩
    rw [← hlk] at HL ⊢
    have HP : ∀ w1, Below w.heap.size w w1 → Calls Tryd.prog 42 #[.slice a T.length c, S lk, .func (.func 44) #[] #[]] w1 (SearchEnd T lk w1) := fun w1 hb => pSearch _ T ⟨lk.toArray⟩ w1 (c3.on hb) hr hn
    clear h hr hlk c1 c3
    rcases has_cases T lk with ⟨h1, h2⟩ | ⟨p, hp, hm, h1, h2⟩
    · have HP2 := Lib.hid (fun w1 hb => place_no (HP w1 hb) h1)
      have HE : Hid (∀ w', Below w.heap.size w w' → ExactEnd T lk w (.returned (.tuple #[.string ⟨#[]⟩, .bool false])) w') := fun w' hb => ⟨by rw [h1, h2], hb⟩
      clear HP h1 h2
      go_enter Tryd.func21, Tryd.ntmps21
      go_wp2
      go_region_held3 (fun w' => Below w.heap.size w w' ∧ w'.cell? ⟨b, 0, none⟩ = some (.slice a T.length c))
        (first | exact HS0.out | exact KeptT.keep (by assumption) hb | fail)
        (first
          | (go_at_call 43; refine (HL.out _).mono ?_; rintro e wn ⟨rfl, hb⟩)
          | (go_at_call 42; refine (HP2.out _ (And.left (by assumption))).mono ?_; rintro e wn ⟨x, rfl, hb⟩)
          | fail)
      all_goals
        go_wp2
        go_ret2
        exact HE.out _ (And.left (by assumption))
    · obtain ⟨m, hm2⟩ : ∃ m, posOf T lk = m := ⟨_, rfl⟩
      have HP2 := Lib.hid (fun w1 hb => place_yes (HP w1 hb) h1 hm2)
      have HE : Hid (∀ w', Below w.heap.size w w' → ExactEnd T lk w (.returned (.tuple #[S p.2, .bool true])) w') := fun w' hb => ⟨by rw [h1, h2], hb⟩
      rw [hm2] at hp hm
      obtain ⟨gb, o, rfl, _, _⟩ := C3.out.cell hp
      have HX : Hid (∀ w', Below w.heap.size w w' → w'.cell? ⟨gb, o + m * 2 + 1, none⟩ = some (S p.2)) := fun w' hb => by
        obtain ⟨gb2, o2, he, _, c4⟩ := (C3.out.on hb).cell hp
        cases he
        exact c4
      have j0 : (0 : Int) ≤ (m : Int) := by omega
      have j1 : (m : Int) < (T.length : Int) := by omega
      clear HP h1 h2 hp hm2
      go_enter Tryd.func21, Tryd.ntmps21
      go_wp2
      go_region_held3 (fun w' => Below w.heap.size w w' ∧ w'.cell? ⟨b, 0, none⟩ = some (.slice (some ⟨gb, o, none⟩) T.length c))
        (first | exact HS0.out | exact KeptT.keep (by assumption) hb | fail)
        (first
          | (go_at_call 43; refine (HL.out _).mono ?_; rintro e wn ⟨rfl, hb⟩)
          | (go_at_call 42; refine (HP2.out _ (And.left (by assumption))).mono ?_; rintro e wn ⟨rfl, hb⟩)
          | fail)
      all_goals
        have d3 := HX.out _ (And.left (by assumption))
        go_wp2
        go_ret2
        exact HE.out _ (And.left (by assumption))
end Go.Proofs.YtbgdohggdaoojaaDoor.Table
