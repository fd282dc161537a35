/-
  TABLE, the program: tables in a chain's row: Exact, Address, Domain of one; the closures that ask; the first that has it; the chain's own.
-/
import Derived.Test.YtbgdohggdaoojaaDoorTabAsk
namespace Go.Proofs.YtbgdohggdaoojaaDoor.Table
open Go.RowKit Base
/-- A table at a place of a row. -/
def TabC (w : World) (b o : Nat) (T : List KV) : Prop := ∃ sv, w.cell? ⟨b, o, none⟩ = some sv ∧ Rows2 w sv T
theorem TabC.on {w w' : World} {b o : Nat} {T : List KV} (h : TabC w b o T) (hb : Below w.heap.size w w') : TabC w' b o T := by
  obtain ⟨sv, h1, h2⟩ := h
  exact ⟨sv, (hb.cell (p := ⟨b, o, none⟩) (World.block_lt_of_cell? w _ h1)).trans h1, h2.on hb⟩
theorem TabC.cell {w : World} {b o : Nat} {T : List KV} (h : TabC w b o T) : ∃ a c, w.cell? ⟨b, o, none⟩ = some (.slice a T.length c) ∧ T.length ≤ c ∧ Rows2 w (.slice a T.length c) T := by
  obtain ⟨sv, h1, h2⟩ := h
  obtain ⟨a, c, rfl, hc⟩ := h2.form
  exact ⟨a, c, h1, hc, h2⟩
/-- What the search's statement keeps. -/
def KeptO (w : World) (b ao : Nat) (x : Value) (w' : World) : Prop := Below w.heap.size w w' ∧ w'.cell? ⟨b, ao, none⟩ = some x
theorem KeptO.keep {w w1 w2 : World} {b ao : Nat} {x : Value} (h : KeptO w b ao x w1) (hb : Below w1.heap.size w1 w2) : KeptO w b ao x w2 :=
  ⟨h.1.trans (hb.mono h.1.size), (hb.cell (p := ⟨b, ao, none⟩) (World.block_lt_of_cell? w1 _ h.2)).trans h.2⟩
theorem KeptO.start {w : World} {b ao : Nat} {x : Value} (h : w.cell? ⟨b, ao, none⟩ = some x) : KeptO w b ao x w.drew := ⟨⟨rfl, rfl, rfl, Nat.le_refl _, fun _ _ => rfl⟩, h⟩
set_option maxHeartbeats 4000000 in
set_option maxRecDepth 100000 in
theorem pExactO (b ao : Nat) (T : List KV) (key : ByteArray) (w : World) (h : TabC w b ao T) (hr : Rising T) (hS : Short T) (hn : T.length ≤ 1000000) (hs : key.size ≤ 9223372036854775807) : Calls Tryd.prog 21 #[.pointer (some ⟨b, ao, none⟩), .string key] w (ExactEnd T (lower key.data.toList) w) := by
  by_cases hlong : 320 < key.size
  · have hno := long_no (key := lower key.data.toList) hS (by rw [lower_len, str_len]; exact hlong)
    have HE : Hid (ExactEnd T (lower key.data.toList) w (.returned (.tuple #[.string ⟨#[]⟩, .bool false])) w) := ⟨by rw [hno.1, hno.2], Below.refl _ _⟩
    have i1 : (320 : Int) < (key.size : Int) := by omega
    clear hno hlong h hr
    go_enter Tryd.func21, Tryd.ntmps21
    go_wp2
    go_ret2
    exact HE.out
  · have i1 : ¬ (320 : Int) < (key.size : Int) := by omega
    have HT := Lib.hid h
    obtain ⟨a, c, c1, c2, c3⟩ := h.cell
    have C3 := Lib.hid c3
    have HS0 := Lib.hid (KeptO.start c1)
    have HL : Hid (∀ w1, Calls Tryd.prog 43 #[.string key] w1 fun e w' => e = .returned (S (lower key.data.toList)) ∧ Below w1.heap.size w1 w') := fun w1 => pLower key w1 hs
    obtain ⟨lk, hlk⟩ : ∃ lk, lk = lower key.data.toList := ⟨_, rfl⟩
    rw [← hlk] at HL ⊢
    have HP : ∀ w1, Below w.heap.size w w1 → Calls Tryd.prog 42 #[.slice a T.length c, S lk, .func (.func 44) #[] #[]] w1 (SearchEnd T lk w1) := fun w1 hb => pSearch _ T ⟨lk.toArray⟩ w1 (c3.on hb) hr hn
    clear h hr hlk c1 c3
    rcases has_cases T lk with ⟨h1, h2⟩ | ⟨p, hp, hm, h1, h2⟩
    · have HP2 := Lib.hid (fun w1 hb => place_no (HP w1 hb) h1)
      have HE : Hid (∀ w', Below w.heap.size w w' → ExactEnd T lk w (.returned (.tuple #[.string ⟨#[]⟩, .bool false])) w') := fun w' hb => ⟨by rw [h1, h2], hb⟩
      clear HP h1 h2
      go_enter Tryd.func21, Tryd.ntmps21
      go_wp2
      go_region_held3 (fun w' => Below w.heap.size w w' ∧ w'.cell? ⟨b, ao, none⟩ = some (.slice a T.length c))
        (first | exact HS0.out | exact KeptO.keep (by assumption) hb | fail)
        (first
          | (go_at_call 43; refine (HL.out _).mono ?_; rintro e wn ⟨rfl, hb⟩)
          | (go_at_call 42; refine (HP2.out _ (And.left (by assumption))).mono ?_; rintro e wn ⟨x, rfl, hb⟩)
          | fail)
      all_goals
        go_wp2
        go_ret2
        exact HE.out _ (And.left (by assumption))
    · obtain ⟨m, hm2⟩ : ∃ m, posOf T lk = m := ⟨_, rfl⟩
      have HP2 := Lib.hid (fun w1 hb => place_yes (HP w1 hb) h1 hm2)
      have HE : Hid (∀ w', Below w.heap.size w w' → ExactEnd T lk w (.returned (.tuple #[S p.2, .bool true])) w') := fun w' hb => ⟨by rw [h1, h2], hb⟩
      rw [hm2] at hp hm
      obtain ⟨gb, o, rfl, _, _⟩ := C3.out.cell hp
      have HX : Hid (∀ w', Below w.heap.size w w' → w'.cell? ⟨gb, o + m * 2 + 1, none⟩ = some (S p.2)) := fun w' hb => by
        obtain ⟨gb2, o2, he, _, c4⟩ := (C3.out.on hb).cell hp
        cases he
        exact c4
      have j0 : (0 : Int) ≤ (m : Int) := by omega
      have j1 : (m : Int) < (T.length : Int) := by omega
      clear HP h1 h2 hp hm2
      go_enter Tryd.func21, Tryd.ntmps21
      go_wp2
      go_region_held3 (fun w' => Below w.heap.size w w' ∧ w'.cell? ⟨b, ao, none⟩ = some (.slice (some ⟨gb, o, none⟩) T.length c))
        (first | exact HS0.out | exact KeptO.keep (by assumption) hb | fail)
        (first
          | (go_at_call 43; refine (HL.out _).mono ?_; rintro e wn ⟨rfl, hb⟩)
          | (go_at_call 42; refine (HP2.out _ (And.left (by assumption))).mono ?_; rintro e wn ⟨rfl, hb⟩)
          | fail)
      all_goals
        have d3 := HX.out _ (And.left (by assumption))
        go_wp2
        go_ret2
        exact HE.out _ (And.left (by assumption))
def AsksO (b ao : Nat) (T : List KV) (w : World) : Prop := ∀ (w1 : World) (key : ByteArray), Below w.heap.size w w1 → key.size ≤ 9223372036854775807 → Calls Tryd.prog 21 #[.pointer (some ⟨b, ao, none⟩), .string key] w1 (AnsEnd (exactA T key.data.toList) w1)
theorem pAsksO {b ao : Nat} {T : List KV} {w : World} (h : TabC w b ao T) (hr : Rising T) (hS : Short T) (hn : T.length ≤ 1000000) : AsksO b ao T w := fun w1 key hb hs => pExactO b ao T key w1 (h.on hb) hr hS hn hs
set_option maxHeartbeats 4000000 in
set_option maxRecDepth 100000 in
theorem pAddressO (b ao : Nat) (T : List KV) (l d : ByteArray) (w : World) (h : AsksO b ao T w) (hl : l.size ≤ 140737488355328) (hd : d.size ≤ 140737488355328) : Calls Tryd.prog 20 #[.pointer (some ⟨b, ao, none⟩), .string l, .string d] w (AnsEnd (addrA T l.data.toList d.data.toList) w) := by
  have H1 := h w (l ++ ⟨#[64]⟩ ++ d) (Below.refl _ _) (by rw [app_size]; omega)
  have H2 : ∀ w1, Below w.heap.size w w1 → Calls Tryd.prog 21 #[.pointer (some ⟨b, ao, none⟩), .string (⟨#[64]⟩ ++ d)] w1 (AnsEnd (exactA T (64 :: d.data.toList)) w1) := fun w1 hb => by
    have := h w1 (⟨#[64]⟩ ++ d) hb (by rw [app_size1]; omega)
    rwa [app_key1] at this
  rw [app_key] at H1
  have HE : Hid (addrA T l.data.toList d.data.toList = if (exactA T (l.data.toList ++ 64 :: d.data.toList)).2 = true then exactA T (l.data.toList ++ 64 :: d.data.toList) else exactA T (64 :: d.data.toList)) := rfl
  generalize exactA T (l.data.toList ++ 64 :: d.data.toList) = a1 at H1 HE
  generalize exactA T (64 :: d.data.toList) = a2 at H2 HE
  have HL := Lib.hid hl
  have HD := Lib.hid hd
  clear h
  cases hB : a1.2
  · have HC1 := Lib.hid (ans_form H1 hB)
    have HC2 := Lib.hid H2
    rw [hB] at HE
    clear H1 H2 hB
    go_enter Tryd.func20, Tryd.ntmps20
    go_wp2_with (first | (go_at_call 21; refine HC1.out.mono ?_; rintro e w1 ⟨rfl, hb1⟩; refine Hid.out ?_) | fail)
    refine Lib.hid ?_
    have HB1 := Lib.hid hb1
    clear hb1
    go_wp2_with (first | (go_at_call 21; refine (HC2.out _ HB1.out).mono ?_; rintro e w2 ⟨rfl, hb2⟩; refine Hid.out ?_) | fail)
    refine Lib.hid ?_
    have HB2 := Lib.hid (HB1.out.trans (hb2.mono HB1.out.size))
    clear hb2
    go_wp2
    go_ret2
    exact ⟨by rw [HE.out]; rfl, HB2.out⟩
  · have HC1 := Lib.hid (ans_form H1 hB)
    have HE2 : Hid (addrA T l.data.toList d.data.toList = a1) := by show _ = _; rw [HE.out, if_pos hB]
    have HB := Lib.hid hB
    clear H1 H2 hB HE
    go_enter Tryd.func20, Tryd.ntmps20
    go_wp2_with (first | (go_at_call 21; refine HC1.out.mono ?_; rintro e w1 ⟨rfl, hb1⟩; refine Hid.out ?_) | fail)
    refine Lib.hid ?_
    have HB1 := Lib.hid hb1
    clear hb1
    go_wp2
    go_ret2
    exact ⟨by rw [HE2.out, HB.out]; rfl, HB1.out⟩
set_option maxHeartbeats 4000000 in
set_option maxRecDepth 100000 in
theorem pDomainO (b ao : Nat) (T : List KV) (d : ByteArray) (w : World) (h : AsksO b ao T w) (hd : d.size ≤ 140737488355328) : Calls Tryd.prog 19 #[.pointer (some ⟨b, ao, none⟩), .string d] w (AnsEnd (domA T d.data.toList) w) := by
  have HC1 := Lib.hid (h w d (Below.refl _ _) (by omega))
  have HA := Lib.hid h
  obtain ⟨fin, hfin⟩ : ∃ fin, fin = domA T d.data.toList := ⟨_, rfl⟩
  have HF0 : Hid (domGo T (exactA T d.data.toList) (d.data.toList.drop 1) = fin) := by show _ = _; rw [hfin]; rfl
  rw [← hfin]
  clear hfin h
  generalize exactA T d.data.toList = a0 at HC1 HF0
  go_enter Tryd.func19, Tryd.ntmps19
  go_wp2_with (first | (go_at_call 21; refine HC1.out.mono ?_; rintro e w1 ⟨rfl, hb1⟩; refine Hid.out ?_) | fail)
  refine Lib.hid ?_
  have HB1 := Lib.hid hb1
  clear hb1 HC1
  go_wp2
  go_loopw [6, 7, 8] (fun v i n wr => ∃ (k : Nat) (a : Ans), 1 ≤ k ∧ n = .int .i64 k ∧ (k ≤ d.size ∨ k = 1) ∧ v = S a.1 ∧ i = .bool a.2 ∧ Hid (domGo T a (d.data.toList.drop k) = fin) ∧ Hid (Below w.heap.size w wr)) (fun _ _ n _ => d.size + 1 - (intOf n).toNat)
  case atStart => exact ⟨1, a0, by omega, rfl, Or.inr rfl, rfl, rfl, HF0, HB1⟩
  case round =>
    clear HF0 HB1
    obtain ⟨k, ⟨av, ai⟩, hk1, rfl, hk, rfl, rfl, HG, HBW⟩ := hrel
    by_cases hlt : k < d.size
    · have i1 : (k : Int) < (d.size : Int) := by omega
      have i0 : (0 : Int) ≤ (k : Int) := by omega
      have i2 : (k : Int) ≤ (d.size : Int) := by omega
      cases ai
      · have hkl : k < d.data.toList.length := by rw [str_len]; exact hlt
        have hdr : d.data.toList.drop k = d[k] :: d.data.toList.drop (k + 1) := by rw [List.drop_eq_getElem_cons hkl, str_getL d k hlt hkl]
        have hgo : domGo T (av, false) (d.data.toList.drop k) = domGo T (if d[k].toNat = 46 then exactA T (d.data.toList.drop k) else (av, false)) (d.data.toList.drop (k + 1)) := by
          rw [hdr, domGo]; rfl
        rw [hgo] at HG
        by_cases hc : d[k].toNat = 46
        · have e1 : ((d[k].toNat : Int) == 46) = true := by rw [hc]; rfl
          rw [if_pos hc] at HG
          have HC2 : Hid (Calls Tryd.prog 21 #[.pointer (some ⟨b, ao, none⟩), .string (d.extract k d.size)] wr (AnsEnd (exactA T (d.data.toList.drop k)) wr)) := by
            have hsz : (d.extract k d.size).size ≤ d.size := by simp
            have := HA.out wr (d.extract k d.size) HBW.out (by omega)
            have e : (d.extract k d.size).data.toList = d.data.toList.drop k := by rw [extract_bytes, List.take_of_length_le (by rw [str_len]; omega)]
            rwa [e] at this
          generalize exactA T (d.data.toList.drop k) = a2 at HG HC2
          clear hdr hgo hc
          go_wp2_with (first | (go_at_call 21; refine HC2.out.mono ?_; rintro e w2 ⟨rfl, hb2⟩; refine Hid.out ?_) | fail)
          refine Lib.hid ?_
          have HB2 := Lib.hid (HBW.out.trans (hb2.mono HBW.out.size))
          clear hb2
          go_wp2
          go_roundw
          case rel => exact ⟨k + 1, a2, by omega, by go_num, Or.inl (by omega), rfl, rfl, HG, HB2⟩
          case measure => simp [intOf]; omega
        · have e1 : ((d[k].toNat : Int) == 46) = false := by rw [beq_eq_false_iff_ne]; omega
          rw [if_neg hc] at HG
          clear hdr hgo hc
          go_wp2
          go_roundw
          case rel => exact ⟨k + 1, (av, false), by omega, by go_num, Or.inl (by omega), rfl, rfl, HG, HBW⟩
          case measure => simp [intOf]; omega
      · have HG2 : Hid ((av, true) = fin) := by show _ = _; rw [← HG.out, domGo_yes T (av, true) rfl]
        clear HG
        go_wp2
        go_ret2
        exact ⟨by rw [← HG2.out]; rfl, HBW.out⟩
    · have i1 : ¬ (k : Int) < (d.size : Int) := by omega
      have HG2 : Hid ((av, ai) = fin) := by
        show _ = _
        rw [← HG.out, List.drop_eq_nil_of_le (by rw [str_len]; omega)]; rfl
      clear HG
      go_wp2
      go_ret2
      exact ⟨by rw [← HG2.out]; rfl, HBW.out⟩
end Go.Proofs.YtbgdohggdaoojaaDoor.Table
