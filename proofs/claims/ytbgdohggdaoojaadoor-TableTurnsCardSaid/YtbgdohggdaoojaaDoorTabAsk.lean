/-
  TABLE: Address, Domain, on both sides; Len, At.
-/
import Derived.Test.YtbgdohggdaoojaaDoorTabExact
namespace Go.Proofs.YtbgdohggdaoojaaDoor.Table
open Go.RowKit Base
abbrev Ans := List UInt8 × Bool
def AnsEnd (a : Ans) (w : World) (e : Ending) (w' : World) : Prop := e = .returned (.tuple #[S a.1, .bool a.2]) ∧ Below w.heap.size w w'
def exactA (T : List KV) (key : List UInt8) : Ans := (valOf T (lower key), hasOf T (lower key))
def addrA (T : List KV) (l d : List UInt8) : Ans := if (exactA T (l ++ 64 :: d)).2 = true then exactA T (l ++ 64 :: d) else exactA T (64 :: d)
def domGo (T : List KV) : Ans → List UInt8 → Ans
  | a, [] => a
  | a, c :: r => if a.2 = true then a else domGo T (if c.toNat = 46 then exactA T (c :: r) else a) r
def domA (T : List KV) (d : List UInt8) : Ans := domGo T (exactA T d) (d.drop 1)
theorem domGo_yes (T : List KV) (a : Ans) (h : a.2 = true) : ∀ r, domGo T a r = a
  | [] => rfl
  | c :: r => by rw [domGo, if_pos h]
/-- A table that is asked: by its function for one key. -/
def Asks (f : FuncId) (b : Nat) (T : List KV) (w : World) : Prop := ∀ (w1 : World) (key : ByteArray), Below w.heap.size w w1 → key.size ≤ 9223372036854775807 → Calls Tryd.prog f #[.pointer (some ⟨b, 0, none⟩), .string key] w1 (AnsEnd (exactA T key.data.toList) w1)
theorem rAsks {b : Nat} {T : List KV} {w : World} (h : TabAt 36 w b T) (hr : Rising T) (hn : T.length ≤ 1000000) : Asks 34 b T w := fun w1 key hb hs => rExact b T key w1 (h.on hb) hr hn hs
theorem pAsks {b : Nat} {T : List KV} {w : World} (h : TabAt 82 w b T) (hr : Rising T) (hS : Short T) (hn : T.length ≤ 1000000) : Asks 21 b T w := fun w1 key hb hs => pExact b T key w1 (h.on hb) hr hS hn hs
theorem ans_form {f : FuncId} {args : Array Value} {a : Ans} {w : World} {B : Bool} (h : Calls Tryd.prog f args w (AnsEnd a w)) (hB : a.2 = B) : Calls Tryd.prog f args w fun e w' => e = .returned (.tuple #[S a.1, .bool B]) ∧ Below w.heap.size w w' := by
  subst hB; exact h
theorem app_key (l d : ByteArray) : (l ++ ⟨#[64]⟩ ++ d).data.toList = l.data.toList ++ 64 :: d.data.toList := by simp
theorem app_key1 (d : ByteArray) : ((⟨#[64]⟩ : ByteArray) ++ d).data.toList = 64 :: d.data.toList := by simp
theorem app_size (l d : ByteArray) : (l ++ (⟨#[64]⟩ : ByteArray) ++ d).size = l.size + 1 + d.size := by simp; rfl
theorem app_size1 (d : ByteArray) : ((⟨#[64]⟩ : ByteArray) ++ d).size = 1 + d.size := by simp; rfl
set_option maxHeartbeats 4000000 in
set_option maxRecDepth 100000 in
theorem rAddress (b : Nat) (T : List KV) (l d : ByteArray) (w : World) (h : Asks 34 b T w) (hl : l.size ≤ 140737488355328) (hd : d.size ≤ 140737488355328) : Calls Tryd.prog 35 #[.pointer (some ⟨b, 0, none⟩), .string l, .string d] w (AnsEnd (addrA T l.data.toList d.data.toList) w) := by
  have H1 := h w (l ++ ⟨#[64]⟩ ++ d) (Below.refl _ _) (by rw [app_size]; omega)
  have H2 : ∀ w1, Below w.heap.size w w1 → Calls Tryd.prog 34 #[.pointer (some ⟨b, 0, none⟩), .string (⟨#[64]⟩ ++ d)] w1 (AnsEnd (exactA T (64 :: d.data.toList)) w1) := fun w1 hb => by
    have := h w1 (⟨#[64]⟩ ++ d) hb (by rw [app_size1]; omega)
    rwa [app_key1] at this
  rw [app_key] at H1
  have HE : Hid (addrA T l.data.toList d.data.toList = if (exactA T (l.data.toList ++ 64 :: d.data.toList)).2 = true then exactA T (l.data.toList ++ 64 :: d.data.toList) else exactA T (64 :: d.data.toList)) := rfl
  generalize exactA T (l.data.toList ++ 64 :: d.data.toList) = a1 at H1 HE
  generalize exactA T (64 :: d.data.toList) = a2 at H2 HE
  have HL := Lib.hid hl
  have HD := Lib.hid hd
  clear h
  cases hB : a1.2
  · have HC1 := Lib.hid (ans_form H1 hB)
    have HC2 := Lib.hid H2
    rw [hB] at HE
    clear H1 H2 hB
    go_enter Tryd.func35, Tryd.ntmps35
    go_wp2_with (first | (go_at_call 34; refine HC1.out.mono ?_; rintro e w1 ⟨rfl, hb1⟩; refine Hid.out ?_) | fail)
    refine Lib.hid ?_
    have HB1 := Lib.hid hb1
    clear hb1
    go_wp2_with (first | (go_at_call 34; refine (HC2.out _ HB1.out).mono ?_; rintro e w2 ⟨rfl, hb2⟩; refine Hid.out ?_) | fail)
    refine Lib.hid ?_
    have HB2 := Lib.hid (HB1.out.trans (hb2.mono HB1.out.size))
    clear hb2
    go_wp2
    go_ret2
    exact ⟨by rw [HE.out]; rfl, HB2.out⟩
  · have HC1 := Lib.hid (ans_form H1 hB)
    have HE2 : Hid (addrA T l.data.toList d.data.toList = a1) := by show _ = _; rw [HE.out, if_pos hB]
    have HB := Lib.hid hB
    clear H1 H2 hB HE
    go_enter Tryd.func35, Tryd.ntmps35
    go_wp2_with (first | (go_at_call 34; refine HC1.out.mono ?_; rintro e w1 ⟨rfl, hb1⟩; refine Hid.out ?_) | fail)
    refine Lib.hid ?_
    have HB1 := Lib.hid hb1
    clear hb1
    go_wp2
    go_ret2
    exact ⟨by rw [HE2.out, HB.out]; rfl, HB1.out⟩
set_option maxHeartbeats 4000000 in
set_option maxRecDepth 100000 in
theorem pAddress (b : Nat) (T : List KV) (l d : ByteArray) (w : World) (h : Asks 21 b T w) (hl : l.size ≤ 140737488355328) (hd : d.size ≤ 140737488355328) : Calls Tryd.prog 20 #[.pointer (some ⟨b, 0, none⟩), .string l, .string d] w (AnsEnd (addrA T l.data.toList d.data.toList) w) := by
  have H1 := h w (l ++ ⟨#[64]⟩ ++ d) (Below.refl _ _) (by rw [app_size]; omega)
  have H2 : ∀ w1, Below w.heap.size w w1 → Calls Tryd.prog 21 #[.pointer (some ⟨b, 0, none⟩), .string (⟨#[64]⟩ ++ d)] w1 (AnsEnd (exactA T (64 :: d.data.toList)) w1) := fun w1 hb => by
    have := h w1 (⟨#[64]⟩ ++ d) hb (by rw [app_size1]; omega)
    rwa [app_key1] at this
  rw [app_key] at H1
  have HE : Hid (addrA T l.data.toList d.data.toList = if (exactA T (l.data.toList ++ 64 :: d.data.toList)).2 = true then exactA T (l.data.toList ++ 64 :: d.data.toList) else exactA T (64 :: d.data.toList)) := rfl
  generalize exactA T (l.data.toList ++ 64 :: d.data.toList) = a1 at H1 HE
  generalize exactA T (64 :: d.data.toList) = a2 at H2 HE
  have HL := Lib.hid hl
  have HD := Lib.hid hd
  clear h
  cases hB : a1.2
  · have HC1 := Lib.hid (ans_form H1 hB)
    have HC2 := Lib.hid H2
    rw [hB] at HE
    clear H1 H2 hB
    go_enter Tryd.func20, Tryd.ntmps20
    go_wp2_with (first | (go_at_call 21; refine HC1.out.mono ?_; rintro e w1 ⟨rfl, hb1⟩; refine Hid.out ?_) | fail)
    refine Lib.hid ?_
    have HB1 := Lib.hid hb1
    clear hb1
    go_wp2_with (first | (go_at_call 21; refine (HC2.out _ HB1.out).mono ?_; rintro e w2 ⟨rfl, hb2⟩; refine Hid.out ?_) | fail)
    refine Lib.hid ?_
    have HB2 := Lib.hid (HB1.out.trans (hb2.mono HB1.out.size))
    clear hb2
    go_wp2
    go_ret2
    exact ⟨by rw [HE.out]; rfl, HB2.out⟩
  · have HC1 := Lib.hid (ans_form H1 hB)
    have HE2 : Hid (addrA T l.data.toList d.data.toList = a1) := by show _ = _; rw [HE.out, if_pos hB]
    have HB := Lib.hid hB
    clear H1 H2 hB HE
    go_enter Tryd.func20, Tryd.ntmps20
    go_wp2_with (first | (go_at_call 21; refine HC1.out.mono ?_; rintro e w1 ⟨rfl, hb1⟩; refine Hid.out ?_) | fail)
    refine Lib.hid ?_
    have HB1 := Lib.hid hb1
    clear hb1
    go_wp2
    go_ret2
    exact ⟨by rw [HE2.out, HB.out]; rfl, HB1.out⟩
set_option maxHeartbeats 4000000 in
set_option maxRecDepth 100000 in
theorem rDomain (b : Nat) (T : List KV) (d : ByteArray) (w : World) (h : Asks 34 b T w) (hd : d.size ≤ 140737488355328) : Calls Tryd.prog 36 #[.pointer (some ⟨b, 0, none⟩), .string d] w (AnsEnd (domA T d.data.toList) w) := by
  have HC1 := Lib.hid (h w d (Below.refl _ _) (by omega))
  have HA := Lib.hid h
  obtain ⟨fin, hfin⟩ : ∃ fin, fin = domA T d.data.toList := ⟨_, rfl⟩
  have HF0 : Hid (domGo T (exactA T d.data.toList) (d.data.toList.drop 1) = fin) := by show _ = _; rw [hfin]; rfl
  rw [← hfin]
  clear hfin h
  generalize exactA T d.data.toList = a0 at HC1 HF0
  go_enter Tryd.func36, Tryd.ntmps36
  go_wp2_with (first | (go_at_call 34; refine HC1.out.mono ?_; rintro e w1 ⟨rfl, hb1⟩; refine Hid.out ?_) | fail)
  refine Lib.hid ?_
  have HB1 := Lib.hid hb1
  clear hb1 HC1
  go_wp2
  go_loopw [6, 7, 8] (fun v i n wr => ∃ (k : Nat) (a : Ans), 1 ≤ k ∧ n = .int .i64 k ∧ (k ≤ d.size ∨ k = 1) ∧ v = S a.1 ∧ i = .bool a.2 ∧ Hid (domGo T a (d.data.toList.drop k) = fin) ∧ Hid (Below w.heap.size w wr)) (fun _ _ n _ => d.size + 1 - (intOf n).toNat)
  case atStart => exact ⟨1, a0, by omega, rfl, Or.inr rfl, rfl, rfl, HF0, HB1⟩
  case round =>
    clear HF0 HB1
    obtain ⟨k, ⟨av, ai⟩, hk1, rfl, hk, rfl, rfl, HG, HBW⟩ := hrel
    by_cases hlt : k < d.size
    · have i1 : (k : Int) < (d.size : Int) := by omega
      have i0 : (0 : Int) ≤ (k : Int) := by omega
      have i2 : (k : Int) ≤ (d.size : Int) := by omega
      cases ai
      · have hkl : k < d.data.toList.length := by rw [str_len]; exact hlt
        have hdr : d.data.toList.drop k = d[k] :: d.data.toList.drop (k + 1) := by rw [List.drop_eq_getElem_cons hkl, str_getL d k hlt hkl]
        have hgo : domGo T (av, false) (d.data.toList.drop k) = domGo T (if d[k].toNat = 46 then exactA T (d.data.toList.drop k) else (av, false)) (d.data.toList.drop (k + 1)) := by
          rw [hdr, domGo]; rfl
        rw [hgo] at HG
        by_cases hc : d[k].toNat = 46
        · have e1 : ((d[k].toNat : Int) == 46) = true := by rw [hc]; rfl
          rw [if_pos hc] at HG
          have HC2 : Hid (Calls Tryd.prog 34 #[.pointer (some ⟨b, 0, none⟩), .string (d.extract k d.size)] wr (AnsEnd (exactA T (d.data.toList.drop k)) wr)) := by
            have hsz : (d.extract k d.size).size ≤ d.size := by simp
            have := HA.out wr (d.extract k d.size) HBW.out (by omega)
            have e : (d.extract k d.size).data.toList = d.data.toList.drop k := by rw [extract_bytes, List.take_of_length_le (by rw [str_len]; omega)]
            rwa [e] at this
          generalize exactA T (d.data.toList.drop k) = a2 at HG HC2
          clear hdr hgo hc
          go_wp2_with (first | (go_at_call 34; refine HC2.out.mono ?_; rintro e w2 ⟨rfl, hb2⟩; refine Hid.out ?_) | fail)
          refine Lib.hid ?_
          have HB2 := Lib.hid (HBW.out.trans (hb2.mono HBW.out.size))
          clear hb2
          go_wp2
          go_roundw
          case rel => exact ⟨k + 1, a2, by omega, by go_num, Or.inl (by omega), rfl, rfl, HG, HB2⟩
          case measure => simp [intOf]; omega
        · have e1 : ((d[k].toNat : Int) == 46) = false := by rw [beq_eq_false_iff_ne]; omega
          rw [if_neg hc] at HG
          clear hdr hgo hc
          go_wp2
          go_roundw
          case rel => exact ⟨k + 1, (av, false), by omega, by go_num, Or.inl (by omega), rfl, rfl, HG, HBW⟩
          case measure => simp [intOf]; omega
      · have HG2 : Hid ((av, true) = fin) := by show _ = _; rw [← HG.out, domGo_yes T (av, true) rfl]
        clear HG
        go_wp2
        go_ret2
        exact ⟨by rw [← HG2.out]; rfl, HBW.out⟩
    · have i1 : ¬ (k : Int) < (d.size : Int) := by omega
      have HG2 : Hid ((av, ai) = fin) := by
        show _ = _
        rw [← HG.out, List.drop_eq_nil_of_le (by rw [str_len]; omega)]; rfl
      clear HG
      go_wp2
      go_ret2
      exact ⟨by rw [← HG2.out]; rfl, HBW.out⟩
set_option maxHeartbeats 4000000 in
set_option maxRecDepth 100000 in
theorem pDomain (b : Nat) (T : List KV) (d : ByteArray) (w : World) (h : Asks 21 b T w) (hd : d.size ≤ 140737488355328) : Calls Tryd.prog 19 #[.pointer (some ⟨b, 0, none⟩), .string d] w (AnsEnd (domA T d.data.toList) w) := by
  have HC1 := Lib.hid (h w d (Below.refl _ _) (by omega))
  have HA := Lib.hid h
  obtain ⟨fin, hfin⟩ : ∃ fin, fin = domA T d.data.toList := ⟨_, rfl⟩
  have HF0 : Hid (domGo T (exactA T d.data.toList) (d.data.toList.drop 1) = fin) := by show _ = _; rw [hfin]; rfl
  rw [← hfin]
  clear hfin h
  generalize exactA T d.data.toList = a0 at HC1 HF0
  go_enter Tryd.func19, Tryd.ntmps19
  go_wp2_with (first | (go_at_call 21; refine HC1.out.mono ?_; rintro e w1 ⟨rfl, hb1⟩; refine Hid.out ?_) | fail)
  refine Lib.hid ?_
  have HB1 := Lib.hid hb1
  clear hb1 HC1
  go_wp2
  go_loopw [6, 7, 8] (fun v i n wr => ∃ (k : Nat) (a : Ans), 1 ≤ k ∧ n = .int .i64 k ∧ (k ≤ d.size ∨ k = 1) ∧ v = S a.1 ∧ i = .bool a.2 ∧ Hid (domGo T a (d.data.toList.drop k) = fin) ∧ Hid (Below w.heap.size w wr)) (fun _ _ n _ => d.size + 1 - (intOf n).toNat)
  case atStart => exact ⟨1, a0, by omega, rfl, Or.inr rfl, rfl, rfl, HF0, HB1⟩
  case round =>
    clear HF0 HB1
    obtain ⟨k, ⟨av, ai⟩, hk1, rfl, hk, rfl, rfl, HG, HBW⟩ := hrel
    by_cases hlt : k < d.size
    · have i1 : (k : Int) < (d.size : Int) := by omega
      have i0 : (0 : Int) ≤ (k : Int) := by omega
      have i2 : (k : Int) ≤ (d.size : Int) := by omega
      cases ai
      · have hkl : k < d.data.toList.length := by rw [str_len]; exact hlt
        have hdr : d.data.toList.drop k = d[k] :: d.data.toList.drop (k + 1) := by rw [List.drop_eq_getElem_cons hkl, str_getL d k hlt hkl]
        have hgo : domGo T (av, false) (d.data.toList.drop k) = domGo T (if d[k].toNat = 46 then exactA T (d.data.toList.drop k) else (av, false)) (d.data.toList.drop (k + 1)) := by
          rw [hdr, domGo]; rfl
        rw [hgo] at HG
        by_cases hc : d[k].toNat = 46
        · have e1 : ((d[k].toNat : Int) == 46) = true := by rw [hc]; rfl
          rw [if_pos hc] at HG
          have HC2 : Hid (Calls Tryd.prog 21 #[.pointer (some ⟨b, 0, none⟩), .string (d.extract k d.size)] wr (AnsEnd (exactA T (d.data.toList.drop k)) wr)) := by
            have hsz : (d.extract k d.size).size ≤ d.size := by simp
            have := HA.out wr (d.extract k d.size) HBW.out (by omega)
            have e : (d.extract k d.size).data.toList = d.data.toList.drop k := by rw [extract_bytes, List.take_of_length_le (by rw [str_len]; omega)]
            rwa [e] at this
          generalize exactA T (d.data.toList.drop k) = a2 at HG HC2
          clear hdr hgo hc
          go_wp2_with (first | (go_at_call 21; refine HC2.out.mono ?_; rintro e w2 ⟨rfl, hb2⟩; refine Hid.out ?_) | fail)
          refine Lib.hid ?_
          have HB2 := Lib.hid (HBW.out.trans (hb2.mono HBW.out.size))
          clear hb2
          go_wp2
          go_roundw
          case rel => exact ⟨k + 1, a2, by omega, by go_num, Or.inl (by omega), rfl, rfl, HG, HB2⟩
          case measure => simp [intOf]; omega
        · have e1 : ((d[k].toNat : Int) == 46) = false := by rw [beq_eq_false_iff_ne]; omega
          rw [if_neg hc] at HG
          clear hdr hgo hc
          go_wp2
          go_roundw
          case rel => exact ⟨k + 1, (av, false), by omega, by go_num, Or.inl (by omega), rfl, rfl, HG, HBW⟩
          case measure => simp [intOf]; omega
      · have HG2 : Hid ((av, true) = fin) := by show _ = _; rw [← HG.out, domGo_yes T (av, true) rfl]
        clear HG
        go_wp2
        go_ret2
        exact ⟨by rw [← HG2.out]; rfl, HBW.out⟩
    · have i1 : ¬ (k : Int) < (d.size : Int) := by omega
      have HG2 : Hid ((av, ai) = fin) := by
        show _ = _
        rw [← HG.out, List.drop_eq_nil_of_le (by rw [str_len]; omega)]; rfl
      clear HG
      go_wp2
      go_ret2
      exact ⟨by rw [← HG2.out]; rfl, HBW.out⟩
theorem pLen (b : Nat) (T : List KV) (w : World) (h : TabAt 82 w b T) : Calls Tryd.prog 9 #[.pointer (some ⟨b, 0, none⟩)] w fun e w' => e = .returned (.int .i64 (T.length : Int)) ∧ w = w' := by
  obtain ⟨a, c, c1, c2, c3⟩ := h.cell
  clear h c3
  go_enter Tryd.func9, Tryd.ntmps9
  go_wp2
  go_ret
  exact ⟨rfl, rfl⟩
set_option maxRecDepth 100000 in
theorem pAt (b : Nat) (T : List KV) (k : Nat) (p : KV) (w : World) (h : TabAt 82 w b T) (hp : T[k]? = some p) (_hn : T.length ≤ 1000000) : Calls Tryd.prog 10 #[.pointer (some ⟨b, 0, none⟩), .int .i64 (k : Int)] w fun e w' => e = .returned (.tuple #[S p.1, S p.2, .bool true]) ∧ Below w.heap.size w w' := by
  obtain ⟨a, c, c1, c2, c3⟩ := h.cell
  obtain ⟨gb, o, rfl, c4, c5⟩ := c3.cell hp
  have hk := (List.getElem?_eq_some_iff.1 hp).1
  have i0 : (0 : Int) ≤ (k : Int) := by omega
  have i1 : (k : Int) < (T.length : Int) := by omega
  have i2 : ¬ (k : Int) < 0 := by omega
  clear h c3 hp
  go_enter Tryd.func10, Tryd.ntmps10
  go_wp2
  go_quiet (fail)
  go_wp2
  go_ret3
  exact ⟨rfl, bel_drewN _ _ (Nat.le_refl _)⟩
set_option maxRecDepth 100000 in
theorem pAtLow (b : Nat) (T : List KV) (w : World) (_h : TabAt 82 w b T) : Calls Tryd.prog 10 #[.pointer (some ⟨b, 0, none⟩), .int .i64 (-1)] w fun e w' => e = .returned (.tuple #[.string ⟨#[]⟩, .string ⟨#[]⟩, .bool false]) ∧ Below w.heap.size w w' := by
  go_enter Tryd.func10, Tryd.ntmps10
  go_wp2
  go_ret3
  exact ⟨rfl, Below.refl _ _⟩
set_option maxRecDepth 100000 in
theorem pAtHigh (b : Nat) (T : List KV) (w : World) (h : TabAt 82 w b T) (_hn : T.length ≤ 1000000) : Calls Tryd.prog 10 #[.pointer (some ⟨b, 0, none⟩), .int .i64 (T.length : Int)] w fun e w' => e = .returned (.tuple #[.string ⟨#[]⟩, .string ⟨#[]⟩, .bool false]) ∧ Below w.heap.size w w' := by
  obtain ⟨a, c, c1, c2, c3⟩ := h.cell
  have i0 : (0 : Int) ≤ (T.length : Int) := by omega
  have i2 : ¬ (T.length : Int) < 0 := by omega
  clear h c3
  go_enter Tryd.func10, Tryd.ntmps10
  go_wp2
  go_ret3
  exact ⟨rfl, Below.refl _ _⟩
end Go.Proofs.YtbgdohggdaoojaaDoor.Table
