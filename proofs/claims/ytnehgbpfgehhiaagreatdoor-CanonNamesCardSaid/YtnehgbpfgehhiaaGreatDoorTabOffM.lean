/-
  MERGED by mergefill.py: TabOff, TabChn, TabChn2.
-/
import Derived.Test.YtnehgbpfgehhiaaGreatDoorTabSearchM
import Derived.Test.YtnehgbpfgehhiaaGreatDoorTabParMM
/-
  TABLE, the program: tables in a chain's row: Exact, Address, Domain of one; the closures that ask; the first that has it; the chain's own.
-/
namespace Go.Proofs.YtnehgbpfgehhiaaGreatDoor.Table
open Go.RowKit Base
/-- A table at a place of a row. -/
def TabC (w : World) (b o : Nat) (T : List KV) : Prop := ∃ sv, w.cell? ⟨b, o, none⟩ = some sv ∧ Rows2 w sv T
theorem TabC.on {w w' : World} {b o : Nat} {T : List KV} (h : TabC w b o T) (hb : Below w.heap.size w w') : TabC w' b o T := by
  obtain ⟨sv, h1, h2⟩ := h
  exact ⟨sv, (hb.cell (p := ⟨b, o, none⟩) (World.block_lt_of_cell? w _ h1)).trans h1, h2.on hb⟩
theorem TabC.cell {w : World} {b o : Nat} {T : List KV} (h : TabC w b o T) : ∃ a c, w.cell? ⟨b, o, none⟩ = some (.slice a T.length c) ∧ T.length ≤ c ∧ Rows2 w (.slice a T.length c) T := by
  obtain ⟨sv, h1, h2⟩ := h
  obtain ⟨a, c, rfl, hc⟩ := h2.form
  exact ⟨a, c, h1, hc, h2⟩
/-- What the search's statement keeps. -/
def KeptO (w : World) (b ao : Nat) (x : Value) (w' : World) : Prop := Below w.heap.size w w' ∧ w'.cell? ⟨b, ao, none⟩ = some x
theorem KeptO.keep {w w1 w2 : World} {b ao : Nat} {x : Value} (h : KeptO w b ao x w1) (hb : Below w1.heap.size w1 w2) : KeptO w b ao x w2 :=
  ⟨h.1.trans (hb.mono h.1.size), (hb.cell (p := ⟨b, ao, none⟩) (World.block_lt_of_cell? w1 _ h.2)).trans h.2⟩
theorem KeptO.start {w : World} {b ao : Nat} {x : Value} (h : w.cell? ⟨b, ao, none⟩ = some x) : KeptO w b ao x w.drew := ⟨⟨rfl, rfl, rfl, Nat.le_refl _, fun _ _ => rfl⟩, h⟩
set_option maxHeartbeats 4000000 in
set_option maxRecDepth 100000 in
theorem pExactO (b ao : Nat) (T : List KV) (key : ByteArray) (w : World) (h : TabC w b ao T) (hr : Rising T) (hS : Short T) (hn : T.length ≤ 1000000) (hs : key.size ≤ 9223372036854775807) : Calls Tryz.prog 130 #[.pointer (some ⟨b, ao, none⟩), .string key] w (ExactEnd T (lower key.data.toList) w) := by
  by_cases hlong : 320 < key.size
  · have hno := long_no (key := lower key.data.toList) hS (by rw [lower_len, str_len]; exact hlong)
    have HE : Hid (ExactEnd T (lower key.data.toList) w (.returned (.tuple #[.string ⟨#[]⟩, .bool false])) w) := ⟨by rw [hno.1, hno.2], Below.refl _ _⟩
    have i1 : (320 : Int) < (key.size : Int) := by omega
    clear hno hlong h hr
    go_enter Tryz.func130, Tryz.ntmps130
    go_wp2
    go_ret2
    exact HE.out
  · have i1 : ¬ (320 : Int) < (key.size : Int) := by omega
    have HT := Lib.hid h
    obtain ⟨a, c, c1, c2, c3⟩ := h.cell
    have C3 := Lib.hid c3
    have HS0 := Lib.hid (KeptO.start c1)
    have HL : Hid (∀ w1, Calls Tryz.prog 73 #[.string key] w1 fun e w' => e = .returned (S (lower key.data.toList)) ∧ Below w1.heap.size w1 w') := fun w1 => pLower key w1 hs
    obtain ⟨lk, hlk⟩ : ∃ lk, lk = lower key.data.toList := ⟨_, rfl⟩
    rw [← hlk] at HL ⊢
    have HP : ∀ w1, Below w.heap.size w w1 → Calls Tryz.prog 173 #[.slice a T.length c, S lk, .func (.func 174) #[] #[]] w1 (SearchEnd T lk w1) := fun w1 hb => pSearch _ T ⟨lk.toArray⟩ w1 (c3.on hb) hr hn
    clear h hr hlk c1 c3
    rcases has_cases T lk with ⟨h1, h2⟩ | ⟨p, hp, hm, h1, h2⟩
    · have HP2 := Lib.hid (fun w1 hb => place_no (HP w1 hb) h1)
      have HE : Hid (∀ w', Below w.heap.size w w' → ExactEnd T lk w (.returned (.tuple #[.string ⟨#[]⟩, .bool false])) w') := fun w' hb => ⟨by rw [h1, h2], hb⟩
      clear HP h1 h2
      go_enter Tryz.func130, Tryz.ntmps130
      go_wp2
      go_region_held3 (fun w' => Below w.heap.size w w' ∧ w'.cell? ⟨b, ao, none⟩ = some (.slice a T.length c))
        (first | exact HS0.out | exact KeptO.keep (by assumption) hb | fail)
        (first
          | (go_at_call 73; refine (HL.out _).mono ?_; rintro e wn ⟨rfl, hb⟩)
          | (go_at_call 173; refine (HP2.out _ (And.left (by assumption))).mono ?_; rintro e wn ⟨x, rfl, hb⟩)
          | fail)
      all_goals
        go_wp2
        go_ret2
        exact HE.out _ (And.left (by assumption))
    · obtain ⟨m, hm2⟩ : ∃ m, posOf T lk = m := ⟨_, rfl⟩
      have HP2 := Lib.hid (fun w1 hb => place_yes (HP w1 hb) h1 hm2)
      have HE : Hid (∀ w', Below w.heap.size w w' → ExactEnd T lk w (.returned (.tuple #[S p.2, .bool true])) w') := fun w' hb => ⟨by rw [h1, h2], hb⟩
      rw [hm2] at hp hm
      obtain ⟨gb, o, rfl, _, _⟩ := C3.out.cell hp
      have HX : Hid (∀ w', Below w.heap.size w w' → w'.cell? ⟨gb, o + m * 2 + 1, none⟩ = some (S p.2)) := fun w' hb => by
        obtain ⟨gb2, o2, he, _, c4⟩ := (C3.out.on hb).cell hp
        cases he
        exact c4
      have j0 : (0 : Int) ≤ (m : Int) := by omega
      have j1 : (m : Int) < (T.length : Int) := by omega
      clear HP h1 h2 hp hm2
      go_enter Tryz.func130, Tryz.ntmps130
      go_wp2
      go_region_held3 (fun w' => Below w.heap.size w w' ∧ w'.cell? ⟨b, ao, none⟩ = some (.slice (some ⟨gb, o, none⟩) T.length c))
        (first | exact HS0.out | exact KeptO.keep (by assumption) hb | fail)
        (first
          | (go_at_call 73; refine (HL.out _).mono ?_; rintro e wn ⟨rfl, hb⟩)
          | (go_at_call 173; refine (HP2.out _ (And.left (by assumption))).mono ?_; rintro e wn ⟨rfl, hb⟩)
          | fail)
      all_goals
        have d3 := HX.out _ (And.left (by assumption))
        go_wp2
        go_ret2
        exact HE.out _ (And.left (by assumption))
def AsksO (b ao : Nat) (T : List KV) (w : World) : Prop := ∀ (w1 : World) (key : ByteArray), Below w.heap.size w w1 → key.size ≤ 9223372036854775807 → Calls Tryz.prog 130 #[.pointer (some ⟨b, ao, none⟩), .string key] w1 (AnsEnd (exactA T key.data.toList) w1)
theorem pAsksO {b ao : Nat} {T : List KV} {w : World} (h : TabC w b ao T) (hr : Rising T) (hS : Short T) (hn : T.length ≤ 1000000) : AsksO b ao T w := fun w1 key hb hs => pExactO b ao T key w1 (h.on hb) hr hS hn hs
set_option maxHeartbeats 4000000 in
set_option maxRecDepth 100000 in
theorem pAddressO (b ao : Nat) (T : List KV) (l d : ByteArray) (w : World) (h : AsksO b ao T w) (hl : l.size ≤ 140737488355328) (hd : d.size ≤ 140737488355328) : Calls Tryz.prog 89 #[.pointer (some ⟨b, ao, none⟩), .string l, .string d] w (AnsEnd (addrA T l.data.toList d.data.toList) w) := by
  have H1 := h w (l ++ ⟨#[64]⟩ ++ d) (Below.refl _ _) (by rw [app_size]; omega)
  have H2 : ∀ w1, Below w.heap.size w w1 → Calls Tryz.prog 130 #[.pointer (some ⟨b, ao, none⟩), .string (⟨#[64]⟩ ++ d)] w1 (AnsEnd (exactA T (64 :: d.data.toList)) w1) := fun w1 hb => by
    have := h w1 (⟨#[64]⟩ ++ d) hb (by rw [app_size1]; omega)
    rwa [app_key1] at this
  rw [app_key] at H1
  have HE : Hid (addrA T l.data.toList d.data.toList = if (exactA T (l.data.toList ++ 64 :: d.data.toList)).2 = true then exactA T (l.data.toList ++ 64 :: d.data.toList) else exactA T (64 :: d.data.toList)) := rfl
  generalize exactA T (l.data.toList ++ 64 :: d.data.toList) = a1 at H1 HE
  generalize exactA T (64 :: d.data.toList) = a2 at H2 HE
  have HL := Lib.hid hl
  have HD := Lib.hid hd
  clear h
  cases hB : a1.2
  · have HC1 := Lib.hid (ans_form H1 hB)
    have HC2 := Lib.hid H2
    rw [hB] at HE
    clear H1 H2 hB
    go_enter Tryz.func89, Tryz.ntmps89
    go_wp2_with (first | (go_at_call 130; refine HC1.out.mono ?_; rintro e w1 ⟨rfl, hb1⟩; refine Hid.out ?_) | fail)
    refine Lib.hid ?_
    have HB1 := Lib.hid hb1
    clear hb1
    go_wp2_with (first | (go_at_call 130; refine (HC2.out _ HB1.out).mono ?_; rintro e w2 ⟨rfl, hb2⟩; refine Hid.out ?_) | fail)
    refine Lib.hid ?_
    have HB2 := Lib.hid (HB1.out.trans (hb2.mono HB1.out.size))
    clear hb2
    go_wp2
    go_ret2
    exact ⟨by rw [HE.out]; rfl, HB2.out⟩
  · have HC1 := Lib.hid (ans_form H1 hB)
    have HE2 : Hid (addrA T l.data.toList d.data.toList = a1) := by show _ = _; rw [HE.out, if_pos hB]
    have HB := Lib.hid hB
    clear H1 H2 hB HE
    go_enter Tryz.func89, Tryz.ntmps89
    go_wp2_with (first | (go_at_call 130; refine HC1.out.mono ?_; rintro e w1 ⟨rfl, hb1⟩; refine Hid.out ?_) | fail)
    refine Lib.hid ?_
    have HB1 := Lib.hid hb1
    clear hb1
    go_wp2
    go_ret2
    exact ⟨by rw [HE2.out, HB.out]; rfl, HB1.out⟩
end Go.Proofs.YtnehgbpfgehhiaaGreatDoor.Table
/-
  TABLE, the program: a chain: what its closures ask, the first table that has it, its own functions.
-/
namespace Go.Proofs.YtnehgbpfgehhiaaGreatDoor.Table
open Go.RowKit Base
/-- What the first one answers that has it. -/
def firstA (ask : List KV → Ans) : List (List KV) → Ans
  | [] => ([], false)
  | T :: r => if (ask T).2 = true then ask T else firstA ask r
/-- Tables in a row. -/
def RowsC (w : World) (v : Value) (Ts : List (List KV)) : Prop :=
  (Ts = [] ∧ ∃ a c, v = .slice a 0 c) ∨ ∃ g c, v = .slice (some ⟨g, 0, none⟩) Ts.length c ∧ Ts.length ≤ c ∧ ∀ (i : Nat) (T : List KV), Ts[i]? = some T → TabC w g i T
def ChainAt (w : World) (cb : Nat) (Ts : List (List KV)) : Prop := ∃ sv, w.heap[cb]? = some (.cells #[sv] 104 (0, 0)) ∧ RowsC w sv Ts
theorem RowsC.on {w w' : World} {v : Value} {Ts : List (List KV)} (h : RowsC w v Ts) (hb : Below w.heap.size w w') : RowsC w' v Ts := by
  rcases h with h | ⟨g, c, h1, h2, h3⟩
  · exact Or.inl h
  · exact Or.inr ⟨g, c, h1, h2, fun i T h => (h3 i T h).on hb⟩
theorem ChainAt.on {w w' : World} {cb : Nat} {Ts : List (List KV)} (h : ChainAt w cb Ts) (hb : Below w.heap.size w w') : ChainAt w' cb Ts := by
  obtain ⟨sv, h1, h2⟩ := h
  exact ⟨sv, (hb.block cb (heap_lt h1)).trans h1, h2.on hb⟩
theorem ChainAt.cell {w : World} {cb : Nat} {Ts : List (List KV)} (h : ChainAt w cb Ts) : ∃ a c, w.cell? ⟨cb, 0, none⟩ = some (.slice a Ts.length c) ∧ ∀ (i : Nat) (T : List KV), Ts[i]? = some T → ∃ g, a = some ⟨g, 0, none⟩ ∧ TabC w g i T := by
  obtain ⟨sv, h1, h2⟩ := h
  rcases h2 with ⟨rfl, a, c, rfl⟩ | ⟨g, c, rfl, h3, h4⟩
  · exact ⟨a, c, cell_of_row w cb 0 _ _ _ h1, fun i T h => by simp at h⟩
  · exact ⟨_, c, cell_of_row w cb 0 _ _ _ h1, fun i T h => ⟨g, rfl, h4 i T h⟩⟩
theorem firstA_drop {ask : List KV → Ans} {Ts : List (List KV)} {k : Nat} {T : List KV} (h : Ts[k]? = some T) : firstA ask (Ts.drop k) = if (ask T).2 = true then ask T else firstA ask (Ts.drop (k + 1)) := by
  have hk := (List.getElem?_eq_some_iff.1 h).1
  rw [List.drop_eq_getElem_cons hk, (List.getElem?_eq_some_iff.1 h).2]; rfl
/-- What a closure that asks answers. -/
def AsksC (f : FuncId) (cap : List Value) (ask : List KV → Ans) (Ts : List (List KV)) (w : World) : Prop := ∀ (w1 : World) (g i : Nat) (T : List KV), Below w.heap.size w w1 → Ts[i]? = some T → TabC w1 g i T → Calls Tryz.prog f (.pointer (some ⟨g, i, none⟩) :: cap).toArray w1 (AnsEnd (ask T) w1)
theorem heap_two0 (w : World) (o o2 : Obj) : ((w.alloc o).alloc o2).heap[w.heap.size]? = some o := by
  show ((w.heap.push o).push o2)[w.heap.size]? = _
  rw [Array.getElem?_push_lt (by simp)]; simp
theorem heap_two1 (w : World) (o o2 : Obj) : ((w.alloc o).alloc o2).heap[w.heap.size + 1]? = some o2 := by
  show ((w.heap.push o).push o2)[w.heap.size + 1]? = _
  rw [Array.getElem?_push, if_pos (by simp)]
set_option maxHeartbeats 4000000 in
set_option maxRecDepth 100000 in
theorem pCloA (g i kb lb : Nat) (k l : ByteArray) (w : World) (a : Ans) (hk : w.cell? ⟨kb, 0, none⟩ = some (.string k)) (hl : w.cell? ⟨lb, 0, none⟩ = some (.string l)) (hA : ∀ w1, Below w.heap.size w w1 → Calls Tryz.prog 89 #[.pointer (some ⟨g, i, none⟩), .string k, .string l] w1 (AnsEnd a w1)) :
    Calls Tryz.prog 88 #[.pointer (some ⟨g, i, none⟩), .pointer (some ⟨kb, 0, none⟩), .pointer (some ⟨lb, 0, none⟩)] w (AnsEnd a w) := by
  have HC := Lib.hid (hA w (Below.refl _ _))
  clear hA
  go_enter Tryz.func88, Tryz.ntmps88
  go_wp2_with (first | (go_at_call 89; refine HC.out.mono ?_; rintro e w1 ⟨rfl, hb1⟩; refine Hid.out ?_) | fail)
  refine Lib.hid ?_
  have HB1 := Lib.hid hb1
  clear hb1
  go_wp2
  go_ret2
  exact ⟨rfl, HB1.out⟩
set_option maxHeartbeats 8000000 in
set_option maxRecDepth 100000 in
theorem pFirstA (cb kb lb : Nat) (ask : List KV → Ans) (Ts : List (List KV)) (w : World) (h : ChainAt w cb Ts) (hn : Ts.length ≤ 1000000) (hA : AsksC 88 [.pointer (some ⟨kb, 0, none⟩), .pointer (some ⟨lb, 0, none⟩)] ask Ts w) :
    Calls Tryz.prog 87 #[.pointer (some ⟨cb, 0, none⟩), .func (.func 88) #[] #[.pointer (some ⟨kb, 0, none⟩), .pointer (some ⟨lb, 0, none⟩)]] w (AnsEnd (firstA ask Ts) w) := by
  obtain ⟨fin, hfin⟩ : ∃ fin, fin = firstA ask Ts := ⟨_, rfl⟩
  have HF0 : Hid (firstA ask (Ts.drop 0) = fin) := by show _ = _; rw [hfin]; rfl
  rw [← hfin]
  clear hfin
  have HH := Lib.hid h
  have HA := Lib.hid hA
  obtain ⟨ra, rc, r1, r2⟩ := h.cell
  clear h hA r2
  go_enter Tryz.func87, Tryz.ntmps87
  go_wp2
  go_loopw [6, 7, 8, 14] (fun i v is n wr => ∃ k : Nat, k ≤ Ts.length ∧ n = .int .i64 (k : Int) ∧ Hid (firstA ask (Ts.drop k) = fin) ∧ Hid (Below w.heap.size w wr)) (fun _ _ _ n _ => Ts.length - (intOf n).toNat)
  case atStart => exact ⟨0, by omega, rfl, HF0, Below.refl _ _⟩
  case round =>
    clear HF0 r1
    obtain ⟨k, hk, rfl, HG, HB⟩ := hrel
    have HCH := Lib.hid (HH.out.on HB.out)
    obtain ⟨sa, sc, s1, s2⟩ := HCH.out.cell
    by_cases hlt : k < Ts.length
    · have hT : Ts[k]? = some Ts[k] := List.getElem?_eq_getElem hlt
      have i0 : (0 : Int) ≤ (k : Int) := by omega
      have i1 : (k : Int) < (Ts.length : Int) := by omega
      obtain ⟨g, hg, htc⟩ := s2 k _ hT
      subst hg
      have HC : Hid (Calls Tryz.prog 88 #[.pointer (some ⟨g, k, none⟩), .pointer (some ⟨kb, 0, none⟩), .pointer (some ⟨lb, 0, none⟩)] wr (AnsEnd (ask Ts[k]) wr)) := HA.out wr g k _ HB.out hT htc
      have HG2 : Hid ((if (ask Ts[k]).2 = true then ask Ts[k] else firstA ask (Ts.drop (k + 1))) = fin) := by show _ = _; rw [← firstA_drop hT]; exact HG.out
      clear s2 htc hT HG HCH
      generalize ask Ts[k] = a at HC HG2
      obtain ⟨av, ai⟩ := a
      cases ai
      · have HG3 : Hid (firstA ask (Ts.drop (k + 1)) = fin) := by show _ = _; rw [← HG2.out, if_neg (by simp)]
        clear HG2
        go_wp2_with (first | (go_at_call 88; refine HC.out.mono ?_; rintro e w2 ⟨rfl, hb2⟩; refine Hid.out ?_) | fail)
        refine Lib.hid ?_
        have HB2 := Lib.hid (HB.out.trans (hb2.mono HB.out.size))
        clear hb2
        go_wp2
        go_roundw
        case rel => exact ⟨k + 1, by omega, by go_num, HG3, HB2⟩
        case measure => simp [intOf]; omega
      · have HG3 : Hid ((av, true) = fin) := by show _ = _; rw [← HG2.out, if_pos rfl]
        clear HG2
        go_wp2_with (first | (go_at_call 88; refine HC.out.mono ?_; rintro e w2 ⟨rfl, hb2⟩; refine Hid.out ?_) | fail)
        refine Lib.hid ?_
        have HB2 := Lib.hid (HB.out.trans (hb2.mono HB.out.size))
        clear hb2
        go_wp2
        go_ret2
        exact ⟨by rw [← HG3.out]; rfl, HB2.out⟩
    · have i1 : ¬ (k : Int) < (Ts.length : Int) := by omega
      have HG3 : Hid (([], false) = fin) := by show _ = _; rw [← HG.out, List.drop_eq_nil_of_le (by omega)]; rfl
      clear HG s2 HCH
      go_wp2
      go_ret2
      exact ⟨by rw [← HG3.out]; rfl, HB.out⟩
end Go.Proofs.YtnehgbpfgehhiaaGreatDoor.Table
/-
  TABLE, the program: what a chain answers.
-/
namespace Go.Proofs.YtnehgbpfgehhiaaGreatDoor.Table
open Go.RowKit Base
set_option maxHeartbeats 4000000 in
set_option maxRecDepth 100000 in
theorem pCA (cb : Nat) (Ts : List (List KV)) (k l : ByteArray) (w : World) (h : ChainAt w cb Ts) (hn : Ts.length ≤ 1000000) (hG : ∀ T ∈ Ts, Good T) (hs : k.size ≤ 140737488355328) (hs2 : l.size ≤ 140737488355328) :
    Calls Tryz.prog 57 #[.pointer (some ⟨cb, 0, none⟩), .string k, .string l] w (AnsEnd (firstA (fun T => addrA T k.data.toList l.data.toList) Ts) w) := by
  have HC : Hid (Calls Tryz.prog 87 #[.pointer (some ⟨cb, 0, none⟩), .func (.func 88) #[] #[.pointer (some ⟨w.heap.size, 0, none⟩), .pointer (some ⟨w.heap.size + 1, 0, none⟩)]] ((w.alloc (.cells #[.string k] 9)).alloc (.cells #[.string l] 9)) (AnsEnd (firstA (fun T => addrA T k.data.toList l.data.toList) Ts) ((w.alloc (.cells #[.string k] 9)).alloc (.cells #[.string l] 9)))) := by
    refine pFirstA cb w.heap.size (w.heap.size + 1) _ Ts _ (h.on ((Below.alloc1 w _).alloc (by simp) _)) hn ?_
    intro w1 g i T hb hT htc
    have hg := hG T (List.mem_of_getElem? hT)
    have hask := pAsksO htc hg.rise hg.short (by have := hg.few; omega)
    refine pCloA g i w.heap.size (w.heap.size + 1) k l w1 _ (cell_of_row w1 w.heap.size 0 _ _ _ ((hb.block w.heap.size (by simp; omega)).trans (heap_two0 w _ _))) (cell_of_row w1 (w.heap.size + 1) 0 _ _ _ ((hb.block (w.heap.size + 1) (by simp)).trans (heap_two1 w _ _))) ?_
    intro w2 hb2
    exact pAddressO g i T k l w2 (fun w3 key hb3 hs3 => hask w3 key (hb2.trans (hb3.mono hb2.size)) hs3) hs hs2
  have HB0 : Hid (Below w.heap.size w ((w.alloc (.cells #[.string k] 9)).alloc (.cells #[.string l] 9))) := (Below.alloc1 w _).alloc (by simp) _
  generalize (firstA (fun T => addrA T k.data.toList l.data.toList) Ts) = fin at HC
  clear h hn hG hs hs2
  go_enter Tryz.func57, Tryz.ntmps57
  go_wp2_with (first | (go_at_call 87; refine HC.out.mono ?_; rintro e w1 ⟨rfl, hb1⟩; refine Hid.out ?_) | fail)
  refine Lib.hid ?_
  have HB1 := Lib.hid (HB0.out.trans (hb1.mono HB0.out.size))
  clear hb1
  go_wp2
  go_ret2
  exact ⟨rfl, HB1.out⟩
end Go.Proofs.YtnehgbpfgehhiaaGreatDoor.Table
