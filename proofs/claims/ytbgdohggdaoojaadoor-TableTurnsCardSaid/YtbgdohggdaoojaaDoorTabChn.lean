/-
  TABLE, the program: a chain: what its closures ask, the first table that has it, its own functions.
-/
import Derived.Test.YtbgdohggdaoojaaDoorTabOff
import Derived.Test.YtbgdohggdaoojaaDoorTabParM
namespace Go.Proofs.YtbgdohggdaoojaaDoor.Table
open Go.RowKit Base
/-- What the first one answers that has it. -/
def firstA (ask : List KV → Ans) : List (List KV) → Ans
  | [] => ([], false)
  | T :: r => if (ask T).2 = true then ask T else firstA ask r
/-- Tables in a row. -/
def RowsC (w : World) (v : Value) (Ts : List (List KV)) : Prop :=
  (Ts = [] ∧ ∃ a c, v = .slice a 0 c) ∨ ∃ g c, v = .slice (some ⟨g, 0, none⟩) Ts.length c ∧ Ts.length ≤ c ∧ ∀ (i : Nat) (T : List KV), Ts[i]? = some T → TabC w g i T
def ChainAt (w : World) (cb : Nat) (Ts : List (List KV)) : Prop := ∃ sv, w.heap[cb]? = some (.cells #[sv] 87 (0, 0)) ∧ RowsC w sv Ts
theorem RowsC.on {w w' : World} {v : Value} {Ts : List (List KV)} (h : RowsC w v Ts) (hb : Below w.heap.size w w') : RowsC w' v Ts := by
  rcases h with h | ⟨g, c, h1, h2, h3⟩
  · exact Or.inl h
  · exact Or.inr ⟨g, c, h1, h2, fun i T h => (h3 i T h).on hb⟩
theorem ChainAt.on {w w' : World} {cb : Nat} {Ts : List (List KV)} (h : ChainAt w cb Ts) (hb : Below w.heap.size w w') : ChainAt w' cb Ts := by
  obtain ⟨sv, h1, h2⟩ := h
  exact ⟨sv, (hb.block cb (heap_lt h1)).trans h1, h2.on hb⟩
theorem ChainAt.cell {w : World} {cb : Nat} {Ts : List (List KV)} (h : ChainAt w cb Ts) : ∃ a c, w.cell? ⟨cb, 0, none⟩ = some (.slice a Ts.length c) ∧ ∀ (i : Nat) (T : List KV), Ts[i]? = some T → ∃ g, a = some ⟨g, 0, none⟩ ∧ TabC w g i T := by
  obtain ⟨sv, h1, h2⟩ := h
  rcases h2 with ⟨rfl, a, c, rfl⟩ | ⟨g, c, rfl, h3, h4⟩
  · exact ⟨a, c, cell_of_row w cb 0 _ _ _ h1, fun i T h => by simp at h⟩
  · exact ⟨_, c, cell_of_row w cb 0 _ _ _ h1, fun i T h => ⟨g, rfl, h4 i T h⟩⟩
theorem firstA_drop {ask : List KV → Ans} {Ts : List (List KV)} {k : Nat} {T : List KV} (h : Ts[k]? = some T) : firstA ask (Ts.drop k) = if (ask T).2 = true then ask T else firstA ask (Ts.drop (k + 1)) := by
  have hk := (List.getElem?_eq_some_iff.1 h).1
  rw [List.drop_eq_getElem_cons hk, (List.getElem?_eq_some_iff.1 h).2]; rfl
/-- What a closure that asks answers. -/
def AsksC (f : FuncId) (cap : List Value) (ask : List KV → Ans) (Ts : List (List KV)) (w : World) : Prop := ∀ (w1 : World) (g i : Nat) (T : List KV), Below w.heap.size w w1 → Ts[i]? = some T → TabC w1 g i T → Calls Tryd.prog f (.pointer (some ⟨g, i, none⟩) :: cap).toArray w1 (AnsEnd (ask T) w1)
theorem heap_two0 (w : World) (o o2 : Obj) : ((w.alloc o).alloc o2).heap[w.heap.size]? = some o := by
  show ((w.heap.push o).push o2)[w.heap.size]? = _
  rw [Array.getElem?_push_lt (by simp)]; simp
theorem heap_two1 (w : World) (o o2 : Obj) : ((w.alloc o).alloc o2).heap[w.heap.size + 1]? = some o2 := by
  show ((w.heap.push o).push o2)[w.heap.size + 1]? = _
  rw [Array.getElem?_push, if_pos (by simp)]
set_option maxHeartbeats 4000000 in
set_option maxRecDepth 100000 in
theorem pCloE (g i kb : Nat) (k : ByteArray) (w : World) (a : Ans) (hk : w.cell? ⟨kb, 0, none⟩ = some (.string k)) (hA : ∀ w1, Below w.heap.size w w1 → Calls Tryd.prog 21 #[.pointer (some ⟨g, i, none⟩), .string k] w1 (AnsEnd a w1)) :
    Calls Tryd.prog 38 #[.pointer (some ⟨g, i, none⟩), .pointer (some ⟨kb, 0, none⟩)] w (AnsEnd a w) := by
  have HC := Lib.hid (hA w (Below.refl _ _))
  clear hA
  go_enter Tryd.func38, Tryd.ntmps38
  go_wp2_with (first | (go_at_call 21; refine HC.out.mono ?_; rintro e w1 ⟨rfl, hb1⟩; refine Hid.out ?_) | fail)
  refine Lib.hid ?_
  have HB1 := Lib.hid hb1
  clear hb1
  go_wp2
  go_ret2
  exact ⟨rfl, HB1.out⟩
set_option maxHeartbeats 4000000 in
set_option maxRecDepth 100000 in
theorem pCloA (g i kb lb : Nat) (k l : ByteArray) (w : World) (a : Ans) (hk : w.cell? ⟨kb, 0, none⟩ = some (.string k)) (hl : w.cell? ⟨lb, 0, none⟩ = some (.string l)) (hA : ∀ w1, Below w.heap.size w w1 → Calls Tryd.prog 20 #[.pointer (some ⟨g, i, none⟩), .string k, .string l] w1 (AnsEnd a w1)) :
    Calls Tryd.prog 39 #[.pointer (some ⟨g, i, none⟩), .pointer (some ⟨kb, 0, none⟩), .pointer (some ⟨lb, 0, none⟩)] w (AnsEnd a w) := by
  have HC := Lib.hid (hA w (Below.refl _ _))
  clear hA
  go_enter Tryd.func39, Tryd.ntmps39
  go_wp2_with (first | (go_at_call 20; refine HC.out.mono ?_; rintro e w1 ⟨rfl, hb1⟩; refine Hid.out ?_) | fail)
  refine Lib.hid ?_
  have HB1 := Lib.hid hb1
  clear hb1
  go_wp2
  go_ret2
  exact ⟨rfl, HB1.out⟩
set_option maxHeartbeats 4000000 in
set_option maxRecDepth 100000 in
theorem pCloD (g i kb : Nat) (k : ByteArray) (w : World) (a : Ans) (hk : w.cell? ⟨kb, 0, none⟩ = some (.string k)) (hA : ∀ w1, Below w.heap.size w w1 → Calls Tryd.prog 19 #[.pointer (some ⟨g, i, none⟩), .string k] w1 (AnsEnd a w1)) :
    Calls Tryd.prog 40 #[.pointer (some ⟨g, i, none⟩), .pointer (some ⟨kb, 0, none⟩)] w (AnsEnd a w) := by
  have HC := Lib.hid (hA w (Below.refl _ _))
  clear hA
  go_enter Tryd.func40, Tryd.ntmps40
  go_wp2_with (first | (go_at_call 19; refine HC.out.mono ?_; rintro e w1 ⟨rfl, hb1⟩; refine Hid.out ?_) | fail)
  refine Lib.hid ?_
  have HB1 := Lib.hid hb1
  clear hb1
  go_wp2
  go_ret2
  exact ⟨rfl, HB1.out⟩
set_option maxHeartbeats 8000000 in
set_option maxRecDepth 100000 in
theorem pFirstE (cb kb : Nat) (ask : List KV → Ans) (Ts : List (List KV)) (w : World) (h : ChainAt w cb Ts) (hn : Ts.length ≤ 1000000) (hA : AsksC 38 [.pointer (some ⟨kb, 0, none⟩)] ask Ts w) :
    Calls Tryd.prog 37 #[.pointer (some ⟨cb, 0, none⟩), .func (.func 38) #[] #[.pointer (some ⟨kb, 0, none⟩)]] w (AnsEnd (firstA ask Ts) w) := by
  obtain ⟨fin, hfin⟩ : ∃ fin, fin = firstA ask Ts := ⟨_, rfl⟩
  have HF0 : Hid (firstA ask (Ts.drop 0) = fin) := by show _ = _; rw [hfin]; rfl
  rw [← hfin]
  clear hfin
  have HH := Lib.hid h
  have HA := Lib.hid hA
  obtain ⟨ra, rc, r1, r2⟩ := h.cell
  clear h hA r2
  go_enter Tryd.func37, Tryd.ntmps37
  go_wp2
  go_loopw [6, 7, 8, 14] (fun i v is n wr => ∃ k : Nat, k ≤ Ts.length ∧ n = .int .i64 (k : Int) ∧ Hid (firstA ask (Ts.drop k) = fin) ∧ Hid (Below w.heap.size w wr)) (fun _ _ _ n _ => Ts.length - (intOf n).toNat)
  case atStart => exact ⟨0, by omega, rfl, HF0, Below.refl _ _⟩
  case round =>
    clear HF0 r1
    obtain ⟨k, hk, rfl, HG, HB⟩ := hrel
    have HCH := Lib.hid (HH.out.on HB.out)
    obtain ⟨sa, sc, s1, s2⟩ := HCH.out.cell
    by_cases hlt : k < Ts.length
    · have hT : Ts[k]? = some Ts[k] := List.getElem?_eq_getElem hlt
      have i0 : (0 : Int) ≤ (k : Int) := by omega
      have i1 : (k : Int) < (Ts.length : Int) := by omega
      obtain ⟨g, hg, htc⟩ := s2 k _ hT
      subst hg
      have HC : Hid (Calls Tryd.prog 38 #[.pointer (some ⟨g, k, none⟩), .pointer (some ⟨kb, 0, none⟩)] wr (AnsEnd (ask Ts[k]) wr)) := HA.out wr g k _ HB.out hT htc
      have HG2 : Hid ((if (ask Ts[k]).2 = true then ask Ts[k] else firstA ask (Ts.drop (k + 1))) = fin) := by show _ = _; rw [← firstA_drop hT]; exact HG.out
      clear s2 htc hT HG HCH
      generalize ask Ts[k] = a at HC HG2
      obtain ⟨av, ai⟩ := a
      cases ai
      · have HG3 : Hid (firstA ask (Ts.drop (k + 1)) = fin) := by show _ = _; rw [← HG2.out, if_neg (by simp)]
        clear HG2
        go_wp2_with (first | (go_at_call 38; refine HC.out.mono ?_; rintro e w2 ⟨rfl, hb2⟩; refine Hid.out ?_) | fail)
        refine Lib.hid ?_
        have HB2 := Lib.hid (HB.out.trans (hb2.mono HB.out.size))
        clear hb2
        go_wp2
        go_roundw
        case rel => exact ⟨k + 1, by omega, by go_num, HG3, HB2⟩
        case measure => simp [intOf]; omega
      · have HG3 : Hid ((av, true) = fin) := by show _ = _; rw [← HG2.out, if_pos rfl]
        clear HG2
        go_wp2_with (first | (go_at_call 38; refine HC.out.mono ?_; rintro e w2 ⟨rfl, hb2⟩; refine Hid.out ?_) | fail)
        refine Lib.hid ?_
        have HB2 := Lib.hid (HB.out.trans (hb2.mono HB.out.size))
        clear hb2
        go_wp2
        go_ret2
        exact ⟨by rw [← HG3.out]; rfl, HB2.out⟩
    · have i1 : ¬ (k : Int) < (Ts.length : Int) := by omega
      have HG3 : Hid (([], false) = fin) := by show _ = _; rw [← HG.out, List.drop_eq_nil_of_le (by omega)]; rfl
      clear HG s2 HCH
      go_wp2
      go_ret2
      exact ⟨by rw [← HG3.out]; rfl, HB.out⟩
set_option maxHeartbeats 8000000 in
set_option maxRecDepth 100000 in
theorem pFirstA (cb kb lb : Nat) (ask : List KV → Ans) (Ts : List (List KV)) (w : World) (h : ChainAt w cb Ts) (hn : Ts.length ≤ 1000000) (hA : AsksC 39 [.pointer (some ⟨kb, 0, none⟩), .pointer (some ⟨lb, 0, none⟩)] ask Ts w) :
    Calls Tryd.prog 37 #[.pointer (some ⟨cb, 0, none⟩), .func (.func 39) #[] #[.pointer (some ⟨kb, 0, none⟩), .pointer (some ⟨lb, 0, none⟩)]] w (AnsEnd (firstA ask Ts) w) := by
  obtain ⟨fin, hfin⟩ : ∃ fin, fin = firstA ask Ts := ⟨_, rfl⟩
  have HF0 : Hid (firstA ask (Ts.drop 0) = fin) := by show _ = _; rw [hfin]; rfl
  rw [← hfin]
  clear hfin
  have HH := Lib.hid h
  have HA := Lib.hid hA
  obtain ⟨ra, rc, r1, r2⟩ := h.cell
  clear h hA r2
  go_enter Tryd.func37, Tryd.ntmps37
  go_wp2
  go_loopw [6, 7, 8, 14] (fun i v is n wr => ∃ k : Nat, k ≤ Ts.length ∧ n = .int .i64 (k : Int) ∧ Hid (firstA ask (Ts.drop k) = fin) ∧ Hid (Below w.heap.size w wr)) (fun _ _ _ n _ => Ts.length - (intOf n).toNat)
  case atStart => exact ⟨0, by omega, rfl, HF0, Below.refl _ _⟩
  case round =>
    clear HF0 r1
    obtain ⟨k, hk, rfl, HG, HB⟩ := hrel
    have HCH := Lib.hid (HH.out.on HB.out)
    obtain ⟨sa, sc, s1, s2⟩ := HCH.out.cell
    by_cases hlt : k < Ts.length
    · have hT : Ts[k]? = some Ts[k] := List.getElem?_eq_getElem hlt
      have i0 : (0 : Int) ≤ (k : Int) := by omega
      have i1 : (k : Int) < (Ts.length : Int) := by omega
      obtain ⟨g, hg, htc⟩ := s2 k _ hT
      subst hg
      have HC : Hid (Calls Tryd.prog 39 #[.pointer (some ⟨g, k, none⟩), .pointer (some ⟨kb, 0, none⟩), .pointer (some ⟨lb, 0, none⟩)] wr (AnsEnd (ask Ts[k]) wr)) := HA.out wr g k _ HB.out hT htc
      have HG2 : Hid ((if (ask Ts[k]).2 = true then ask Ts[k] else firstA ask (Ts.drop (k + 1))) = fin) := by show _ = _; rw [← firstA_drop hT]; exact HG.out
      clear s2 htc hT HG HCH
      generalize ask Ts[k] = a at HC HG2
      obtain ⟨av, ai⟩ := a
      cases ai
      · have HG3 : Hid (firstA ask (Ts.drop (k + 1)) = fin) := by show _ = _; rw [← HG2.out, if_neg (by simp)]
        clear HG2
        go_wp2_with (first | (go_at_call 39; refine HC.out.mono ?_; rintro e w2 ⟨rfl, hb2⟩; refine Hid.out ?_) | fail)
        refine Lib.hid ?_
        have HB2 := Lib.hid (HB.out.trans (hb2.mono HB.out.size))
        clear hb2
        go_wp2
        go_roundw
        case rel => exact ⟨k + 1, by omega, by go_num, HG3, HB2⟩
        case measure => simp [intOf]; omega
      · have HG3 : Hid ((av, true) = fin) := by show _ = _; rw [← HG2.out, if_pos rfl]
        clear HG2
        go_wp2_with (first | (go_at_call 39; refine HC.out.mono ?_; rintro e w2 ⟨rfl, hb2⟩; refine Hid.out ?_) | fail)
        refine Lib.hid ?_
        have HB2 := Lib.hid (HB.out.trans (hb2.mono HB.out.size))
        clear hb2
        go_wp2
        go_ret2
        exact ⟨by rw [← HG3.out]; rfl, HB2.out⟩
    · have i1 : ¬ (k : Int) < (Ts.length : Int) := by omega
      have HG3 : Hid (([], false) = fin) := by show _ = _; rw [← HG.out, List.drop_eq_nil_of_le (by omega)]; rfl
      clear HG s2 HCH
      go_wp2
      go_ret2
      exact ⟨by rw [← HG3.out]; rfl, HB.out⟩
set_option maxHeartbeats 8000000 in
set_option maxRecDepth 100000 in
theorem pFirstD (cb kb : Nat) (ask : List KV → Ans) (Ts : List (List KV)) (w : World) (h : ChainAt w cb Ts) (hn : Ts.length ≤ 1000000) (hA : AsksC 40 [.pointer (some ⟨kb, 0, none⟩)] ask Ts w) :
    Calls Tryd.prog 37 #[.pointer (some ⟨cb, 0, none⟩), .func (.func 40) #[] #[.pointer (some ⟨kb, 0, none⟩)]] w (AnsEnd (firstA ask Ts) w) := by
  obtain ⟨fin, hfin⟩ : ∃ fin, fin = firstA ask Ts := ⟨_, rfl⟩
  have HF0 : Hid (firstA ask (Ts.drop 0) = fin) := by show _ = _; rw [hfin]; rfl
  rw [← hfin]
  clear hfin
  have HH := Lib.hid h
  have HA := Lib.hid hA
  obtain ⟨ra, rc, r1, r2⟩ := h.cell
  clear h hA r2
  go_enter Tryd.func37, Tryd.ntmps37
  go_wp2
  go_loopw [6, 7, 8, 14] (fun i v is n wr => ∃ k : Nat, k ≤ Ts.length ∧ n = .int .i64 (k : Int) ∧ Hid (firstA ask (Ts.drop k) = fin) ∧ Hid (Below w.heap.size w wr)) (fun _ _ _ n _ => Ts.length - (intOf n).toNat)
  case atStart => exact ⟨0, by omega, rfl, HF0, Below.refl _ _⟩
  case round =>
    clear HF0 r1
    obtain ⟨k, hk, rfl, HG, HB⟩ := hrel
    have HCH := Lib.hid (HH.out.on HB.out)
    obtain ⟨sa, sc, s1, s2⟩ := HCH.out.cell
    by_cases hlt : k < Ts.length
    · have hT : Ts[k]? = some Ts[k] := List.getElem?_eq_getElem hlt
      have i0 : (0 : Int) ≤ (k : Int) := by omega
      have i1 : (k : Int) < (Ts.length : Int) := by omega
      obtain ⟨g, hg, htc⟩ := s2 k _ hT
      subst hg
      have HC : Hid (Calls Tryd.prog 40 #[.pointer (some ⟨g, k, none⟩), .pointer (some ⟨kb, 0, none⟩)] wr (AnsEnd (ask Ts[k]) wr)) := HA.out wr g k _ HB.out hT htc
      have HG2 : Hid ((if (ask Ts[k]).2 = true then ask Ts[k] else firstA ask (Ts.drop (k + 1))) = fin) := by show _ = _; rw [← firstA_drop hT]; exact HG.out
      clear s2 htc hT HG HCH
      generalize ask Ts[k] = a at HC HG2
      obtain ⟨av, ai⟩ := a
      cases ai
      · have HG3 : Hid (firstA ask (Ts.drop (k + 1)) = fin) := by show _ = _; rw [← HG2.out, if_neg (by simp)]
        clear HG2
        go_wp2_with (first | (go_at_call 40; refine HC.out.mono ?_; rintro e w2 ⟨rfl, hb2⟩; refine Hid.out ?_) | fail)
        refine Lib.hid ?_
        have HB2 := Lib.hid (HB.out.trans (hb2.mono HB.out.size))
        clear hb2
        go_wp2
        go_roundw
        case rel => exact ⟨k + 1, by omega, by go_num, HG3, HB2⟩
        case measure => simp [intOf]; omega
      · have HG3 : Hid ((av, true) = fin) := by show _ = _; rw [← HG2.out, if_pos rfl]
        clear HG2
        go_wp2_with (first | (go_at_call 40; refine HC.out.mono ?_; rintro e w2 ⟨rfl, hb2⟩; refine Hid.out ?_) | fail)
        refine Lib.hid ?_
        have HB2 := Lib.hid (HB.out.trans (hb2.mono HB.out.size))
        clear hb2
        go_wp2
        go_ret2
        exact ⟨by rw [← HG3.out]; rfl, HB2.out⟩
    · have i1 : ¬ (k : Int) < (Ts.length : Int) := by omega
      have HG3 : Hid (([], false) = fin) := by show _ = _; rw [← HG.out, List.drop_eq_nil_of_le (by omega)]; rfl
      clear HG s2 HCH
      go_wp2
      go_ret2
      exact ⟨by rw [← HG3.out]; rfl, HB.out⟩
end Go.Proofs.YtbgdohggdaoojaaDoor.Table
