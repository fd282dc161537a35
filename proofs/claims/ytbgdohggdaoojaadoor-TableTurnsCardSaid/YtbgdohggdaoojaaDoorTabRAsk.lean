/-
  TABLE, the given answers: what tables answer, one behind the other.
-/
import Derived.Test.YtbgdohggdaoojaaDoorTabChn
namespace Go.Proofs.YtbgdohggdaoojaaDoor.Table
open Go.RowKit Base
/-- A table in a row: where it lies, what it holds. -/
abbrev PT := Option (Nat × List KV)
def ptrT : PT → Value
  | none => .pointer none
  | some p => .pointer (some ⟨p.1, 0, none⟩)
def tabsOf (qs : List PT) : List (List KV) := (qs.filterMap id).map Prod.snd
def PRow (w : World) (A : Option Addr) (qs : List PT) : Prop := ∀ (i : Nat) (o : PT), qs[i]? = some o → ∃ g, A = some ⟨g, 0, none⟩ ∧ g < w.heap.size ∧ w.cell? ⟨g, i, none⟩ = some (ptrT o)
def PTabs (ty : TypeId) (w : World) (qs : List PT) : Prop := ∀ (b : Nat) (T : List KV), some (b, T) ∈ qs → TabAt ty w b T ∧ Good T
theorem PRow.on {w w' : World} {A : Option Addr} {qs : List PT} (h : PRow w A qs) (hb : Below w.heap.size w w') : PRow w' A qs := fun i o ho => by
  obtain ⟨g, h1, h2, h3⟩ := h i o ho
  exact ⟨g, h1, Nat.lt_of_lt_of_le h2 hb.size, (hb.cell (p := ⟨g, i, none⟩) h2).trans h3⟩
theorem PTabs.on {ty : TypeId} {w w' : World} {qs : List PT} (h : PTabs ty w qs) (hb : Below w.heap.size w w') : PTabs ty w' qs := fun b T hm => ⟨(h b T hm).1.on hb, (h b T hm).2⟩
theorem tabs_none {qs : List PT} {k : Nat} (h : qs[k]? = some none) : tabsOf (qs.drop k) = tabsOf (qs.drop (k + 1)) := by
  have hk := (List.getElem?_eq_some_iff.1 h).1
  unfold tabsOf
  rw [List.drop_eq_getElem_cons hk, (List.getElem?_eq_some_iff.1 h).2]; rfl
theorem tabs_some {qs : List PT} {k b : Nat} {T : List KV} (h : qs[k]? = some (some (b, T))) : tabsOf (qs.drop k) = T :: tabsOf (qs.drop (k + 1)) := by
  have hk := (List.getElem?_eq_some_iff.1 h).1
  unfold tabsOf
  rw [List.drop_eq_getElem_cons hk, (List.getElem?_eq_some_iff.1 h).2]; rfl
set_option maxHeartbeats 8000000 in
set_option maxRecDepth 100000 in
theorem rAskE (A : Option Addr) (c : Nat) (qs : List PT) (a : ByteArray) (w : World) (hrow : PRow w A qs) (htab : PTabs 36 w qs) (hn : qs.length ≤ 1000) (hs : a.size ≤ 140737488355328) :
    Calls Tryd.prog 14 #[.slice A qs.length c, .int .i64 0, .string a, .string ⟨#[]⟩] w (AnsEnd (firstA (fun T => exactA T a.data.toList) (tabsOf qs)) w) := by
  obtain ⟨ask, hask⟩ : ∃ ask : List KV → Ans, ask = fun T => exactA T a.data.toList := ⟨_, rfl⟩
  have HA : Hid (∀ (w1 : World) (b0 : Nat) (T : List KV), Below w.heap.size w w1 → TabAt 36 w1 b0 T → Good T → Calls Tryd.prog 34 #[.pointer (some ⟨b0, 0, none⟩), .string a] w1 (AnsEnd (ask T) w1)) := fun w1 b0 T _ ht hg => by
    rw [hask]
    exact rExact b0 T a w1 ht hg.rise (by have := hg.few; omega) (by omega)
  rw [← hask]
  clear hask
  obtain ⟨fin, hfin⟩ : ∃ fin, fin = firstA ask (tabsOf qs) := ⟨_, rfl⟩
  have HF0 : Hid (firstA ask (tabsOf (qs.drop 0)) = fin) := by show _ = _; rw [hfin]; rfl
  rw [← hfin]
  clear hfin hs
  have HR := Lib.hid hrow
  have HT := Lib.hid htab
  clear hrow htab
  go_enter Tryd.func14, Tryd.ntmps14
  go_wp2
  go_loopw [10, 11, 12] (fun n _ _ wr => ∃ k : Nat, k ≤ qs.length ∧ n = .int .i64 (k : Int) ∧ Hid (firstA ask (tabsOf (qs.drop k)) = fin) ∧ Hid (Below w.heap.size w wr)) (fun n _ _ _ => qs.length - (intOf n).toNat)
  case atStart => exact ⟨0, by omega, rfl, HF0, Below.refl _ _⟩
  case round =>
    clear HF0
    obtain ⟨k, hk, rfl, HG, HB⟩ := hrel
    by_cases hlt : k < qs.length
    · have hget : qs[k]? = some qs[k] := List.getElem?_eq_getElem hlt
      have i0 : (0 : Int) ≤ (k : Int) := by omega
      have i1 : (k : Int) < (qs.length : Int) := by omega
      obtain ⟨g, hA, hgl, hc⟩ := (HR.out.on HB.out) k _ hget
      subst hA
      have HM := Lib.hid (show qs[k] ∈ qs from List.getElem_mem hlt)
      cases ho : qs[k] with
      | none =>
        rw [ho] at hget hc
        have HG2 : Hid (firstA ask (tabsOf (qs.drop (k + 1))) = fin) := by show _ = _; rw [← tabs_none hget]; exact HG.out
        have c1 : wr.cell? ⟨g, k, none⟩ = some (.pointer none) := hc
        clear HG hc hget HM hgl ho
        go_wp2
        go_roundw
        case rel => exact ⟨k + 1, by omega, by go_num, HG2, HB⟩
        case measure => simp [intOf]; omega
      | some p =>
        obtain ⟨b0, T⟩ := p
        rw [ho] at hget hc HM
        have c1 : wr.cell? ⟨g, k, none⟩ = some (.pointer (some ⟨b0, 0, none⟩)) := hc
        obtain ⟨ht, hgd⟩ := (HT.out.on HB.out) b0 T HM.out
        have HC : Hid (Calls Tryd.prog 34 #[.pointer (some ⟨b0, 0, none⟩), .string a] wr (AnsEnd (ask T) wr)) := HA.out wr b0 T HB.out ht hgd
        have HG2 : Hid ((if (ask T).2 = true then ask T else firstA ask (tabsOf (qs.drop (k + 1)))) = fin) := by
          show _ = _
          rw [← HG.out, tabs_some hget]; rfl
        clear ht hgd HG hc hget HM hgl ho
        generalize ask T = r at HC HG2
        obtain ⟨av, ai⟩ := r
        cases ai
        · have HG3 : Hid (firstA ask (tabsOf (qs.drop (k + 1))) = fin) := by show _ = _; rw [← HG2.out, if_neg (by simp)]
          clear HG2
          go_wp2_with (first | (go_at_call 34; refine HC.out.mono ?_; rintro e w2 ⟨rfl, hb2⟩; refine Hid.out ?_) | fail)
          refine Lib.hid ?_
          have HB2 := Lib.hid (HB.out.trans (hb2.mono HB.out.size))
          clear hb2
          go_wp2
          go_roundw
          case rel => exact ⟨k + 1, by omega, by go_num, HG3, HB2⟩
          case measure => simp [intOf]; omega
        · have HG3 : Hid ((av, true) = fin) := by show _ = _; rw [← HG2.out, if_pos rfl]
          clear HG2
          go_wp2_with (first | (go_at_call 34; refine HC.out.mono ?_; rintro e w2 ⟨rfl, hb2⟩; refine Hid.out ?_) | fail)
          refine Lib.hid ?_
          have HB2 := Lib.hid (HB.out.trans (hb2.mono HB.out.size))
          clear hb2
          go_wp2
          go_ret2
          exact ⟨by rw [← HG3.out]; rfl, HB2.out⟩
    · have i1 : ¬ (k : Int) < (qs.length : Int) := by omega
      have HG3 : Hid (([], false) = fin) := by show _ = _; rw [← HG.out, List.drop_eq_nil_of_le (by omega)]; rfl
      clear HG
      go_wp2
      go_ret2
      exact ⟨by rw [← HG3.out]; rfl, HB.out⟩
set_option maxHeartbeats 8000000 in
set_option maxRecDepth 100000 in
theorem rAskA (A : Option Addr) (c : Nat) (qs : List PT) (a b : ByteArray) (w : World) (hrow : PRow w A qs) (htab : PTabs 36 w qs) (hn : qs.length ≤ 1000) (hs : a.size ≤ 140737488355328) (hs2 : b.size ≤ 140737488355328) :
    Calls Tryd.prog 14 #[.slice A qs.length c, .int .i64 1, .string a, .string b] w (AnsEnd (firstA (fun T => addrA T a.data.toList b.data.toList) (tabsOf qs)) w) := by
  obtain ⟨ask, hask⟩ : ∃ ask : List KV → Ans, ask = fun T => addrA T a.data.toList b.data.toList := ⟨_, rfl⟩
  have HA : Hid (∀ (w1 : World) (b0 : Nat) (T : List KV), Below w.heap.size w w1 → TabAt 36 w1 b0 T → Good T → Calls Tryd.prog 35 #[.pointer (some ⟨b0, 0, none⟩), .string a, .string b] w1 (AnsEnd (ask T) w1)) := fun w1 b0 T _ ht hg => by
    rw [hask]
    have := rAsks ht hg.rise (by have := hg.few; omega)
    exact rAddress b0 T a b w1 this hs hs2
  rw [← hask]
  clear hask
  obtain ⟨fin, hfin⟩ : ∃ fin, fin = firstA ask (tabsOf qs) := ⟨_, rfl⟩
  have HF0 : Hid (firstA ask (tabsOf (qs.drop 0)) = fin) := by show _ = _; rw [hfin]; rfl
  rw [← hfin]
  clear hfin hs hs2
  have HR := Lib.hid hrow
  have HT := Lib.hid htab
  clear hrow htab
  go_enter Tryd.func14, Tryd.ntmps14
  go_wp2
  go_loopw [10, 11, 12] (fun n _ _ wr => ∃ k : Nat, k ≤ qs.length ∧ n = .int .i64 (k : Int) ∧ Hid (firstA ask (tabsOf (qs.drop k)) = fin) ∧ Hid (Below w.heap.size w wr)) (fun n _ _ _ => qs.length - (intOf n).toNat)
  case atStart => exact ⟨0, by omega, rfl, HF0, Below.refl _ _⟩
  case round =>
    clear HF0
    obtain ⟨k, hk, rfl, HG, HB⟩ := hrel
    by_cases hlt : k < qs.length
    · have hget : qs[k]? = some qs[k] := List.getElem?_eq_getElem hlt
      have i0 : (0 : Int) ≤ (k : Int) := by omega
      have i1 : (k : Int) < (qs.length : Int) := by omega
      obtain ⟨g, hA, hgl, hc⟩ := (HR.out.on HB.out) k _ hget
      subst hA
      have HM := Lib.hid (show qs[k] ∈ qs from List.getElem_mem hlt)
      cases ho : qs[k] with
      | none =>
        rw [ho] at hget hc
        have HG2 : Hid (firstA ask (tabsOf (qs.drop (k + 1))) = fin) := by show _ = _; rw [← tabs_none hget]; exact HG.out
        have c1 : wr.cell? ⟨g, k, none⟩ = some (.pointer none) := hc
        clear HG hc hget HM hgl ho
        go_wp2
        go_roundw
        case rel => exact ⟨k + 1, by omega, by go_num, HG2, HB⟩
        case measure => simp [intOf]; omega
      | some p =>
        obtain ⟨b0, T⟩ := p
        rw [ho] at hget hc HM
        have c1 : wr.cell? ⟨g, k, none⟩ = some (.pointer (some ⟨b0, 0, none⟩)) := hc
        obtain ⟨ht, hgd⟩ := (HT.out.on HB.out) b0 T HM.out
        have HC : Hid (Calls Tryd.prog 35 #[.pointer (some ⟨b0, 0, none⟩), .string a, .string b] wr (AnsEnd (ask T) wr)) := HA.out wr b0 T HB.out ht hgd
        have HG2 : Hid ((if (ask T).2 = true then ask T else firstA ask (tabsOf (qs.drop (k + 1)))) = fin) := by
          show _ = _
          rw [← HG.out, tabs_some hget]; rfl
        clear ht hgd HG hc hget HM hgl ho
        generalize ask T = r at HC HG2
        obtain ⟨av, ai⟩ := r
        cases ai
        · have HG3 : Hid (firstA ask (tabsOf (qs.drop (k + 1))) = fin) := by show _ = _; rw [← HG2.out, if_neg (by simp)]
          clear HG2
          go_wp2_with (first | (go_at_call 35; refine HC.out.mono ?_; rintro e w2 ⟨rfl, hb2⟩; refine Hid.out ?_) | fail)
          refine Lib.hid ?_
          have HB2 := Lib.hid (HB.out.trans (hb2.mono HB.out.size))
          clear hb2
          go_wp2
          go_roundw
          case rel => exact ⟨k + 1, by omega, by go_num, HG3, HB2⟩
          case measure => simp [intOf]; omega
        · have HG3 : Hid ((av, true) = fin) := by show _ = _; rw [← HG2.out, if_pos rfl]
          clear HG2
          go_wp2_with (first | (go_at_call 35; refine HC.out.mono ?_; rintro e w2 ⟨rfl, hb2⟩; refine Hid.out ?_) | fail)
          refine Lib.hid ?_
          have HB2 := Lib.hid (HB.out.trans (hb2.mono HB.out.size))
          clear hb2
          go_wp2
          go_ret2
          exact ⟨by rw [← HG3.out]; rfl, HB2.out⟩
    · have i1 : ¬ (k : Int) < (qs.length : Int) := by omega
      have HG3 : Hid (([], false) = fin) := by show _ = _; rw [← HG.out, List.drop_eq_nil_of_le (by omega)]; rfl
      clear HG
      go_wp2
      go_ret2
      exact ⟨by rw [← HG3.out]; rfl, HB.out⟩
set_option maxHeartbeats 8000000 in
set_option maxRecDepth 100000 in
theorem rAskD (A : Option Addr) (c : Nat) (qs : List PT) (a : ByteArray) (w : World) (hrow : PRow w A qs) (htab : PTabs 36 w qs) (hn : qs.length ≤ 1000) (hs : a.size ≤ 140737488355328) :
    Calls Tryd.prog 14 #[.slice A qs.length c, .int .i64 2, .string a, .string ⟨#[]⟩] w (AnsEnd (firstA (fun T => domA T a.data.toList) (tabsOf qs)) w) := by
  obtain ⟨ask, hask⟩ : ∃ ask : List KV → Ans, ask = fun T => domA T a.data.toList := ⟨_, rfl⟩
  have HA : Hid (∀ (w1 : World) (b0 : Nat) (T : List KV), Below w.heap.size w w1 → TabAt 36 w1 b0 T → Good T → Calls Tryd.prog 36 #[.pointer (some ⟨b0, 0, none⟩), .string a] w1 (AnsEnd (ask T) w1)) := fun w1 b0 T _ ht hg => by
    rw [hask]
    have := rAsks ht hg.rise (by have := hg.few; omega)
    exact rDomain b0 T a w1 this hs
  rw [← hask]
  clear hask
  obtain ⟨fin, hfin⟩ : ∃ fin, fin = firstA ask (tabsOf qs) := ⟨_, rfl⟩
  have HF0 : Hid (firstA ask (tabsOf (qs.drop 0)) = fin) := by show _ = _; rw [hfin]; rfl
  rw [← hfin]
  clear hfin hs
  have HR := Lib.hid hrow
  have HT := Lib.hid htab
  clear hrow htab
  go_enter Tryd.func14, Tryd.ntmps14
  go_wp2
  go_loopw [10, 11, 12] (fun n _ _ wr => ∃ k : Nat, k ≤ qs.length ∧ n = .int .i64 (k : Int) ∧ Hid (firstA ask (tabsOf (qs.drop k)) = fin) ∧ Hid (Below w.heap.size w wr)) (fun n _ _ _ => qs.length - (intOf n).toNat)
  case atStart => exact ⟨0, by omega, rfl, HF0, Below.refl _ _⟩
  case round =>
    clear HF0
    obtain ⟨k, hk, rfl, HG, HB⟩ := hrel
    by_cases hlt : k < qs.length
    · have hget : qs[k]? = some qs[k] := List.getElem?_eq_getElem hlt
      have i0 : (0 : Int) ≤ (k : Int) := by omega
      have i1 : (k : Int) < (qs.length : Int) := by omega
      obtain ⟨g, hA, hgl, hc⟩ := (HR.out.on HB.out) k _ hget
      subst hA
      have HM := Lib.hid (show qs[k] ∈ qs from List.getElem_mem hlt)
      cases ho : qs[k] with
      | none =>
        rw [ho] at hget hc
        have HG2 : Hid (firstA ask (tabsOf (qs.drop (k + 1))) = fin) := by show _ = _; rw [← tabs_none hget]; exact HG.out
        have c1 : wr.cell? ⟨g, k, none⟩ = some (.pointer none) := hc
        clear HG hc hget HM hgl ho
        go_wp2
        go_roundw
        case rel => exact ⟨k + 1, by omega, by go_num, HG2, HB⟩
        case measure => simp [intOf]; omega
      | some p =>
        obtain ⟨b0, T⟩ := p
        rw [ho] at hget hc HM
        have c1 : wr.cell? ⟨g, k, none⟩ = some (.pointer (some ⟨b0, 0, none⟩)) := hc
        obtain ⟨ht, hgd⟩ := (HT.out.on HB.out) b0 T HM.out
        have HC : Hid (Calls Tryd.prog 36 #[.pointer (some ⟨b0, 0, none⟩), .string a] wr (AnsEnd (ask T) wr)) := HA.out wr b0 T HB.out ht hgd
        have HG2 : Hid ((if (ask T).2 = true then ask T else firstA ask (tabsOf (qs.drop (k + 1)))) = fin) := by
          show _ = _
          rw [← HG.out, tabs_some hget]; rfl
        clear ht hgd HG hc hget HM hgl ho
        generalize ask T = r at HC HG2
        obtain ⟨av, ai⟩ := r
        cases ai
        · have HG3 : Hid (firstA ask (tabsOf (qs.drop (k + 1))) = fin) := by show _ = _; rw [← HG2.out, if_neg (by simp)]
          clear HG2
          go_wp2_with (first | (go_at_call 36; refine HC.out.mono ?_; rintro e w2 ⟨rfl, hb2⟩; refine Hid.out ?_) | fail)
          refine Lib.hid ?_
          have HB2 := Lib.hid (HB.out.trans (hb2.mono HB.out.size))
          clear hb2
          go_wp2
          go_roundw
          case rel => exact ⟨k + 1, by omega, by go_num, HG3, HB2⟩
          case measure => simp [intOf]; omega
        · have HG3 : Hid ((av, true) = fin) := by show _ = _; rw [← HG2.out, if_pos rfl]
          clear HG2
          go_wp2_with (first | (go_at_call 36; refine HC.out.mono ?_; rintro e w2 ⟨rfl, hb2⟩; refine Hid.out ?_) | fail)
          refine Lib.hid ?_
          have HB2 := Lib.hid (HB.out.trans (hb2.mono HB.out.size))
          clear hb2
          go_wp2
          go_ret2
          exact ⟨by rw [← HG3.out]; rfl, HB2.out⟩
    · have i1 : ¬ (k : Int) < (qs.length : Int) := by omega
      have HG3 : Hid (([], false) = fin) := by show _ = _; rw [← HG.out, List.drop_eq_nil_of_le (by omega)]; rfl
      clear HG
      go_wp2
      go_ret2
      exact ⟨by rw [← HG3.out]; rfl, HB.out⟩
end Go.Proofs.YtbgdohggdaoojaaDoor.Table
