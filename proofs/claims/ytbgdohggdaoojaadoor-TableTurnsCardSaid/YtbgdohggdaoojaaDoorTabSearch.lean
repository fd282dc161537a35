/-
  TABLE, the program: the search; Exact, on both sides.
-/
import Derived.Test.YtbgdohggdaoojaaDoorTabPlace
import Derived.Test.YtbgdohggdaoojaaDoorShelf
import Derived.Deep.RegionHeld3
namespace Go.Proofs.YtbgdohggdaoojaaDoor.Table
open Go.RowKit Base
theorem cmp_less : ∀ (a b : List UInt8), (Lib.compareBytes a b < 0) = (a < b)
  | [], [] => by simp [Lib.compareBytes]
  | [], _ :: _ => by simp [Lib.compareBytes]
  | _ :: _, [] => by simp [Lib.compareBytes]
  | x :: a, y :: b => by
    have ih := cmp_less a b
    unfold Lib.compareBytes
    rw [eq_iff_iff, List.cons_lt_cons_iff]
    by_cases h1 : x < y
    · simp [h1]
    · by_cases h2 : y < x
      · have : x ≠ y := fun e => by subst e; exact absurd h2 (by simp)
        simp [h1, h2, this]
      · have : x = y := UInt8.le_antisymm (UInt8.not_lt.1 h2) (UInt8.not_lt.1 h1)
        simp [this, ih]
theorem cmp_same : ∀ (a b : List UInt8), (Lib.compareBytes a b = 0) = (a = b)
  | [], [] => by simp [Lib.compareBytes]
  | [], _ :: _ => by simp [Lib.compareBytes]
  | _ :: _, [] => by simp [Lib.compareBytes]
  | x :: a, y :: b => by
    have ih := cmp_same a b
    unfold Lib.compareBytes
    by_cases h1 : x < y
    · have : x ≠ y := fun e => by subst e; exact absurd h1 (by simp)
      simp [h1, this]
    · by_cases h2 : y < x
      · have : x ≠ y := fun e => by subst e; exact absurd h2 (by simp)
        simp [h1, h2, this]
      · have : x = y := UInt8.le_antisymm (UInt8.not_lt.1 h2) (UInt8.not_lt.1 h1)
        simp [this, ih]
def CmpEnd (a b : List UInt8) (w : World) (e : Ending) (w' : World) : Prop := e = .returned (.int .i64 (Lib.compareBytes a b)) ∧ Below w.heap.size w w'
/-- .. its value under a name. -/
theorem cmp_any {f : FuncId} {args : Array Value} {a b : List UInt8} (h : ∀ w, Calls Tryd.prog f args w (CmpEnd a b w)) : ∃ r : Int, (r < 0 ↔ a < b) ∧ (r = 0 ↔ a = b) ∧ ∀ w, Calls Tryd.prog f args w fun e w' => e = .returned (.int .i64 r) ∧ Below w.heap.size w w' :=
  ⟨Lib.compareBytes a b, by rw [cmp_less], by rw [cmp_same], h⟩
set_option maxHeartbeats 1000000 in
theorem pCmp (k v : List UInt8) (key : ByteArray) (w : World) : Calls Tryd.prog 44 #[.agg #[S k, S v], .string key] w (CmpEnd k key.data.toList w) := by
  have HC := Lib.hid (fun w => Tryd.strings_Compare ⟨k.toArray⟩ key w)
  go_enter Tryd.func44, Tryd.ntmps44
  go_wp2_with (first | (go_at_call 45; refine (HC.out _).mono ?_; rintro e w' ⟨rfl, rfl⟩; refine Hid.out ?_) | fail)
  refine Lib.hid ?_
  go_wp2
  go_ret
  exact ⟨rfl, Below.alloc1 _ _⟩
def SearchEnd (T : List KV) (key : List UInt8) (w : World) (e : Ending) (w' : World) : Prop := e = .returned (.tuple #[.int .i64 (posOf T key : Int), .bool (hasOf T key)]) ∧ Below w.heap.size w w'
set_option maxHeartbeats 4000000 in
set_option maxRecDepth 100000 in
theorem pSearch (v : Value) (T : List KV) (key : ByteArray) (w : World) (h : Rows2 w v T) (hr : Rising T) (hn : T.length ≤ 1000000) : Calls Tryd.prog 42 #[v, .string key, .func (.func 44) #[] #[]] w (SearchEnd T key.data.toList w) := by
  obtain ⟨a, c, rfl, hlc⟩ := h.form
  have HROW := Lib.hid h
  have HR := Lib.hid hr
  have HC := Lib.hid (fun k v w => pCmp k v key w)
  clear h hr
  go_enter Tryd.func42, Tryd.ntmps42
  go_wp2
  go_loopw [9, 10] (fun x y wr => ∃ lo hi : Nat, x = .int .i64 lo ∧ y = .int .i64 hi ∧ Sought T key.data.toList lo hi ∧ Below w.heap.size w wr) (fun x y _ => (intOf y).toNat - (intOf x).toNat)
  case atStart => exact ⟨0, T.length, rfl, rfl, Sought.start _ _, Below.refl _ _⟩
  case round =>
    obtain ⟨lo, hi, rfl, rfl, hs, hbw⟩ := hrel
    have hle := hs.le
    have htop := hs.top
    have HS := Lib.hid hs
    have HBW := Lib.hid hbw
    have HROW2 := Lib.hid (HROW.out.on hbw)
    clear hs hbw
    by_cases hlt : lo < hi
    · have i1 : (lo : Int) < (hi : Int) := by omega
      obtain ⟨m, hm⟩ : ∃ m : Nat, ((lo : Int) + (hi : Int)) / 2 = (m : Int) := ⟨(lo + hi) / 2, by omega⟩
      have hm1 : lo ≤ m := by omega
      have hm2 : m < hi := by omega
      have j0 : (0 : Int) ≤ (m : Int) := by omega
      have j1 : (m : Int) < (T.length : Int) := by omega
      obtain ⟨p, hp⟩ : ∃ p, T[m]? = some p := ⟨T[m], List.getElem?_eq_getElem (by omega)⟩
      obtain ⟨gb, go_, rfl, c1, c2⟩ := HROW2.out.cell hp
      obtain ⟨r, r1, _, r3⟩ := cmp_any (fun w => HC.out p.1 p.2 w)
      have HC2 := Lib.hid r3
      clear r3
      by_cases hk : p.1 < key.data.toList
      · have HS2 := Lib.hid (HS.out.up HR.out hm2 hp hk)
        have e1 : r < 0 := r1.2 hk
        clear hk hp r1
        go_wp2_with fail
        refine (HC2.out _).mono ?_
        rintro e w1 ⟨rfl, hb1⟩
        have HB1 := Lib.hid (HBW.out.trans (hb1.mono HBW.out.size))
        clear hb1
        go_wp2_with fail
        go_roundw
        case rel => exact ⟨m + 1, hi, by go_num, rfl, HS2.out, HB1.out⟩
        case measure => simp [intOf]; omega
      · have HS2 := Lib.hid (HS.out.down HR.out hm1 hm2 hp hk)
        have e1 : ¬ r < 0 := fun h => hk (r1.1 h)
        clear hk hp r1
        go_wp2_with fail
        refine (HC2.out _).mono ?_
        rintro e w1 ⟨rfl, hb1⟩
        have HB1 := Lib.hid (HBW.out.trans (hb1.mono HBW.out.size))
        clear hb1
        go_wp2_with fail
        go_roundw
        case rel => exact ⟨lo, m, rfl, by first | rfl | rw [hm], HS2.out, HB1.out⟩
        case measure => simp [intOf]; omega
    · obtain rfl : lo = hi := by omega
      have HP := Lib.hid HS.out.fin
      have j0 : (0 : Int) ≤ (lo : Int) := by omega
      have i1 : ¬ (lo : Int) < (lo : Int) := by omega
      by_cases hl : lo < T.length
      · have j1 : (lo : Int) < (T.length : Int) := by omega
        obtain ⟨p, hp⟩ : ∃ p, T[lo]? = some p := ⟨T[lo], List.getElem?_eq_getElem hl⟩
        obtain ⟨gb, go_, rfl, c1, c2⟩ := HROW2.out.cell hp
        have HH : Hid (hasOf T key.data.toList = (p.1 == key.data.toList)) := by show _ = _; unfold hasOf; rw [HP.out, hp]
        obtain ⟨r, _, r2, r3⟩ := cmp_any (fun w => HC.out p.1 p.2 w)
        have HC2 := Lib.hid r3
        clear hp r3
        cases hk : p.1 == key.data.toList
        · have e2 : (r == 0) = false := by rw [beq_eq_false_iff_ne]; intro h; rw [r2.1 h] at hk; simp at hk
          rw [hk] at HH
          clear hk r2
          go_wp2_with fail
          refine (HC2.out _).mono ?_
          rintro e w1 ⟨rfl, hb1⟩
          have HB1 := Lib.hid (HBW.out.trans (hb1.mono HBW.out.size))
          clear hb1
          go_wp2_with fail
          go_ret2
          exact ⟨by rw [HP.out, HH.out]; rfl, HB1.out⟩
        · have e2 : (r == 0) = true := by rw [beq_iff_eq]; exact r2.2 (by simpa using hk)
          rw [hk] at HH
          clear hk r2
          go_wp2_with fail
          refine (HC2.out _).mono ?_
          rintro e w1 ⟨rfl, hb1⟩
          have HB1 := Lib.hid (HBW.out.trans (hb1.mono HBW.out.size))
          clear hb1
          go_wp2_with fail
          go_ret2
          exact ⟨by rw [HP.out, HH.out]; rfl, HB1.out⟩
      · have j1 : ¬ (lo : Int) < (T.length : Int) := by omega
        have HH : Hid (hasOf T key.data.toList = false) := by show _ = _; unfold hasOf; rw [HP.out, List.getElem?_eq_none (by omega)]
        go_wp2_with fail
        go_ret2
        exact ⟨by rw [HP.out, HH.out]; rfl, HBW.out⟩
end Go.Proofs.YtbgdohggdaoojaaDoor.Table
