/-
  TABLE, the statement's own: a text is read as the document says: the walk, where there is a table.
-/
import Derived.Test.YtbgdohggdaoojaaDoorTabWal
namespace Go.Proofs.YtbgdohggdaoojaaDoor.Table
open Go.RowKit Base
theorem run_vals : ∀ (es : List Ent) (a c : Nat) (T : List KV), (∀ p ∈ T, p.2.length ≤ 1000) → ∀ p ∈ (runE es a c T).1, p.2.length ≤ 1000
  | [], a, c, T, h => h
  | e :: r, a, c, T, h => by
    rw [runE]
    split
    · split
      · rename_i hw
        refine run_vals r a c _ fun p hp => ?_
        unfold insKV at hp
        rcases List.mem_append.1 hp with hp | hp
        · exact h p (List.mem_of_mem_take hp)
        · rcases List.mem_cons.1 hp with rfl | hp
          · unfold wrongE at hw
            split at hw
            · omega
            · omega
          · exact h p (List.mem_of_mem_drop hp)
      · exact run_vals r _ _ T h
    · exact h
theorem parse_vals (l : List UInt8) : ∀ p ∈ (parseOf l).1, p.2.length ≤ 1000 := by
  unfold parseOf
  split
  · intro p hp; simp at hp
  · exact run_vals _ _ _ [] (fun p hp => by simp at hp)
structure InvT (w wr : World) (b c : Nat) (T : List KV) : Prop where
  bel : Below w.heap.size w wr
  tb : TabAt 82 wr b T
  tc : TabAt 36 wr c T
theorem InvT.on {w wr w2 : World} {b c : Nat} {T : List KV} (h : InvT w wr b c T) (hb : Below wr.heap.size wr w2) : InvT w w2 b c T := ⟨h.bel.trans (hb.mono h.bel.size), h.tb.on hb, h.tc.on hb⟩
set_option maxHeartbeats 16000000 in
set_option maxRecDepth 100000 in
theorem wParsesYes (s : ByteArray) (qa : Option Addr) (n qc : Nat) (w : World) (hm : MaxOk w) (hc : (parseOf s.data.toList).2.1 = 0) (hq : QS w qa n) :
    Calls Tryd.prog 3 #[.string s, .slice qa n qc] w fun e w' => e = .returned (.bool true) ∧ Below w.heap.size w w' := by
  obtain ⟨T, hT⟩ : ∃ T, (parseOf s.data.toList).1 = T := ⟨_, rfl⟩
  have hg : Good T := by rw [← hT]; exact parse_good _ hc
  have hv : ∀ p ∈ T, p.2.length ≤ 1000 := by rw [← hT]; exact parse_vals _
  have HS := Lib.hid (pShown w hm)
  have HR : Hid (∀ w1, Calls Tryd.prog 7 #[.string s] w1 fun e w' => ∃ b, e = .returned (.tuple #[.pointer (some ⟨b, 0, none⟩), .agg #[.int .i64 0, .int .i64 0]]) ∧ TabAt 36 w' b T ∧ Below w1.heap.size w1 w') := fun w1 => by rw [← hT]; exact rParseYes s w1 hc
  have HP : Hid (∀ w1, Below w.heap.size w w1 → Calls Tryd.prog 8 #[.string s] w1 fun e w' => ∃ b, e = .returned (.tuple #[.pointer (some ⟨b, 0, none⟩), .agg #[.int .i64 0, .int .i64 0]]) ∧ TabAt 82 w' b T ∧ Below w1.heap.size w1 w') := fun w1 h => pParseYes s T w1 (hm.on h) ⟨hT, hc⟩
  have hn2 : T.length ≤ 1000000 := by have := hg.few; omega
  have HSM : Hid (∀ (w1 : World) (b c : Nat) (k l d : ByteArray), InvT w w1 b c T → k.size ≤ 140737488355328 → l.size ≤ 140737488355328 → d.size ≤ 140737488355328 → Calls Tryd.prog 11 #[.pointer (some ⟨b, 0, none⟩), .pointer (some ⟨c, 0, none⟩), .agg #[.string k, .string l, .string d]] w1 fun e w' => e = .returned (.bool true) ∧ Below w1.heap.size w1 w') :=
    by
      intro w1 b c k l d h h1 h2 h3
      have e1 := pAsks h.tb hg.rise hg.short hn2
      have e2 := rAsks h.tc hg.rise hn2
      exact pSame b c T k l d w1 e1 e2 h1 h2 h3
  have HSH : Hid (∀ p ∈ T, p.1.length ≤ 320 ∧ p.2.length ≤ 1000) := fun p hp => ⟨hg.short p hp, hv p hp⟩
  have HQ := Lib.hid hq
  have HAT : Hid (∀ (w1 : World) (b k : Nat) (p : KV), TabAt 82 w1 b T → T[k]? = some p → Calls Tryd.prog 10 #[.pointer (some ⟨b, 0, none⟩), .int .i64 (k : Int)] w1 fun e w' => e = .returned (.tuple #[S p.1, S p.2, .bool true]) ∧ Below w1.heap.size w1 w') := fun w1 b k p h hp => pAt b T k p w1 h hp hn2
  have HAH : Hid (∀ (w1 : World) (b : Nat), TabAt 82 w1 b T → Calls Tryd.prog 10 #[.pointer (some ⟨b, 0, none⟩), .int .i64 (T.length : Int)] w1 fun e w' => e = .returned (.tuple #[.string ⟨#[]⟩, .string ⟨#[]⟩, .bool false]) ∧ Below w1.heap.size w1 w') := fun w1 b h => pAtHigh b T w1 h hn2
  clear hT hg hv hm hc hq
  go_enter Tryd.func3, Tryd.ntmps3
  go_wp2_with (first | (go_at_call 6; refine HS.out.mono ?_; rintro e w1 ⟨rfl, hb1⟩; refine Hid.out ?_) | fail)
  refine Lib.hid ?_
  have HB1 := Lib.hid hb1
  clear hb1
  go_wp2_with (first | (go_at_call 7; refine (HR.out _).mono ?_; rintro e w2 ⟨c, rfl, ht2, hb2⟩; refine Hid.out ?_) | fail)
  refine Lib.hid ?_
  have HB2 := Lib.hid (HB1.out.trans (hb2.mono HB1.out.size))
  have HT2 := Lib.hid ht2
  clear hb2 ht2
  have HB3 : Hid (Below w.heap.size w (w2.alloc (.cells #[.int .i64 0, .int .i64 0] 27))) := HB2.out.trans ((Below.alloc1 w2 _).mono HB2.out.size)
  go_wp2_with (first | (go_at_call 8; refine (HP.out _ HB3.out).mono ?_; rintro e w4 ⟨b, rfl, ht4, hb4⟩; refine Hid.out ?_) | fail)
  refine Lib.hid ?_
  have HB4 := Lib.hid (HB3.out.trans (hb4.mono HB3.out.size))
  have HX : Hid (box27 w4 w2.heap.size (0, 0)) := box27.on (w := w2.alloc (.cells #[.int .i64 0, .int .i64 0] 27)) (by show (w2.heap.push _)[w2.heap.size]? = _; simp) hb4
  have HY : box27 (w4.alloc (.cells #[.int .i64 0, .int .i64 0] 27)) w2.heap.size (0, 0) := HX.out.on (Below.alloc1 _ _)
  have x0 : (w4.alloc (.cells #[.int .i64 0, .int .i64 0] 27)).cell? ⟨w2.heap.size, 0, none⟩ = some (.int .i64 0) := cell_of_row _ _ 0 _ _ _ HY
  have x1 : (w4.alloc (.cells #[.int .i64 0, .int .i64 0] 27)).cell? ⟨w2.heap.size, 1, none⟩ = some (.int .i64 0) := cell_of_row _ _ 1 _ _ _ HY
  have HI : Hid (InvT w (w4.alloc (.cells #[.int .i64 0, .int .i64 0] 27)) b c T) := ⟨HB4.out.trans ((Below.alloc1 w4 _).mono HB4.out.size), ht4.on (Below.alloc1 _ _), ((HT2.out.on (Below.alloc1 _ _)).on hb4).on (Below.alloc1 _ _)⟩
  clear hb4 HY HX ht4 HB1 HB2 HB3 HB4 HT2
  go_upto_region 8 with fail
  clear x0 x1
  revert HI
  generalize w4.alloc (.cells #[.int .i64 0, .int .i64 0] 27) = w5
  intro HI
  obtain ⟨ra, rc, r1, r2, r3⟩ := HI.out.tc.cell
  have HL : Hid (∀ m, Calls Tryd.prog 9 #[.pointer (some ⟨b, 0, none⟩)] (w5.drewN m) fun e w' => e = .returned (.int .i64 (T.length : Int)) ∧ w5.drewN m = w') := fun m => pLen b T _ (HI.out.tb.drewN m)
  clear r3
  go_quiet ((exact (HL.out _).mono fun _ _ h => ⟨h.1, _, h.2.symm⟩))
  go_wp2
  go_loopw [10, 11, 12, 13, 14] (fun i _ _ _ _ wr => ∃ k : Nat, k ≤ T.length ∧ i = .int .i64 (k : Int) ∧ Hid (InvT w wr b c T)) (fun i _ _ _ _ _ => T.length - (intOf i).toNat)
  case atStart => exact ⟨0, by omega, rfl, HI.out.on (bel_drewN _ _ (Nat.le_refl _))⟩
  case round =>
    obtain ⟨k, hk, rfl, HJ⟩ := hrel
    clear HI r1 r2 HL
    obtain ⟨ra, rc, r1, r2, r3⟩ := HJ.out.tc.cell
    by_cases hlt : k < T.length
    · obtain ⟨p, hp⟩ : ∃ p, T[k]? = some p := ⟨_, List.getElem?_eq_getElem hlt⟩
      have HPQ := Lib.hid (HSH.out p (List.mem_of_getElem? hp))
      have HA := Lib.hid (HAT.out wr b k p HJ.out.tb hp)
      have i1 : (k : Int) < (T.length : Int) := by omega
      have i0 : (0 : Int) ≤ (k : Int) := by omega
      have HPP := Lib.hid hp
      clear hp r3
      go_wp2_with (first | (go_at_call 10; refine HA.out.mono ?_; rintro e w6 ⟨rfl, hb6⟩; refine Hid.out ?_) | fail)
      refine Lib.hid ?_
      have HJ6 := Lib.hid (HJ.out.on hb6)
      clear hb6 r1 r2 HA HJ
      obtain ⟨ra6, rc6, r1, r2, r3⟩ := HJ6.out.tc.cell
      obtain ⟨gb, o, hra, r4, r5⟩ := r3.cell HPP.out
      subst hra
      clear r3
      have HS6 : Hid (Calls Tryd.prog 11 #[.pointer (some ⟨b, 0, none⟩), .pointer (some ⟨c, 0, none⟩), .agg #[S p.1, S p.1, S p.2]] w6 fun e w' => e = .returned (.bool true) ∧ Below w6.heap.size w6 w') := by
        have h1 := HPQ.out.1
        have h2 := HPQ.out.2
        exact HSM.out w6 b c ⟨p.1.toArray⟩ ⟨p.1.toArray⟩ ⟨p.2.toArray⟩ HJ6.out (by show p.1.length ≤ _; omega) (by show p.1.length ≤ _; omega) (by show p.2.length ≤ _; omega)
      go_wp2_with (first | (go_at_call 11; refine HS6.out.mono ?_; rintro e w7 ⟨rfl, hb7⟩; refine Hid.out ?_) | fail)
      refine Lib.hid ?_
      have HJ7 := Lib.hid (HJ6.out.on hb7)
      clear hb7 r1 r2 r4 r5 HJ6 HS6
      go_wp2
      go_roundw
      case rel => exact ⟨k + 1, by omega, by go_num, HJ7⟩
      case measure => simp [intOf]; omega
    · obtain rfl : k = T.length := by omega
      have i1 : ¬ (T.length : Int) < (T.length : Int) := by omega
      clear r3
      go_wp2
      clear r1 r2
      go_loopw [15, 16] (fun i _ wr2 => ∃ j : Nat, j ≤ n ∧ j ≤ 100 ∧ i = .int .i64 (j : Int) ∧ Hid (InvT w wr2 b c T)) (fun i _ _ => 100 - (intOf i).toNat)
      case atStart => exact ⟨0, by omega, by omega, rfl, HJ⟩
      case round =>
        clear HJ
        obtain ⟨j, hj, hj2, rfl, HJ⟩ := hrel
        by_cases hlt : j < n ∧ j < 100
        · obtain ⟨gb, o, kk, ll, dd, hqa, q1, q2, q3, q4, q5, q6, q7⟩ := (HQ.out.on HJ.out.bel) j hlt.1
          subst hqa
          have i3 : (j : Int) < (n : Int) := by omega
          have i4 : (j : Int) < 100 := by omega
          have i0 : (0 : Int) ≤ (j : Int) := by omega
          have HS6 := Lib.hid (HSM.out _ b c kk ll dd HJ.out q5 q6 q7)
          clear q4 q5 q6 q7
          go_wp2_with (first | (go_at_call 11; refine HS6.out.mono ?_; rintro e w7 ⟨rfl, hb7⟩; refine Hid.out ?_) | fail)
          refine Lib.hid ?_
          have HJ7 := Lib.hid (HJ.out.on hb7)
          clear hb7 q1 q2 q3 HJ HS6
          go_wp2
          go_roundw
          case rel => exact ⟨j + 1, by omega, by omega, by go_num, HJ7⟩
          case measure => simp [intOf]; omega
        · by_cases hn : j < n
          · have i3 : (j : Int) < (n : Int) := by omega
            have i4 : ¬ (j : Int) < 100 := by omega
            have HLO := Lib.hid (pAtLow b T _ HJ.out.tb)
            go_wp2_with (first | (go_at_call 10; refine HLO.out.mono ?_; rintro e w8 ⟨rfl, hb8⟩; refine Hid.out ?_) | fail)
            refine Lib.hid ?_
            have HJ8 := Lib.hid (HJ.out.on hb8)
            clear hb8 HLO HJ
            obtain ⟨ra8, rc8, r1, r2, r3⟩ := HJ8.out.tc.cell
            have HHI := Lib.hid (HAH.out _ b HJ8.out.tb)
            clear r3
            go_wp2_with (first | (go_at_call 10; refine HHI.out.mono ?_; rintro e w9 ⟨rfl, hb9⟩; refine Hid.out ?_) | fail)
            refine Lib.hid ?_
            have HJ9 := Lib.hid (HJ8.out.on hb9)
            clear hb9 r1 r2 HHI HJ8
            go_wp2
            go_ret
            exact ⟨rfl, HJ9.out.bel⟩
          · have i3 : ¬ (j : Int) < (n : Int) := by omega
            have HLO := Lib.hid (pAtLow b T _ HJ.out.tb)
            go_wp2_with (first | (go_at_call 10; refine HLO.out.mono ?_; rintro e w8 ⟨rfl, hb8⟩; refine Hid.out ?_) | fail)
            refine Lib.hid ?_
            have HJ8 := Lib.hid (HJ.out.on hb8)
            clear hb8 HLO HJ
            obtain ⟨ra8, rc8, r1, r2, r3⟩ := HJ8.out.tc.cell
            have HHI := Lib.hid (HAH.out _ b HJ8.out.tb)
            clear r3
            go_wp2_with (first | (go_at_call 10; refine HHI.out.mono ?_; rintro e w9 ⟨rfl, hb9⟩; refine Hid.out ?_) | fail)
            refine Lib.hid ?_
            have HJ9 := Lib.hid (HJ8.out.on hb9)
            clear hb9 r1 r2 HHI HJ8
            go_wp2
            go_ret
            exact ⟨rfl, HJ9.out.bel⟩
/-- What the statement's function answers. -/
theorem wParses (s : ByteArray) (qa : Option Addr) (n qc : Nat) (w : World) (hm : MaxOk w) (hq : QS w qa n) :
    Calls Tryd.prog 3 #[.string s, .slice qa n qc] w fun e w' => e = .returned (.bool true) ∧ Below w.heap.size w w' := by
  by_cases hc : (parseOf s.data.toList).2.1 = 0
  · exact wParsesYes s qa n qc w hm hc hq
  · exact wParsesNo s qa n qc w hm hc
end Go.Proofs.YtbgdohggdaoojaaDoor.Table
