/-
  LINES, LinesBack: the walk.
-/
import Derived.Test.YtgiooblopdoobaaLpBackB
namespace Go.Proofs.Ytgiooblopdoobaa.Lines
open Go.RowKit Base
set_option maxHeartbeats 16000000 in
set_option maxRecDepth 100000 in
theorem backGood (v : Value) (l : List UInt8) (w : World) (hr : Reads w v l) (hl : l.length ≤ 140737488351232) (hc : codeOf l = 0) :
    Calls Try.prog 6 #[v] w fun e w' => e = .returned (.bool true) ∧ Below w.heap.size w w' := by
  have HSH := Lib.hid (pShown w)
  have HR := Lib.hid hr
  have HC := Lib.hid hc
  have HSL : Hid ((stuffOf l).length ≤ 190000000000000) := by
    have := out_len l hl
    unfold outOf at this
    rwa [if_pos hc] at this
  have HPS : Hid (∀ w1, Below w.heap.size w w1 → Calls Try.prog 16 #[v] w1 (fun e w' => ∃ u, e = .returned (.tuple #[u, .int .i64 0]) ∧ Owns w' w1.heap.size u (stuffOf l) ∧ Below w1.heap.size w1 w')) := fun w1 hb => by
    refine (pStuff (hr.on hb) hl).mono fun e w' h => ?_
    obtain ⟨h1, ⟨h2, _⟩ | ⟨_, u, h2, h3⟩⟩ := h
    · exact absurd hc h2
    · exact ⟨u, h2, h3, h1⟩
  obtain ⟨A1, q1, rfl⟩ := hr.form
  obtain ⟨n, hn⟩ : ∃ n, n = l.length := ⟨_, rfl⟩
  rw [← hn] at HR HPS hl ⊢
  have HN := Lib.hid hn
  clear hr hc hn
  go_enter Try.func6, Try.ntmps6
  go_wp2_with (first | (go_at_call 7; refine HSH.out.mono ?_; rintro e w1 ⟨rfl, hb1⟩; refine Hid.out ?_) | fail)
  refine Lib.hid ?_
  have HB1 := Lib.hid hb1
  clear hb1 HSH
  go_wp2_with (first | (go_at_call 16; refine (HPS.out _ HB1.out).mono ?_; rintro e w2 ⟨u2, rfl, ho2, hb2⟩; refine Hid.out ?_) | fail)
  refine Lib.hid ?_
  have HB2 : Hid (Below w.heap.size w w2) := HB1.out.trans (hb2.mono HB1.out.size)
  have HO2 := Lib.hid ho2
  have HNW := Lib.hid (pNewYes 999 w2 (by omega) (by omega))
  clear hb2 ho2 HPS
  go_wp2_with (first | (go_at_call 8; refine HNW.out.mono ?_; rintro e w3 ⟨g, rfl, hb3, hg1, hg2, hp3⟩; refine Hid.out ?_) | fail)
  refine Lib.hid ?_
  have HB3 : Hid (Below w.heap.size w w3) := HB2.out.trans (hb3.mono HB2.out.size)
  have HG3 : Hid (w.heap.size ≤ g) := Nat.le_trans HB2.out.size hg1
  have HFE := Lib.hid (pFeed g (.slice none 0 0) u2 999 0 [] (stuffOf l) w3 hp3 (HO2.out.on hb3).reads (Or.inr ⟨rfl, by have := HSL.out; omega⟩))
  have HGL : Hid (g < w3.heap.size) := hg2
  clear hb3 hg1 hg2 hp3 HO2 HNW HB1 HB2
  go_wp2_with (first | (go_at_call 10; refine HFE.out.mono ?_; rintro e w4 ⟨rfl, hk4, v4, hp4, hs4⟩; refine Hid.out ?_) | fail)
  refine Lib.hid ?_
  obtain ⟨n4, hn4⟩ : ∃ n4, n4 = w4.heap.size := ⟨_, rfl⟩
  have HN4 := Lib.hid hn4
  have HB4 : Hid (Below w.heap.size w w4) := HB3.out.trans (hk4.below HG3.out (NewV.nil _) HB3.out.size)
  have hv4 : NewV w.heap.size v4 := (NewV.nil _).next hs4 HB3.out.size
  have HVB : Hid (∀ b, v4.ownBlock = some b → w.heap.size ≤ b ∧ b < n4) := fun b hb => ⟨hv4 b hb, by rw [hn4]; exact (hp4.2.1.ge b hb).2⟩
  have HGN : Hid (g < n4) := by show g < n4; rw [hn4]; exact Nat.lt_of_lt_of_le HGL.out hk4.size
  have HP4 : Hid (PdAt w4 g v4 999 0 (stuffOf l)) := by show PdAt _ _ _ _ _ _; simpa using hp4
  have HW4 : Hid (w.heap.size ≤ n4) := by show _ ≤ n4; rw [hn4]; exact HB4.out.size
  clear hk4 hp4 hs4 hv4 hn4 HFE HB3 HGL
  go_wp2
  go_loopw [8, 9] (fun ov iv wr => ∃ (k : Nat) (q rest : List UInt8) (vr vo : Value), iv = .int .i64 (k : Int) ∧ ov = vo ∧ Hid (2 * k ≤ q.length) ∧ Hid (q ++ rest = l) ∧ Hid (codeOf rest = 0) ∧ Hid (Owns wr n4 vo q) ∧ Hid (PdAt wr g vr 999 0 (stuffOf rest)) ∧ Hid (vr.ownBlock = v4.ownBlock) ∧ Hid (Below w.heap.size w wr) ∧ Hid (n4 ≤ wr.heap.size)) (fun _ iv _ => n + 1 - (intOf iv).toNat)
  case atStart => exact ⟨0, [], l, v4, .slice none 0 0, rfl, rfl, by show 2 * 0 ≤ _; omega, rfl, HC.out, owns_nil _ _, HP4.out, rfl, HB4.out, by show n4 ≤ _; rw [HN4.out]; exact Nat.le_refl _⟩
  case round =>
    clear HP4 HB4 HN4
    obtain ⟨k, q, rest, vr, vo, rfl, hov, hk, hq, hcr, hoo, hpr, hvr, hbr, hnr⟩ := hrel
    obtain rfl : vo = _ := hov.symm
    have hkn : k ≤ n := by
      have h1 := hk.out
      have h2 := congrArg List.length hq.out
      rw [List.length_append, ← HN.out] at h2
      omega
    have i1 : (k : Int) ≤ (n : Int) := by omega
    have hrl : (stuffOf rest).length ≤ 200000000000000 := by
      have h2 := congrArg List.length hq.out
      rw [List.length_append, ← HN.out] at h2
      have h3 := stuff_len hcr.out
      unfold stuffOf
      rw [List.length_append]
      simp only [List.length_cons, List.length_nil]
      omega
    have HNX := Lib.hid (pNext g vr 999 0 (stuffOf rest) wr hrl hpr.out (Nat.zero_le _))
    have HVR : Hid (∀ b, vr.ownBlock = some b → w.heap.size ≤ b ∧ b < n4) := fun b hb => HVB.out b (by rw [← hvr.out]; exact hb)
    clear hrl hkn
    by_cases h0 : rest = []
    · subst h0
      have HNX2 : Hid (Calls Try.prog 12 #[.pointer (some ⟨g, 0, none⟩)] wr fun e w' => ∃ u v', e = .returned (.tuple #[u, .int .i64 0, .bool true]) ∧ Owns w' wr.heap.size u [46] ∧ KeepR g vr wr w' ∧ PdAt w' g v' 999 0 [] ∧ v'.ownBlock = vr.ownBlock) := by
        refine HNX.out.mono fun e w' h => ?_
        have e1 : endOf (stuffOf []) < (stuffOf []).length := by decide
        have e2 : lineTold 999 ((stuffOf []).take (endOf (stuffOf []))) = ([46], 0) := by kernel_rfl
        have e3 : (stuffOf []).drop (endOf (stuffOf []) + 1) = [] := by kernel_rfl
        unfold PNextEnd at h
        rw [if_pos e1, e2, e3] at h
        exact h
      have hql : q = l := by have := hq.out; rwa [List.append_nil] at this
      clear HNX hq hcr hpr hk
      go_wp2_with (first | (go_at_call 12; refine HNX2.out.mono ?_; rintro e w5 ⟨u5, v5, rfl, ho5, hk5, hp5, hs5⟩; refine Hid.out ?_) | fail)
      refine Lib.hid ?_
      have HO5 : Hid (Owns w5 n4 vo q) := Owns.keptR hoo.out hk5 HGN.out (fun b hb => (HVR.out b hb).2)
      have HB5 : Hid (Below w.heap.size w w5) := hbr.out.trans (hk5.below HG3.out (fun b hb => (HVR.out b hb).1) hbr.out.size)
      have HP5 := Lib.hid hp5
      have HDT : Hid (Calls Try.prog 19 #[u5] w5 (DotEnd ([], true) w5)) := pDotted ho5.reads (by decide)
      clear ho5 hk5 hp5 hs5 HNX2
      go_wp2_with (first | (go_at_call 19; refine HDT.out.mono ?_; rintro e w6 ⟨c6, rfl, ho6, hb6⟩; refine Hid.out ?_) | fail)
      refine Lib.hid ?_
      have HB6 : Hid (Below w.heap.size w w6) := HB5.out.trans (hb6.mono HB5.out.size)
      have hq1 : (convert 32 9 vo).run Try.prog w6 = .ok (.string ⟨l.toArray⟩) w6 := by
        rw [← hql]; exact conv_reads (HO5.out.on hb6).reads
      have hq2 := conv_reads (HR.out.on HB6.out)
      have HLE : Hid (Calls Try.prog 14 #[.pointer (some ⟨g, 0, none⟩)] w6 fun e w' => e = .returned (.int .i64 0) ∧ w6 = w') :=
        pLeft g v5 999 0 [] w6 (HP5.out.on hb6.size (hb6.block g (heap_lt HP5.out.1)) (fun b hb => hb6.block b (HP5.out.2.1.ge b hb).2))
      clear ho6 hb6 HDT HB5 HO5 HP5 hql
      go_wp2_with (first | (go_at_call 14; refine HLE.out.mono ?_; rintro e w7 ⟨rfl, rfl⟩; refine Hid.out ?_) | fail)
      refine Lib.hid ?_
      go_wp2
      go_ret
      exact ⟨rfl, HB6.out⟩
    · obtain ⟨y, r', h1, h2, h3, h4, h5, h6, h7⟩ := back_step hcr.out h0
      have HNX2 : Hid (Calls Try.prog 12 #[.pointer (some ⟨g, 0, none⟩)] wr fun e w' => ∃ u v', e = .returned (.tuple #[u, .int .i64 0, .bool true]) ∧ Owns w' wr.heap.size u (dz y) ∧ KeepR g vr wr w' ∧ PdAt w' g v' 999 0 (stuffOf r') ∧ v'.ownBlock = vr.ownBlock) := by
        refine HNX.out.mono fun e w' h => ?_
        unfold PNextEnd at h
        rw [if_pos h5, h6, h7] at h
        exact h
      have HDD : Hid (∀ w5 u, Reads w5 u (dz y) → Calls Try.prog 19 #[u] w5 (DotEnd (y, false) w5)) := fun w5 u hru => by
        have := pDotted hru (by omega)
        rwa [h4] at this
      have HQN : Hid ((q ++ y ++ [13, 10]) ++ r' = l) := by show _ = _; rw [← hq.out, h1]; simp
      have HQL : Hid ((q ++ y ++ [13, 10]).length ≤ n) := by
        have := congrArg List.length HQN.out
        rw [List.length_append, ← HN.out] at this
        show _ ≤ _
        omega
      have HKN : Hid (2 * (k + 1) ≤ (q ++ y ++ [13, 10]).length) := by
        have := hk.out
        show _ ≤ _
        rw [List.length_append, List.length_append]
        simp only [List.length_cons, List.length_nil]
        omega
      have HCR := Lib.hid h2
      clear HNX hq hcr hpr hk h1 h2 h3 h4 h5 h6 h7 h0
      go_wp2_with (first | (go_at_call 12; refine HNX2.out.mono ?_; rintro e w5 ⟨u5, v5, rfl, ho5, hk5, hp5, hs5⟩; refine Hid.out ?_) | fail)
      refine Lib.hid ?_
      have HO5 : Hid (Owns w5 n4 vo q) := Owns.keptR hoo.out hk5 HGN.out (fun b hb => (HVR.out b hb).2)
      have HB5 : Hid (Below w.heap.size w w5) := hbr.out.trans (hk5.below HG3.out (fun b hb => (HVR.out b hb).1) hbr.out.size)
      have HP5 := Lib.hid hp5
      have HS5 : Hid (v5.ownBlock = v4.ownBlock) := hs5.trans hvr.out
      have HZ5 : Hid (n4 ≤ w5.heap.size) := Nat.le_trans hnr.out hk5.size
      have HDT := Lib.hid (HDD.out w5 u5 ho5.reads)
      clear ho5 hk5 hp5 hs5 HNX2 HDD hoo hbr hnr hvr HVR
      go_wp2_with (first | (go_at_call 19; refine HDT.out.mono ?_; rintro e w6 ⟨c6, rfl, ho6, hb6⟩; refine Hid.out ?_) | fail)
      refine Lib.hid ?_
      have HB6 : Hid (Below w.heap.size w w6) := HB5.out.trans (hb6.mono HB5.out.size)
      have HO6 := Lib.hid (HO5.out.on hb6)
      have HC6 := Lib.hid ho6.reads
      have HZ6 : Hid (n4 ≤ w6.heap.size) := Nat.le_trans HZ5.out hb6.size
      have HP6 : Hid (PdAt w6 g v5 999 0 (stuffOf r')) := HP5.out.on hb6.size (hb6.block g (heap_lt HP5.out.1)) (fun b hb => hb6.block b (HP5.out.2.1.ge b hb).2)
      clear ho6 hb6 HDT HB5 HO5 HP5 HZ5
      go_wp2_with (at_builtin; go_must (refine wp_append_reads _ rfl _ _ rfl n4 vo c6 q y rfl rfl HO6.out HC6.out (by have := HQL.out; rw [List.length_append, List.length_append] at this; omega) HZ6.out ?_); intro u7 w7 own7 b7; refine Hid.out ?_)
      refine Lib.hid ?_
      have HO7 := Lib.hid own7
      have HB7 := Lib.hid b7
      have HZ7 : Hid (n4 ≤ w7.heap.size) := Nat.le_trans HZ6.out b7.size
      clear own7 b7 HO6 HC6
      go_wp2_with (at_builtin; go_must (refine wp_append_reads _ rfl _ _ rfl n4 u7 _ (q ++ y) [13, 10] rfl rfl (HO7.out.on (Below.alloc1 w7 _)) (reads_lit w7 5 _ [13, 10] 2 rfl rfl (0, 0)) (by have := HQL.out; rw [List.length_append] at this; omega) (Nat.le_trans HZ7.out (Below.alloc1 w7 _).size) ?_); intro u8 w8 own8 b8; refine Hid.out ?_)
      refine Lib.hid ?_
      have HO8 := Lib.hid own8
      have HB8 : Hid (Below n4 w6 w8) := HB7.out.trans (((Below.alloc1 w7 _).mono HZ7.out).trans b8)
      have HZ8 : Hid (n4 ≤ w8.heap.size) := Nat.le_trans HZ6.out HB8.out.size
      have HP8 : Hid (PdAt w8 g v5 999 0 (stuffOf r')) := HP6.out.on HB8.out.size (HB8.out.block g HGN.out) (fun b hb => HB8.out.block b (HVB.out b (by rw [← HS5.out]; exact hb)).2)
      have HBW : Hid (Below w.heap.size w w8) := HB6.out.trans (HB8.out.mono HW4.out)
      clear own8 b8 HO7 HB7 HB8 HP6 HZ6 HZ7 HB6
      go_wp2
      go_roundw
      case rel => exact ⟨k + 1, _, r', v5, u8, by go_num, rfl, HKN, HQN, HCR, HO8, HP8, HS5, HBW, HZ8⟩
      case measure => simp [intOf]; omega
theorem backWalk (v : Value) (l : List UInt8) (w : World) (hr : Reads w v l) (hl : l.length ≤ 140737488351232) :
    Calls Try.prog 6 #[v] w fun e w' => e = .returned (.bool true) ∧ Below w.heap.size w w' := by
  by_cases hc : codeOf l = 0
  · exact backGood v l w hr hl hc
  · exact backBad v l w hr hl hc
end Go.Proofs.Ytgiooblopdoobaa.Lines
