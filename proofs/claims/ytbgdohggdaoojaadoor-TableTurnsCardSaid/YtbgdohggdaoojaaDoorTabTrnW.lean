/-
  TABLE, the statement's own: the order of entries, comments, empty lines and blanks more turn nothing: the walk.
-/
import Derived.Test.YtbgdohggdaoojaaDoorTabTrnI
namespace Go.Proofs.YtbgdohggdaoojaaDoor.Table
open Go.RowKit Base
set_option maxHeartbeats 60000000 in
set_option maxRecDepth 100000 in
theorem wTurns (ea : Option Addr) (en ec : Nat) (turn : Int) (bl : ByteArray) (w : World) (hm : MaxOk w) (he : ES w ea en) :
    Calls Tryd.prog 5 #[.slice ea en ec, .int .i64 turn, .string bl] w fun e w' => e = .returned (.bool true) ∧ Below w.heap.size w w' := by
  have HS := Lib.hid (pShown w hm)
  have HM := Lib.hid hm
  have HE := Lib.hid he
  clear hm he
  go_enter Tryd.func5, Tryd.ntmps5
  go_wp2_with (first | (go_at_call 6; refine HS.out.mono ?_; rintro e w1 ⟨rfl, hb1⟩; refine Hid.out ?_) | fail)
  refine Lib.hid ?_
  have HO0 := Lib.hid (OInv.start hb1)
  clear hb1 HS
  go_wp2
  go_loopw [8, 9, 10, 11] (fun o i _ _ wr => ∃ (k : Nat) (ov : Value) (O : List KV), k ≤ 60 ∧ O.length ≤ k ∧ i = .int .i64 (k : Int) ∧ o = ov ∧ Hid (OInv w wr ov O)) (fun _ i _ _ _ => 60 - (intOf i).toNat)
  case atStart => exact ⟨0, _, [], by omega, by simp, rfl, rfl, HO0⟩
  case round =>
    clear HO0
    obtain ⟨k, ov, O, hk, hOl, rfl, hov, HO⟩ := hrel
    obtain rfl : ov = _ := hov.symm
    by_cases hlt : k < en ∧ k < 60
    · obtain ⟨gb, o, kk, vv, hea, hg, hc1, hc2, hs1, hs2⟩ := (HE.out.on HO.out.below) k hlt.1
      subst hea
      have i0 : (0 : Int) ≤ (k : Int) := by omega
      have i3 : (k : Int) < (en : Int) := by omega
      have i4 : (k : Int) < 60 := by omega
      have HPL : Hid (∀ w1, Calls Tryd.prog 17 #[.string kk, .string vv] w1 fun e w' => ∃ b, e = .returned (.bool b) ∧ (b = true → PlainE kk.data.toList vv.data.toList) ∧ Below w1.heap.size w1 w') := fun w1 => pPlain kk vv w1 hs1 hs2
      have HS0 := Lib.hid (two_start hc1 hc2)
      have HS1 := Lib.hid hs1
      clear hg hs1 hs2 hlt
      go_wp2
      go_region_held3 (fun w' => Below wr.heap.size wr w' ∧ w'.cell? ⟨gb, o + k * 2, none⟩ = some (.string kk) ∧ w'.cell? ⟨gb, o + k * 2 + 1, none⟩ = some (.string vv))
        (first | exact HS0.out | exact two_keep (by assumption) hb | fail)
        (first
          | (go_at_call 17; refine (HPL.out _).mono ?_; rintro e wn ⟨b, rfl, hpl, hb⟩)
          | fail)
      have HH : Hid (Below wr.heap.size wr wn ∧ wn.cell? ⟨gb, o + k * 2, none⟩ = some (.string kk) ∧ wn.cell? ⟨gb, o + k * 2 + 1, none⟩ = some (.string vv)) := by assumption
      have HO2 := Lib.hid (HO.out.on HH.out.1)
      obtain ⟨oa, oc, hform⟩ := HO2.out.form
      subst hform
      have HPQ : Hid (b = true → PlainE kk.data.toList vv.data.toList ∧ ∀ e ∈ O.take 0, lower e.1 ≠ lower kk.data.toList) := fun h => ⟨hpl h, fun e he => by simp at he⟩
      have HCC : Hid (wn.cell? ⟨gb, o + k * 2, none⟩ = some (.string kk) ∧ wn.cell? ⟨gb, o + k * 2 + 1, none⟩ = some (.string vv)) := HH.out.2
      clear hpl HH HS0 HPL HO hc1 hc2
      go_wp2
      go_loopw [10, 11] (fun is kx wy => ∃ (m : Nat) (q : Bool), m ≤ O.length ∧ kx = .int .i64 (m : Int) ∧ is = .bool q ∧ Hid (q = true → PlainE kk.data.toList vv.data.toList ∧ ∀ e ∈ O.take m, lower e.1 ≠ lower kk.data.toList) ∧ Hid (OInv w wy (.slice oa O.length oc) O) ∧ Hid (wy.cell? ⟨gb, o + k * 2, none⟩ = some (.string kk) ∧ wy.cell? ⟨gb, o + k * 2 + 1, none⟩ = some (.string vv))) (fun _ kx _ => O.length - (intOf kx).toNat)
      case atStart => exact ⟨0, b, by omega, rfl, rfl, HPQ, HO2, HCC⟩
      case round =>
        clear HPQ HO2 HCC
        obtain ⟨m, q, hml, rfl, rfl, HQ, HO, HC⟩ := hrel
        obtain ⟨hc1, hc2⟩ := HC.out
        have m0 : (0 : Int) ≤ (m : Int) := by omega
        by_cases hmo : m < O.length
        · have m1 : (m : Int) < (O.length : Int) := by omega
          cases q
          · go_wp2
            go_roundw
            case rel => exact ⟨k + 1, _, O, by omega, by omega, by go_num, rfl, HO⟩
            case measure => simp [intOf]; omega
          · obtain ⟨e, he⟩ : ∃ e, O[m]? = some e := ⟨_, List.getElem?_eq_getElem hmo⟩
            obtain ⟨g, og, hoa, d1, _⟩ := HO.out.cell he
            subst hoa
            have hek : e.1.length ≤ 320 := (HO.out.plain e (List.mem_of_getElem? he)).kl
            obtain ⟨lw, hlw⟩ : ∃ lw : ByteArray → List UInt8, lw = fun s => lower s.data.toList := ⟨_, rfl⟩
            have HLX : Hid (∀ (w1 : World) (s : ByteArray), Hid (s.size ≤ 9223372036854775807) → Calls Tryd.prog 18 #[.string s] w1 fun e' w' => e' = .returned (S (lw s)) ∧ Below w1.heap.size w1 w') := fun w1 s hs => by rw [hlw]; exact rLower s w1 hs
            have HZ1 : Hid ((⟨e.1.toArray⟩ : ByteArray).size ≤ 9223372036854775807) := by show e.1.toArray.size ≤ _; simp; omega
            have HZ2 : Hid (kk.size ≤ 9223372036854775807) := by show _ ≤ _; have := HS1.out; omega
            have hla : lower e.1 = lw ⟨e.1.toArray⟩ := by rw [hlw]
            have hlb : lower kk.data.toList = lw kk := by rw [hlw]
            have HQ2 : Hid (lower e.1 ≠ lower kk.data.toList → PlainE kk.data.toList vv.data.toList ∧ ∀ x ∈ O.take (m + 1), lower x.1 ≠ lower kk.data.toList) := fun hne => ⟨(HQ.out rfl).1, fun x hx => by
              rw [List.take_succ_eq_append_getElem hmo, (List.getElem?_eq_some_iff.1 he).2] at hx
              rcases List.mem_append.1 hx with hx | hx
              · exact (HQ.out rfl).2 x hx
              · rw [List.mem_singleton.1 hx]; exact hne⟩
            have HS2 := Lib.hid (two_start d1 hc1)
            have HV2 := Lib.hid hc2
            have HQ4 : Hid (lw ⟨e.1.toArray⟩ ≠ lw kk → PlainE kk.data.toList vv.data.toList ∧ ∀ x ∈ O.take (m + 1), lower x.1 ≠ lower kk.data.toList) := fun h => HQ2.out (by rw [hla, hlb]; exact h)
            clear he hek HQ d1 hlw hla hlb HQ2
            by_cases hne : lw ⟨e.1.toArray⟩ = lw kk
            · have n1 : (lw ⟨e.1.toArray⟩ != lw kk) = false := by rw [hne]; simp
              have n2 : (lw ⟨e.1.toArray⟩ == lw kk) = true := by rw [hne]; simp
              clear hne HQ4
              go_wp2
              go_region_held3 (fun w' => Below wr.heap.size wr w' ∧ w'.cell? ⟨g, og + m * 2, none⟩ = some (S e.1) ∧ w'.cell? ⟨gb, o + k * 2, none⟩ = some (.string kk))
                (first | exact HS2.out | exact two_keep (by assumption) hb | fail)
                (first
                  | (go_at_call 18; refine (HLX.out _ _ (by first | exact HZ1 | exact HZ2)).mono ?_; rintro e wz ⟨rfl, hb⟩)
                  | fail)
              all_goals
                have HHZ : Hid (Below wr.heap.size wr wz ∧ wz.cell? ⟨g, og + m * 2, none⟩ = some (S e.1) ∧ wz.cell? ⟨gb, o + k * 2, none⟩ = some (.string kk)) := by assumption
                have HO4 := Lib.hid (HO.out.on HHZ.out.1)
                have HC4 : Hid (wz.cell? ⟨gb, o + k * 2, none⟩ = some (.string kk) ∧ wz.cell? ⟨gb, o + k * 2 + 1, none⟩ = some (.string vv)) := ⟨HHZ.out.2.2, (HHZ.out.1.cell (World.block_lt_of_cell? wr _ HV2.out)).trans HV2.out⟩
                clear HHZ HS2 HV2 HO HC hc1 hc2
                go_wp2
                go_roundw
                case rel => exact ⟨m + 1, false, by omega, by go_num, rfl, fun h => (by cases h), HO4, HC4⟩
                case measure => simp [intOf]; omega
            · have n1 : (lw ⟨e.1.toArray⟩ != lw kk) = true := by rw [bne_iff_ne]; exact hne
              have n2 : (lw ⟨e.1.toArray⟩ == lw kk) = false := by rw [beq_eq_false_iff_ne]; exact hne
              have HQ3 := Lib.hid (HQ4.out hne)
              clear hne HQ4
              go_wp2
              go_region_held3 (fun w' => Below wr.heap.size wr w' ∧ w'.cell? ⟨g, og + m * 2, none⟩ = some (S e.1) ∧ w'.cell? ⟨gb, o + k * 2, none⟩ = some (.string kk))
                (first | exact HS2.out | exact two_keep (by assumption) hb | fail)
                (first
                  | (go_at_call 18; refine (HLX.out _ _ (by first | exact HZ1 | exact HZ2)).mono ?_; rintro e wz ⟨rfl, hb⟩)
                  | fail)
              all_goals
                have HHZ : Hid (Below wr.heap.size wr wz ∧ wz.cell? ⟨g, og + m * 2, none⟩ = some (S e.1) ∧ wz.cell? ⟨gb, o + k * 2, none⟩ = some (.string kk)) := by assumption
                have HO4 := Lib.hid (HO.out.on HHZ.out.1)
                have HC4 : Hid (wz.cell? ⟨gb, o + k * 2, none⟩ = some (.string kk) ∧ wz.cell? ⟨gb, o + k * 2 + 1, none⟩ = some (.string vv)) := ⟨HHZ.out.2.2, (HHZ.out.1.cell (World.block_lt_of_cell? wr _ HV2.out)).trans HV2.out⟩
                clear HHZ HS2 HV2 HO HC hc1 hc2
                go_wp2
                go_roundw
                case rel => exact ⟨m + 1, true, by omega, by go_num, rfl, fun _ => HQ3.out, HO4, HC4⟩
                case measure => simp [intOf]; omega
        · have m1 : ¬ (m : Int) < (O.length : Int) := by omega
          cases q
          · go_wp2
            go_roundw
            case rel => exact ⟨k + 1, _, O, by omega, by omega, by go_num, rfl, HO⟩
            case measure => simp [intOf]; omega
          · have HA : Hid (PlainE kk.data.toList vv.data.toList ∧ ∀ e ∈ O, lower e.1 ≠ lower kk.data.toList) := ⟨(HQ.out rfl).1, fun e he => (HQ.out rfl).2 e (by rw [List.take_of_length_le (by omega)]; exact he)⟩
            have HSZ : Hid (w.heap.size ≤ wr.heap.size) := HO.out.below.size
            clear HQ
            go_wp2_with (at_builtin; go_must (refine wp_append2 rfl _ _ rfl w.heap.size (.slice oa O.length oc) _ O [(kk.data.toList, vv.data.toList)] rfl rfl (HO.out.row.alloc _) (rows2_str _ kk vv) (by simp; omega) (by have := HSZ.out; simp; omega) ?_); intro v5 w5 h5 hb5; refine Hid.out ?_)
            refine Lib.hid ?_
            have HO5 : Hid (OInv w w5 v5 (O ++ [(kk.data.toList, vv.data.toList)])) := HO.out.add h5 (((Below.alloc1 wr _).mono HSZ.out).trans hb5) HA.out.1 HA.out.2
            clear h5 hb5 HA HO HC hc1 hc2
            go_wp2
            go_roundw
            case rel => exact ⟨k + 1, v5, O ++ [(kk.data.toList, vv.data.toList)], by omega, by simp; omega, by go_num, rfl, HO5⟩
            case measure => simp [intOf]; omega
    · have HCASE : ¬ (k : Int) < (en : Int) ∨ ((k : Int) < (en : Int) ∧ ¬ (k : Int) < 60) := by omega
      have hO60 : O.length ≤ 60 := by omega
      obtain ⟨oa, oc, hform⟩ := HO.out.form
      subst hform
      clear hlt
      rcases HCASE with i3 | ⟨i3, i4⟩
      all_goals
        go_wp2
        go_loop [12, 13] (fun mo jx => ∃ (q : Nat) (m : List UInt8), q ≤ 20 ∧ jx = .int .i64 (q : Int) ∧ mo = S m ∧ m.length ≤ q + 1 ∧ Hid (BlankS m)) (fun _ jx => 20 - (intOf jx).toNat)
        case atStart => exact ⟨0, [32], by omega, rfl, rfl, by simp, blank_one⟩
        case round =>
          obtain ⟨q, m, hq, rfl, rfl, hml, HBL⟩ := hrel
          by_cases hql : q < bl.size ∧ q < 20
          · have hqb := hql.1
            have j0 : (0 : Int) ≤ (q : Int) := by omega
            have j1 : (q : Int) < (bl.size : Int) := by omega
            have j2 : (q : Int) < 20 := by omega
            have j3 : (q : Int) + 1 ≤ (bl.size : Int) := by omega
            have j4 : (0 : Int) ≤ (q : Int) + 1 := by omega
            have j5 : (q : Int) ≤ (q : Int) + 1 := by omega
            by_cases h32 : bl[q].toNat = 32
            · have e1 : ((bl[q].toNat : Int) == 32) = true := by rw [h32]; rfl
              have HBL2 := Lib.hid (blank_more hqb HBL.out (Or.inl h32))
              clear h32
              go_wp2
              go_round
              case rel => exact ⟨q + 1, m ++ [bl[q]], by omega, by go_num, more_step bl m q hqb, by simp; omega, HBL2⟩
              case measure => simp [intOf]; omega
            · have e1 : ((bl[q].toNat : Int) == 32) = false := by rw [beq_eq_false_iff_ne]; omega
              by_cases h9 : bl[q].toNat = 9
              · have e2 : ((bl[q].toNat : Int) == 9) = true := by rw [h9]; rfl
                have HBL2 := Lib.hid (blank_more hqb HBL.out (Or.inr h9))
                clear h32 h9
                go_wp2
                go_round
                case rel => exact ⟨q + 1, m ++ [bl[q]], by omega, by go_num, more_step bl m q hqb, by simp; omega, HBL2⟩
                case measure => simp [intOf]; omega
              · have e2 : ((bl[q].toNat : Int) == 9) = false := by rw [beq_eq_false_iff_ne]; omega
                clear h32 h9
                go_wp2
                go_round
                case rel => exact ⟨q + 1, m, by omega, by go_num, rfl, by omega, HBL⟩
                case measure => simp [intOf]; omega
          · have HC2 : ¬ (q : Int) < (bl.size : Int) ∨ ((q : Int) < (bl.size : Int) ∧ ¬ (q : Int) < 20) := by omega
            have hm21 : m.length ≤ 21 := by omega
            clear hql
            rcases HC2 with j3 | ⟨j3, j4⟩
            all_goals
              go_wp2
              go_loopw [14, 15, 16, 17] (fun on tw jx _ wy => ∃ (q : Nat) (a b : ByteArray), q ≤ O.length ∧ jx = .int .i64 (q : Int) ∧ on = .string a ∧ tw = .string b ∧ (a.size ≤ q * 1400 ∧ b.size ≤ 13 + q * 1400) ∧ Hid (a.data.toList = textOf (linesOne (O.take q))) ∧ Hid (b.data.toList = textOf (linesTwo m ((turnE O turn).take q))) ∧ Hid (OInv w wy (.slice oa O.length oc) O)) (fun _ _ jx _ _ => O.length - (intOf jx).toNat)
              case atStart => exact ⟨0, _, _, by omega, rfl, rfl, rfl, ⟨by decide, by decide⟩, one_zero, two_zero m, HO⟩
              case round =>
                clear HO
                obtain ⟨q, a, b, hq, rfl, rfl, rfl, ⟨hasz, hbsz⟩, HA, HB, HO⟩ := hrel
                have has2 : a.size ≤ 200000 := by omega
                have hbs2 : b.size ≤ 200000 := by omega
                by_cases hqo : q < O.length
                · obtain ⟨e, he⟩ : ∃ e, O[q]? = some e := ⟨_, List.getElem?_eq_getElem hqo⟩
                  have HA2 := Lib.hid (one_step HA.out he)
                  have l1 : e.1.length ≤ 320 := (HO.out.plain e (List.mem_of_getElem? he)).kl
                  have l2 : e.2.length ≤ 1000 := (HO.out.plain e (List.mem_of_getElem? he)).vl
                  have q0 : (0 : Int) ≤ (q : Int) := by omega
                  have q1 : (q : Int) < (O.length : Int) := by omega
                  by_cases ht : 0 < turn
                  · obtain ⟨p, rfl⟩ := Int.eq_ofNat_of_zero_le (Int.le_of_lt ht)
                    obtain ⟨r, hr⟩ : ∃ r, p % O.length = r := ⟨_, rfl⟩
                    obtain ⟨s, hs⟩ : ∃ s, (q + r) % O.length = s := ⟨_, rfl⟩
                    have hsl : s < O.length := by rw [← hs]; exact Nat.mod_lt _ (by omega)
                    obtain ⟨e2, he2⟩ : ∃ e2, O[s]? = some e2 := ⟨_, List.getElem?_eq_getElem hsl⟩
                    have HB2 := Lib.hid (two_step HB.out (e := e2) (by rw [turn_at (by omega) hqo, hr, hs]; exact he2))
                    have hmod1 : (p : Int) % (O.length : Int) = (r : Int) := by rw [← hr]; exact (Int.natCast_emod p O.length).symm
                    have hmod2 : ((q : Int) + (r : Int)) % (O.length : Int) = (s : Int) := by rw [← hs]; exact (Int.natCast_emod (q + r) O.length).symm
                    have hrl : r < O.length := by rw [← hr]; exact Nat.mod_lt _ (by omega)
                    have h0 : ((O.length : Int) == 0) = false := by rw [beq_eq_false_iff_ne]; omega
                    have l3 : e2.1.length ≤ 320 := (HO.out.plain e2 (List.mem_of_getElem? he2)).kl
                    have l4 : e2.2.length ≤ 1000 := (HO.out.plain e2 (List.mem_of_getElem? he2)).vl
                    have s0 : (0 : Int) ≤ (s : Int) := by omega
                    have s1 : (s : Int) < (O.length : Int) := by omega
                    obtain ⟨g, og, hoa, d1, d2⟩ := HO.out.cell he
                    obtain ⟨g', og', hoa', d3, d4⟩ := HO.out.cell he2
                    have HOA := Lib.hid (hoa.symm.trans hoa')
                    obtain ⟨rfl, rfl⟩ : g' = g ∧ og' = og := by have := HOA.out; simp at this; exact ⟨this.1.symm, this.2.symm⟩
                    subst hoa
                    clear hr hs hsl he he2 HOA hoa' HA HB
                    go_wp2
                    go_region
                    go_wp2
                    go_region
                    go_wp2
                    go_roundw
                    case rel => exact ⟨q + 1, _, _, by omega, by go_num, rfl, rfl, ⟨one_size hasz l1 l2, two_size hbsz l3 l4 hm21⟩, HA2, HB2, by first | exact HO.out.on ((Below.refl _ _).drew.drew) | exact HO.out.on (bel_drewN 2 _ (Nat.le_refl _))⟩
                    case measure => simp [intOf]; omega
                  · have HB2 := Lib.hid (two_step HB.out (e := e) (by rw [turn_zero ht]; exact he))
                    obtain ⟨g, og, hoa, d1, d2⟩ := HO.out.cell he
                    subst hoa
                    clear he HA HB
                    go_wp2
                    go_region
                    go_wp2
                    go_region
                    go_wp2
                    go_roundw
                    case rel => exact ⟨q + 1, _, _, by omega, by go_num, rfl, rfl, ⟨one_size hasz l1 l2, two_size hbsz l1 l2 hm21⟩, HA2, HB2, by first | exact HO.out.on ((Below.refl _ _).drew.drew) | exact HO.out.on (bel_drewN 2 _ (Nat.le_refl _))⟩
                    case measure => simp [intOf]; omega
                · have q1 : ¬ (q : Int) < (O.length : Int) := by omega
                  have HTA : Hid (a.data.toList = textOf (linesOne O)) := by show _ = _; rw [HA.out, List.take_of_length_le (by omega)]
                  have HTB : Hid (b.data.toList = textOf (linesTwo m (turnE O turn))) := by show _ = _; rw [HB.out, List.take_of_length_le (by rw [(turn_perm O turn).length_eq]; omega)]
                  obtain ⟨U, u1, u2, u3, u4, u5, u6⟩ := turns_same HBL.out hm21 HO.out.plain HO.out.dist hO60 (turn_perm O turn)
                  have HP1 : Hid (∀ w1, Below w.heap.size w w1 → Calls Tryd.prog 8 #[.string a] w1 fun e w' => ∃ t, e = .returned (.tuple #[.pointer (some ⟨t, 0, none⟩), .agg #[.int .i64 0, .int .i64 0]]) ∧ TabAt 82 w' t U ∧ Below w1.heap.size w1 w') := fun w1 h => pParseYes a U w1 (HM.out.on h) (by rw [HTA.out]; exact ⟨u1, u2⟩)
                  have HP2 : Hid (∀ w1, Below w.heap.size w w1 → Calls Tryd.prog 8 #[.string b] w1 fun e w' => ∃ t, e = .returned (.tuple #[.pointer (some ⟨t, 0, none⟩), .agg #[.int .i64 0, .int .i64 0]]) ∧ TabAt 82 w' t U ∧ Below w1.heap.size w1 w') := fun w1 h => pParseYes b U w1 (HM.out.on h) (by rw [HTB.out]; exact ⟨u3, u4⟩)
                  have HLN : Hid (∀ (w1 : World) (t : Nat), TabAt 82 w1 t U → Calls Tryd.prog 9 #[.pointer (some ⟨t, 0, none⟩)] w1 fun e w' => e = .returned (.int .i64 (O.length : Int)) ∧ w1 = w') := fun w1 t h => by rw [← u5]; exact pLen t U w1 h
                  have HAT : Hid (∀ (w1 : World) (t i : Nat) (x : KV), TabAt 82 w1 t U → U[i]? = some x → Calls Tryd.prog 10 #[.pointer (some ⟨t, 0, none⟩), .int .i64 (i : Int)] w1 fun e w' => e = .returned (.tuple #[S x.1, S x.2, .bool true]) ∧ Below w1.heap.size w1 w') := fun w1 t i x h hx => pAt t U i x w1 h hx (by have := u6.few; omega)
                  have HUL : Hid (U.length = O.length) := u5
                  have HBW : Hid (Below w.heap.size w wr) := HO.out.below
                  clear HTA HTB u1 u2 u3 u4 u5 u6 HA HB HBL HO
                  go_wp2_with (first | (go_at_call 8; refine (HP1.out _ HBW.out).mono ?_; rintro e w2 ⟨t1, rfl, ht1, hb1⟩; refine Hid.out ?_) | fail)
                  refine Lib.hid ?_
                  have HB2 := Lib.hid (HBW.out.trans (hb1.mono HBW.out.size))
                  have HT1 := Lib.hid ht1
                  have HB3 : Hid (Below w.heap.size w (w2.alloc (.cells #[.int .i64 0, .int .i64 0] 27))) := HB2.out.trans ((Below.alloc1 w2 _).mono HB2.out.size)
                  clear hb1 ht1 HP1
                  go_wp2_with (first | (go_at_call 8; refine (HP2.out _ HB3.out).mono ?_; rintro e w4 ⟨t2, rfl, ht2, hb4⟩; refine Hid.out ?_) | fail)
                  refine Lib.hid ?_
                  have HB4 := Lib.hid (HB3.out.trans (hb4.mono HB3.out.size))
                  have HX : Hid (box27 w4 w2.heap.size (0, 0)) := box27.on (w := w2.alloc (.cells #[.int .i64 0, .int .i64 0] 27)) (by show (w2.heap.push _)[w2.heap.size]? = _; simp) hb4
                  have HY : box27 (w4.alloc (.cells #[.int .i64 0, .int .i64 0] 27)) w2.heap.size (0, 0) := HX.out.on (Below.alloc1 _ _)
                  have x0 : (w4.alloc (.cells #[.int .i64 0, .int .i64 0] 27)).cell? ⟨w2.heap.size, 0, none⟩ = some (.int .i64 0) := cell_of_row _ _ 0 _ _ _ HY
                  have HR : Hid (RInv w (w4.alloc (.cells #[.int .i64 0, .int .i64 0] 27)) t1 t2 U) := ⟨HB4.out.trans ((Below.alloc1 w4 _).mono HB4.out.size), ((HT1.out.on (Below.alloc1 _ _)).on hb4).on (Below.alloc1 _ _), ht2.on (Below.alloc1 _ _)⟩
                  clear hb4 HY HX ht2 HB2 HB3 HB4 HT1 HP2 HBW
                  go_wp2_with (first | (go_at_call 9; refine (HLN.out _ _ HR.out.tb).mono ?_; rintro e w' ⟨rfl, rfl⟩; refine Hid.out ?_) | fail)
                  refine Lib.hid ?_
                  go_wp2_with (first | (go_at_call 9; refine (HLN.out _ _ HR.out.tc).mono ?_; rintro e w' ⟨rfl, rfl⟩; refine Hid.out ?_) | fail)
                  refine Lib.hid ?_
                  clear x0 HLN
                  go_wp2
                  go_loopw [22, 23, 24, 25, 26, 27, 28] (fun jx _ _ _ _ _ _ wz => ∃ i : Nat, i ≤ O.length ∧ jx = .int .i64 (i : Int) ∧ Hid (RInv w wz t1 t2 U)) (fun jx _ _ _ _ _ _ _ => O.length - (intOf jx).toNat)
                  case atStart => exact ⟨0, by omega, rfl, HR⟩
                  case round =>
                    clear HR
                    obtain ⟨i, hi, rfl, HR⟩ := hrel
                    by_cases hio : i < O.length
                    · obtain ⟨x, hx⟩ : ∃ x, U[i]? = some x := ⟨_, List.getElem?_eq_getElem (by have := HUL.out; omega)⟩
                      have HXX := Lib.hid hx
                      have p0 : (0 : Int) ≤ (i : Int) := by omega
                      have p1 : (i : Int) < (O.length : Int) := by omega
                      clear hx
                      go_wp2_with (first | (go_at_call 10; refine (HAT.out _ _ i x HR.out.tb HXX.out).mono ?_; rintro e w6 ⟨rfl, hb6⟩; refine Hid.out ?_) | fail)
                      refine Lib.hid ?_
                      have HR6 := Lib.hid (HR.out.on hb6)
                      clear hb6 HR
                      go_wp2_with (first | (go_at_call 10; refine (HAT.out _ _ i x HR6.out.tc HXX.out).mono ?_; rintro e w7 ⟨rfl, hb7⟩; refine Hid.out ?_) | fail)
                      refine Lib.hid ?_
                      have HR7 := Lib.hid (HR6.out.on hb7)
                      clear hb7 HR6
                      go_wp2
                      go_roundw
                      case rel => exact ⟨i + 1, by omega, by go_num, HR7⟩
                      case measure => simp [intOf]; omega
                    · have p1 : ¬ (i : Int) < (O.length : Int) := by omega
                      go_wp2
                      go_ret
                      exact ⟨rfl, HR.out.bel⟩
end Go.Proofs.YtbgdohggdaoojaaDoor.Table
