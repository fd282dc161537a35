/-
  PipeOrder: the walk.
-/
import Derived.Test.YtfmphhcdbocgnaaPipeOrdR
import Derived.Deep.DeepMust
import Derived.Deep.AppendLies
namespace Go.Proofs.Ytfmphhcdbocgnaa.Pipe
open Go.RowKit Base
theorem once_b {f t : ByteArray} (Ps : List (PA × PG)) (h : Ps.length ≤ 15) : ¬ 32 < (onceL ([f.data.toList, t.data.toList] ++ portsOf Ps)).length := by
  have := once_len ([f.data.toList, t.data.toList] ++ portsOf Ps)
  rw [List.length_append, portsOf_len] at this
  simp at this ⊢
  omega
theorem slice_len {A : Option Addr} {n m c : Nat} (h : n = m) : Value.slice A n c = .slice A m c := by rw [h]
theorem slice_one (A : Option Addr) (n c : Nat) : ∀ u ∈ [Value.slice A n c], u.oneCell' = true := by
  intro u hu; rw [List.mem_singleton.1 hu]; rfl
set_option maxRecDepth 100000 in
theorem order_bad (Al At : Option Addr) (n1 c1 n2 c2 : Nat) (most : Int) (w : World) (hm : most < 1 ∨ 64 < most) :
    Calls Try.prog 4 #[.slice Al n1 c1, .slice At n2 c2, .int .i64 most] w (TrueEnd w) := by
  go_enter Try.func4, Try.ntmps4
  go_wp2_with fail
  refine (cShown _).mono ?_
  rintro e w1 ⟨rfl, b1⟩
  refine Hid.out ?_
  refine Lib.hid ?_
  go_wp2_with fail
  refine (cNew (fun _ => .no) _).mono ?_
  rintro e w2 ⟨g, mb, own2, rfl, h2, s2⟩
  refine Hid.out ?_
  refine Lib.hid ?_
  go_wp2_with fail
  refine (cOpenArg h2 AA BB most (by decide) (by decide) (by decide +kernel) (by decide +kernel) (by decide +kernel) (by simp) (by simp) (once_b _ (by simp)) hm).mono ?_
  rintro e w3 ⟨rfl, b3⟩
  refine Hid.out ?_
  refine Lib.hid ?_
  have h3 := h2.on b3
  go_wp2_with fail
  refine (cOpenOk h3 BB AA 64 (by decide) (by decide) (by decide +kernel) (by decide +kernel) (by decide +kernel) (by simp) (by simp) (once_b _ (by simp)) (by omega) (by omega)).mono ?_
  rintro e w4 ⟨rfl, own4, G4, h4, s4⟩
  refine Hid.out ?_
  refine Lib.hid ?_
  have HB := Lib.hid (b1.trans (Below.mono ((s2.trans (Step.of_below b3)).trans s4).below b1.size))
  clear h2 h3 h4 s2 s4 b1 b3
  go_wp2_with fail
  go_ret
  exact ⟨rfl, HB.out⟩
set_option maxHeartbeats 8000000 in
set_option maxRecDepth 100000 in
theorem order_ok (Al At : Option Addr) (ls : List (List UInt8)) (bs : List Bool) (c1 c2 : Nat) (most : Nat) (w : World) (hl : Rows2 w Al ls) (ht : Bools w At bs) (hls : ls.length ≤ 9223372036854775807) (_hbs : bs.length ≤ 9223372036854775807) (hm1 : 1 ≤ most) (hm2 : most ≤ 64) :
    Calls Try.prog 4 #[.slice Al ls.length c1, .slice At bs.length c2, .int .i64 (most : Int)] w (TrueEnd w) := by
  obtain ⟨i0, hi0, hz0, hz1, hz2⟩ := info_parts info29
  have kc := fun (w : World) (C : Array Value) (n c : Nat) => Lib.run_convert_bytes_const (P := Try.prog) w 29 5 C n c Try.underlying29 Try.underlying5
  have HL := Lib.hid hl
  have HT := Lib.hid ht
  clear hl ht
  go_enter Try.func4, Try.ntmps4
  go_wp2_with fail
  refine (cShown _).mono ?_
  rintro e w1 ⟨rfl, b1⟩
  refine Hid.out ?_
  refine Lib.hid ?_
  go_wp2_with fail
  refine (cNew (fun _ => .no) _).mono ?_
  rintro e w2 ⟨g, mb, own2, rfl, h2, s2⟩
  refine Hid.out ?_
  refine Lib.hid ?_
  go_wp2_with fail
  refine (cOpenOk h2 AA BB most (by decide) (by decide) (by decide +kernel) (by decide +kernel) (by decide +kernel) (by simp) (by simp) (once_b _ (by simp)) hm1 hm2).mono ?_
  rintro e w3 ⟨rfl, own3, G3, h3', s3⟩
  refine Hid.out ?_
  refine Lib.hid ?_
  have h3 : Holds own3 w3 g mb [(⟨AA, BB, most, []⟩, G3)] := h3'
  clear h3'
  go_wp2_with fail
  refine (cOpenOk h3 BB AA 64 (by decide) (by decide) (by decide +kernel) (by decide +kernel) (by decide +kernel) (by intro p hp; rw [List.mem_singleton.1 hp]; exact (show ¬ (AA = BB ∧ BB = AA) by decide +kernel)) (by simp) (once_b _ (by simp)) (by omega) (by omega)).mono ?_
  rintro e w4 ⟨rfl, own4, G4, h4', s4⟩
  refine Hid.out ?_
  refine Lib.hid ?_
  have h4 : Holds own4 w4 g mb (two most [] [] G3 G4) := h4'
  have HB : Step (fun _ => .no) w own4 w4 := (Step.of_below b1).trans ((s2.trans s3).trans s4)
  have hR : OrdR w w4 own4 (.slice none 0 0) [] [] := ⟨HB.below, fun b hb => HB.tags b hb (fun t e => by cases e), ⟨rfl, Or.inl ⟨rfl, rfl⟩⟩, (fun b hb => by cases hb), h4.fresh, (fun i x l hx => by simp at hx)⟩
  obtain ⟨R, hRel⟩ : ∃ R : Value → Value → Value → Value → World → Prop, R = fun v11 v12 v13 v14 wr => ∃ (own : Nat → Tag) (q q2 : List (List UInt8)) (G G2 : PG) (As : Option Addr) (cs : Nat) (sent : List (List UInt8)) (svs : List Value) (att nx k : Nat),
    v11 = .slice As sent.length cs ∧ v12 = .int .i64 att ∧ v13 = .int .i64 nx ∧ v14 = .int .i64 k ∧ k ≤ bs.length ∧ k ≤ 300 ∧ nx ≤ ls.length ∧ sent.length ≤ k ∧ att ≤ sent.length ∧
    Hid (q = sent.drop att) ∧ Holds own wr g mb (two most q q2 G G2) ∧ OrdR w wr own (.slice As sent.length cs) sent svs := ⟨_, rfl⟩
  have HRel := Lib.hid hRel
  clear hRel
  have H0 : Hid (R (.slice none 0 0) (.int .i64 0) (.int .i64 0) (.int .i64 0) w4) := by
    rw [HRel.out]; exact ⟨own4, [], [], G3, G4, none, 0, [], [], 0, 0, 0, rfl, rfl, rfl, rfl, Nat.zero_le _, by omega, Nat.zero_le _, Nat.le_refl _, Nat.le_refl _, rfl, h4, hR⟩
  clear h2 h3 h4 h4' s2 s3 s4 b1 HB hR
  go_wp2_with fail
  go_loopw [11, 12, 13, 14] (fun v11 v12 v13 v14 wr => R v11 v12 v13 v14 wr) (fun _ _ _ i _ => 300 - (intOf i).toNat)
  case atStart => exact H0.out
  case round =>
    rw [HRel.out] at hrel
    obtain ⟨own, q, q2, G, G2, As, cs, sent, svs, att, nx, k, rfl, rfl, rfl, rfl, hk1, hk2, hnx, hsk, hatt, hq, hh, hr⟩ := hrel
    by_cases hlt : k < bs.length ∧ k < 300
    · obtain ⟨hlt1, hlt2⟩ := hlt
      obtain ⟨tb, tof, hAt, htc⟩ := HT.out k bs[k] (List.getElem?_eq_getElem hlt1)
      subst hAt
      have htc2 := (hr.below.cell (p := ⟨tb, tof + k, none⟩) (cell_lt htc)).trans htc
      clear htc
      by_cases hsend : bs[k] = true ∧ nx < ls.length
      · obtain ⟨hb1, hn1⟩ := hsend
        rw [hb1] at htc2
        obtain ⟨lb, lo, xa, xc, hAl, hlc, hlr⟩ := HL.out nx ls[nx] (List.getElem?_eq_getElem hn1)
        subst hAl
        have hlc2 := (hr.below.cell (p := ⟨lb, lo + nx, none⟩) (cell_lt hlc)).trans hlc
        have hlr2 := hlr.on hr.below
        have hlrH := Lib.hid hlr
        clear hlr
        by_cases hlong : ls[nx].length ≤ 65536
        · by_cases hfull : q.length < most
          · go_wp2_with fail
            refine (cSendOk hh (i := 0) (p := (⟨AA, BB, most, q⟩, G)) rfl hlr2 hlong hfull).mono ?_
            rintro e w5 ⟨rfl, own5, G5, hh5', s5⟩
            refine Hid.out ?_
            refine Lib.hid ?_
            have hh5 : Holds own5 w5 g mb (two most (q ++ [ls[nx]]) q2 G5 G2) := hh5'
            have hr5 := hr.step s5 hh5.fresh
            clear hh5' s5 hlc2 htc2
            have hlc5 := (hr5.below.cell (p := ⟨lb, lo + nx, none⟩) (cell_lt hlc)).trans hlc
            have hq5 : Hid (q ++ [ls[nx]] = (sent ++ [ls[nx]]).drop att) := by
              have := hq.out
              show q ++ [ls[nx]] = (sent ++ [ls[nx]]).drop att
              rw [List.drop_append_of_le_length hatt, this]
            obtain ⟨q5, hq5e⟩ : ∃ q5, q5 = q ++ [ls[nx]] := ⟨_, rfl⟩
            rw [← hq5e] at hq5 hh5
            clear hq5e
            go_wp2_with (at_builtin; go_must (refine wpList_append_lies _ rfl _ _ 33 rfl w.heap.size 29 i0 (.slice none 0 0) 1 24 Try.underlying33 hi0 hz0 hz1 hz2 rfl (by decide) (.slice As sent.length cs) sent.length svs rfl (hr5.row.alloc _) ⟨w5.heap.size, 0, none⟩ 1 1 [.slice xa ls[nx].length xc] rfl rfl (news_one _ _ _) (slice_one _ _ _) (by omega) (by unfold maxLen; omega) (by omega) (by have := hr5.below.size; simp; omega) (w5.heap.size + 1) (by simp) ?_); intro g2 cap2 w6 hown6 hg6 hat6 hlt6; refine Hid.out ?_)
            refine Lib.hid ?_
            have hh6 := Holds.more hh5 hg6 hr5.rowNo
            have hr6 := OrdR.more hr5 hlrH.out hown6 hg6 hat6
            clear hg6 hat6 hlt6 hown6 hh5 hr5 hlc5

            go_wp2_with fail
            refine (cSendOther (hh6.on (Below.alloc1 _ _)) (l := [111, 116, 104, 101, 114]) (reads_lit _ _ _ [111, 116, 104, 101, 114] 5 rfl rfl _) (by decide)).mono ?_
            rintro e w7 ⟨cd7, own7, q27, G27, rfl, hh7, s7⟩
            refine Hid.out ?_
            refine Lib.hid ?_
            have hr7 := (hr6.on (Below.alloc1 _ _)).step s7 hh7.fresh
            clear s7
            clear hh6 hr6

            have hfit : q5.length ≤ most := (hh7.pipes 0 _ rfl).fits
            have hql : q5.length = ((sent ++ [ls[nx]])).length - (att) := by rw [hq5.out, List.length_drop]
            have hsl : (sent ++ [ls[nx]]).length = sent.length + 1 := List.length_append
            have d1 : (((q5).length : Int) != (((sent.length : Int) + 1)) - (((att : Nat) : Int))) = false := by rw [bne_eq_false_iff_eq]; omega
            have d2 : (((q5).length : Int) + ((most : Int) - ((q5).length : Int)) != (most : Int)) = false := by rw [bne_eq_false_iff_eq]; omega
            have d3 : decide ((most : Int) - ((q5).length : Int) < 0) = false := by simp; omega
            have d4 : (0 : Int) ≤ (most : Int) - ((q5).length : Int) := by omega
            have d5 : ((q5).length : Int) + ((most : Int) - ((q5).length : Int)) = (most : Int) := by omega
            have D5 := Lib.hid d5
            clear d5 hql
            have HSL := Lib.hid hsl
            clear hsl
            go_wp2_with fail
            refine (cLen hh7 (i := 0) (p := (⟨AA, BB, most, q5⟩, G5)) rfl).mono ?_
            rintro e w5 ⟨rfl, rfl⟩
            refine Hid.out ?_
            refine Lib.hid ?_
            go_wp2_with fail
            refine (cRoom hh7 (i := 0) (p := (⟨AA, BB, most, q5⟩, G5)) rfl).mono ?_
            rintro e w6 ⟨rfl, b6⟩
            refine Hid.out ?_
            refine Lib.hid ?_
            have hh6 := hh7.on b6
            have hr6 := hr7.on b6
            clear b6
            go_wp2
            go_roundw
            case rel =>
              rw [HRel.out]
              exact ⟨own7, q5, q27, G5, G27, (some ⟨g2, 0, none⟩), cap2, (sent ++ [ls[nx]]), (svs ++ [.slice xa ls[nx].length xc]), att, (nx + 1), k + 1, slice_len HSL.out.symm, by go_num, by go_num, by go_num, by omega, by omega, by omega, by rw [HSL.out]; omega, by rw [HSL.out]; omega, hq5, hh6, by rw [HSL.out]; exact hr6⟩
            case measure => simp [intOf]; omega
          · go_wp2_with fail
            refine (cSendFull hh (i := 0) (p := (⟨AA, BB, most, q⟩, G)) rfl hlr2 hlong (Nat.le_antisymm (hh.pipes 0 _ rfl).fits (Nat.le_of_not_lt hfull))).mono ?_
            rintro e w5 ⟨rfl, b5⟩
            refine Hid.out ?_
            refine Lib.hid ?_
            have hh5 := hh.on b5
            have hr5 := hr.on b5
            clear hh hr b5 hlc2 htc2

            go_wp2_with fail
            refine (cSendOther (hh5.on (Below.alloc1 _ _)) (l := [111, 116, 104, 101, 114]) (reads_lit _ _ _ [111, 116, 104, 101, 114] 5 rfl rfl _) (by decide)).mono ?_
            rintro e w7 ⟨cd7, own7, q27, G27, rfl, hh7, s7⟩
            refine Hid.out ?_
            refine Lib.hid ?_
            have hr7 := (hr5.on (Below.alloc1 _ _)).step s7 hh7.fresh
            clear s7
            clear hh5 hr5

            have hfit : q.length ≤ most := (hh7.pipes 0 _ rfl).fits
            have hql : q.length = (sent).length - (att) := by rw [hq.out, List.length_drop]
            skip
            have d1 : (((q).length : Int) != ((sent.length : Int)) - (((att : Nat) : Int))) = false := by rw [bne_eq_false_iff_eq]; omega
            have d2 : (((q).length : Int) + ((most : Int) - ((q).length : Int)) != (most : Int)) = false := by rw [bne_eq_false_iff_eq]; omega
            have d3 : decide ((most : Int) - ((q).length : Int) < 0) = false := by simp; omega
            have d4 : (0 : Int) ≤ (most : Int) - ((q).length : Int) := by omega
            have d5 : ((q).length : Int) + ((most : Int) - ((q).length : Int)) = (most : Int) := by omega
            have D5 := Lib.hid d5
            clear d5 hql
            skip
            skip
            go_wp2_with fail
            refine (cLen hh7 (i := 0) (p := (⟨AA, BB, most, q⟩, G)) rfl).mono ?_
            rintro e w5 ⟨rfl, rfl⟩
            refine Hid.out ?_
            refine Lib.hid ?_
            go_wp2_with fail
            refine (cRoom hh7 (i := 0) (p := (⟨AA, BB, most, q⟩, G)) rfl).mono ?_
            rintro e w6 ⟨rfl, b6⟩
            refine Hid.out ?_
            refine Lib.hid ?_
            have hh6 := hh7.on b6
            have hr6 := hr7.on b6
            clear b6
            go_wp2
            go_roundw
            case rel =>
              rw [HRel.out]
              exact ⟨own7, q, q27, G, G27, As, cs, sent, svs, att, (nx + 1), k + 1, rfl, by go_num, by go_num, by go_num, by omega, by omega, by omega, by omega, by omega, hq, hh6, hr6⟩
            case measure => simp [intOf]; omega
        · go_wp2_with fail
          refine (cSendLong hh (i := 0) (p := (⟨AA, BB, most, q⟩, G)) rfl hlr2 (Nat.lt_of_not_le hlong)).mono ?_
          rintro e w5 ⟨rfl, b5⟩
          refine Hid.out ?_
          refine Lib.hid ?_
          have hh5 := hh.on b5
          have hr5 := hr.on b5
          clear hh hr b5 hlc2 htc2

          go_wp2_with fail
          refine (cSendOther (hh5.on (Below.alloc1 _ _)) (l := [111, 116, 104, 101, 114]) (reads_lit _ _ _ [111, 116, 104, 101, 114] 5 rfl rfl _) (by decide)).mono ?_
          rintro e w7 ⟨cd7, own7, q27, G27, rfl, hh7, s7⟩
          refine Hid.out ?_
          refine Lib.hid ?_
          have hr7 := (hr5.on (Below.alloc1 _ _)).step s7 hh7.fresh
          clear s7
          clear hh5 hr5

          have hfit : q.length ≤ most := (hh7.pipes 0 _ rfl).fits
          have hql : q.length = (sent).length - (att) := by rw [hq.out, List.length_drop]
          skip
          have d1 : (((q).length : Int) != ((sent.length : Int)) - (((att : Nat) : Int))) = false := by rw [bne_eq_false_iff_eq]; omega
          have d2 : (((q).length : Int) + ((most : Int) - ((q).length : Int)) != (most : Int)) = false := by rw [bne_eq_false_iff_eq]; omega
          have d3 : decide ((most : Int) - ((q).length : Int) < 0) = false := by simp; omega
          have d4 : (0 : Int) ≤ (most : Int) - ((q).length : Int) := by omega
          have d5 : ((q).length : Int) + ((most : Int) - ((q).length : Int)) = (most : Int) := by omega
          have D5 := Lib.hid d5
          clear d5 hql
          skip
          skip
          go_wp2_with fail
          refine (cLen hh7 (i := 0) (p := (⟨AA, BB, most, q⟩, G)) rfl).mono ?_
          rintro e w5 ⟨rfl, rfl⟩
          refine Hid.out ?_
          refine Lib.hid ?_
          go_wp2_with fail
          refine (cRoom hh7 (i := 0) (p := (⟨AA, BB, most, q⟩, G)) rfl).mono ?_
          rintro e w6 ⟨rfl, b6⟩
          refine Hid.out ?_
          refine Lib.hid ?_
          have hh6 := hh7.on b6
          have hr6 := hr7.on b6
          clear b6
          go_wp2
          go_roundw
          case rel =>
            rw [HRel.out]
            exact ⟨own7, q, q27, G, G27, As, cs, sent, svs, att, (nx + 1), k + 1, rfl, by go_num, by go_num, by go_num, by omega, by omega, by omega, by omega, by omega, hq, hh6, hr6⟩
          case measure => simp [intOf]; omega
      · have hb : bs[k] = false ∨ (bs[k] = true ∧ ¬ nx < ls.length) := by
          cases hx : bs[k] with
          | false => exact Or.inl rfl
          | true => exact Or.inr ⟨rfl, fun h => hsend ⟨hx, h⟩⟩
        clear hsend
        have hcs : q = [] ∨ ∃ l q', q = l :: q' := by
          cases q with
          | nil => exact Or.inl rfl
          | cons a b => exact Or.inr ⟨a, b, rfl⟩
        rcases hb with hb | ⟨hb, hnl⟩
        · rw [hb] at htc2
          clear hb
          rcases hcs with hqe | ⟨l, q', rfl⟩
          · have hae : att = sent.length := by
              have := congrArg List.length hq.out
              rw [List.length_drop, hqe, List.length_nil] at this
              omega
            have HQE := Lib.hid hqe
            clear hqe
            have t1 : (((att : Nat) : Int) != ((sent.length : Nat) : Int)) = false := by rw [bne_eq_false_iff_eq]; omega
            clear hae
            go_wp2_with fail
            refine (cTakeEmpty hh (i := 0) (p := (⟨AA, BB, most, q⟩, G)) rfl HQE.out).mono ?_
            rintro e w5 ⟨rfl, rfl⟩
            refine Hid.out ?_
            refine Lib.hid ?_

            have hfit : q.length ≤ most := (hh.pipes 0 _ rfl).fits
            have hql : q.length = (sent).length - (att) := by rw [hq.out, List.length_drop]
            skip
            have d1 : (((q).length : Int) != ((sent.length : Int)) - (((att : Nat) : Int))) = false := by rw [bne_eq_false_iff_eq]; omega
            have d2 : (((q).length : Int) + ((most : Int) - ((q).length : Int)) != (most : Int)) = false := by rw [bne_eq_false_iff_eq]; omega
            have d3 : decide ((most : Int) - ((q).length : Int) < 0) = false := by simp; omega
            have d4 : (0 : Int) ≤ (most : Int) - ((q).length : Int) := by omega
            have d5 : ((q).length : Int) + ((most : Int) - ((q).length : Int)) = (most : Int) := by omega
            have D5 := Lib.hid d5
            clear d5 hql
            skip
            skip
            go_wp2_with fail
            refine (cLen hh (i := 0) (p := (⟨AA, BB, most, q⟩, G)) rfl).mono ?_
            rintro e w5 ⟨rfl, rfl⟩
            refine Hid.out ?_
            refine Lib.hid ?_
            go_wp2_with fail
            refine (cRoom hh (i := 0) (p := (⟨AA, BB, most, q⟩, G)) rfl).mono ?_
            rintro e w6 ⟨rfl, b6⟩
            refine Hid.out ?_
            refine Lib.hid ?_
            have hh6 := hh.on b6
            have hr6 := hr.on b6
            clear b6
            go_wp2
            go_roundw
            case rel =>
              rw [HRel.out]
              exact ⟨own, q, q2, G, G2, As, cs, sent, svs, att, nx, k + 1, rfl, by go_num, by go_num, by go_num, by omega, by omega, by omega, by omega, by omega, hq, hh6, hr6⟩
            case measure => simp [intOf]; omega
          · have hat1 : att < sent.length := by
              have := congrArg List.length hq.out
              rw [List.length_drop, List.length_cons] at this
              omega
            have hgl : sent[att]? = some l := by
              have := congrArg (fun z => z[0]?) hq.out
              simp at this
              exact this.symm
            have hq5 : Hid (q' = sent.drop (att + 1)) := by
              have := congrArg (List.drop 1) hq.out
              rw [List.drop_drop] at this
              exact this
            obtain ⟨sb, hAs⟩ : ∃ sb, As = some ⟨sb, 0, none⟩ := by
              rcases hr.row.2 with ⟨_, hn⟩ | ⟨gg, cap, cur, hx, _⟩
              · omega
              · cases hx; exact ⟨gg, rfl⟩
            subst hAs
            have hsl0 : svs.length = sent.length := by have := hr.row.1; omega
            obtain ⟨xa, xc, hxe, hxr⟩ := hr.reads att (svs[att]'(by omega)) l (List.getElem?_eq_getElem _) hgl
            rw [hxe] at hxr
            go_wp2_with fail
            refine (cTakeOk hh (i := 0) (p := (⟨AA, BB, most, l :: q'⟩, G)) (l := l) (q := q') rfl rfl).mono ?_
            rintro e w5 ⟨v5, own5, G5, rfl, hh5', s5, r5, _⟩
            refine Hid.out ?_
            refine Lib.hid ?_
            have hh5 : Holds own5 w5 g mb (two most q' q2 G5 G2) := hh5'
            have hr5 := hr.step s5 hh5.fresh
            clear hh5' s5 hh hr
            obtain ⟨va, vc, hv5⟩ := r5.reads.form
            subst hv5
            have c1 : ∀ n, (convert 29 9 (.slice va l.length vc)).run Try.prog (w5.drewN n) = .ok (.string ⟨l.toArray⟩) (w5.drewN n) := fun n => conv_reads (r5.reads.on (below_drewN _ _ _))
            have c2 : ∀ n, (convert 29 9 (.slice xa l.length xc)).run Try.prog (w5.drewN n) = .ok (.string ⟨l.toArray⟩) (w5.drewN n) := fun n => conv_reads ((hxr.on hr5.below).on (below_drewN _ _ _))
            have cel : w5.cell? ⟨sb, att, none⟩ = some (.slice xa l.length xc) := by
              have := World.ownsRow.cellAt hr5.row att (by omega)
              rw [this, ← hxe]; exact List.getElem?_eq_getElem _
            clear r5 hxr hxe hgl
            have t1 : decide ((sent.length : Int) ≤ ((att : Nat) : Int)) = false := by simp; omega
            have t2 : (0 : Int) ≤ ((att : Nat) : Int) := by omega
            have t3 : ((att : Nat) : Int) < ((sent.length : Nat) : Int) := by omega
            go_wp2_with fail
            go_quiet (fail)
            have hh7 := hh5.on (below_drewN w5.heap.size w5 nq)
            have hr7 := hr5.on (below_drewN w5.heap.size w5 nq)
            clear hh5 hr5 cel c1 c2 t1

            have hfit : q'.length ≤ most := (hh7.pipes 0 _ rfl).fits
            have hql : q'.length = (sent).length - ((att + 1)) := by rw [hq5.out, List.length_drop]
            skip
            have d1 : (((q').length : Int) != ((sent.length : Int)) - ((((att : Nat) : Int) + 1))) = false := by rw [bne_eq_false_iff_eq]; omega
            have d2 : (((q').length : Int) + ((most : Int) - ((q').length : Int)) != (most : Int)) = false := by rw [bne_eq_false_iff_eq]; omega
            have d3 : decide ((most : Int) - ((q').length : Int) < 0) = false := by simp; omega
            have d4 : (0 : Int) ≤ (most : Int) - ((q').length : Int) := by omega
            have d5 : ((q').length : Int) + ((most : Int) - ((q').length : Int)) = (most : Int) := by omega
            have D5 := Lib.hid d5
            clear d5 hql
            skip
            skip
            go_wp2_with fail
            refine (cLen hh7 (i := 0) (p := (⟨AA, BB, most, q'⟩, G5)) rfl).mono ?_
            rintro e w5 ⟨rfl, rfl⟩
            refine Hid.out ?_
            refine Lib.hid ?_
            go_wp2_with fail
            refine (cRoom hh7 (i := 0) (p := (⟨AA, BB, most, q'⟩, G5)) rfl).mono ?_
            rintro e w6 ⟨rfl, b6⟩
            refine Hid.out ?_
            refine Lib.hid ?_
            have hh6 := hh7.on b6
            have hr6 := hr7.on b6
            clear b6
            go_wp2
            go_roundw
            case rel =>
              rw [HRel.out]
              exact ⟨own5, q', q2, G5, G2, (some ⟨sb, 0, none⟩), cs, sent, svs, (att + 1), nx, k + 1, rfl, by go_num, by go_num, by go_num, by omega, by omega, by omega, by omega, by omega, hq5, hh6, hr6⟩
            case measure => simp [intOf]; omega
        · rw [hb] at htc2
          clear hb
          rcases hcs with hqe | ⟨l, q', rfl⟩
          · have hae : att = sent.length := by
              have := congrArg List.length hq.out
              rw [List.length_drop, hqe, List.length_nil] at this
              omega
            have HQE := Lib.hid hqe
            clear hqe
            have t1 : (((att : Nat) : Int) != ((sent.length : Nat) : Int)) = false := by rw [bne_eq_false_iff_eq]; omega
            clear hae
            go_wp2_with fail
            refine (cTakeEmpty hh (i := 0) (p := (⟨AA, BB, most, q⟩, G)) rfl HQE.out).mono ?_
            rintro e w5 ⟨rfl, rfl⟩
            refine Hid.out ?_
            refine Lib.hid ?_

            have hfit : q.length ≤ most := (hh.pipes 0 _ rfl).fits
            have hql : q.length = (sent).length - (att) := by rw [hq.out, List.length_drop]
            skip
            have d1 : (((q).length : Int) != ((sent.length : Int)) - (((att : Nat) : Int))) = false := by rw [bne_eq_false_iff_eq]; omega
            have d2 : (((q).length : Int) + ((most : Int) - ((q).length : Int)) != (most : Int)) = false := by rw [bne_eq_false_iff_eq]; omega
            have d3 : decide ((most : Int) - ((q).length : Int) < 0) = false := by simp; omega
            have d4 : (0 : Int) ≤ (most : Int) - ((q).length : Int) := by omega
            have d5 : ((q).length : Int) + ((most : Int) - ((q).length : Int)) = (most : Int) := by omega
            have D5 := Lib.hid d5
            clear d5 hql
            skip
            skip
            go_wp2_with fail
            refine (cLen hh (i := 0) (p := (⟨AA, BB, most, q⟩, G)) rfl).mono ?_
            rintro e w5 ⟨rfl, rfl⟩
            refine Hid.out ?_
            refine Lib.hid ?_
            go_wp2_with fail
            refine (cRoom hh (i := 0) (p := (⟨AA, BB, most, q⟩, G)) rfl).mono ?_
            rintro e w6 ⟨rfl, b6⟩
            refine Hid.out ?_
            refine Lib.hid ?_
            have hh6 := hh.on b6
            have hr6 := hr.on b6
            clear b6
            go_wp2
            go_roundw
            case rel =>
              rw [HRel.out]
              exact ⟨own, q, q2, G, G2, As, cs, sent, svs, att, nx, k + 1, rfl, by go_num, by go_num, by go_num, by omega, by omega, by omega, by omega, by omega, hq, hh6, hr6⟩
            case measure => simp [intOf]; omega
          · have hat1 : att < sent.length := by
              have := congrArg List.length hq.out
              rw [List.length_drop, List.length_cons] at this
              omega
            have hgl : sent[att]? = some l := by
              have := congrArg (fun z => z[0]?) hq.out
              simp at this
              exact this.symm
            have hq5 : Hid (q' = sent.drop (att + 1)) := by
              have := congrArg (List.drop 1) hq.out
              rw [List.drop_drop] at this
              exact this
            obtain ⟨sb, hAs⟩ : ∃ sb, As = some ⟨sb, 0, none⟩ := by
              rcases hr.row.2 with ⟨_, hn⟩ | ⟨gg, cap, cur, hx, _⟩
              · omega
              · cases hx; exact ⟨gg, rfl⟩
            subst hAs
            have hsl0 : svs.length = sent.length := by have := hr.row.1; omega
            obtain ⟨xa, xc, hxe, hxr⟩ := hr.reads att (svs[att]'(by omega)) l (List.getElem?_eq_getElem _) hgl
            rw [hxe] at hxr
            go_wp2_with fail
            refine (cTakeOk hh (i := 0) (p := (⟨AA, BB, most, l :: q'⟩, G)) (l := l) (q := q') rfl rfl).mono ?_
            rintro e w5 ⟨v5, own5, G5, rfl, hh5', s5, r5, _⟩
            refine Hid.out ?_
            refine Lib.hid ?_
            have hh5 : Holds own5 w5 g mb (two most q' q2 G5 G2) := hh5'
            have hr5 := hr.step s5 hh5.fresh
            clear hh5' s5 hh hr
            obtain ⟨va, vc, hv5⟩ := r5.reads.form
            subst hv5
            have c1 : ∀ n, (convert 29 9 (.slice va l.length vc)).run Try.prog (w5.drewN n) = .ok (.string ⟨l.toArray⟩) (w5.drewN n) := fun n => conv_reads (r5.reads.on (below_drewN _ _ _))
            have c2 : ∀ n, (convert 29 9 (.slice xa l.length xc)).run Try.prog (w5.drewN n) = .ok (.string ⟨l.toArray⟩) (w5.drewN n) := fun n => conv_reads ((hxr.on hr5.below).on (below_drewN _ _ _))
            have cel : w5.cell? ⟨sb, att, none⟩ = some (.slice xa l.length xc) := by
              have := World.ownsRow.cellAt hr5.row att (by omega)
              rw [this, ← hxe]; exact List.getElem?_eq_getElem _
            clear r5 hxr hxe hgl
            have t1 : decide ((sent.length : Int) ≤ ((att : Nat) : Int)) = false := by simp; omega
            have t2 : (0 : Int) ≤ ((att : Nat) : Int) := by omega
            have t3 : ((att : Nat) : Int) < ((sent.length : Nat) : Int) := by omega
            go_wp2_with fail
            go_quiet (fail)
            have hh7 := hh5.on (below_drewN w5.heap.size w5 nq)
            have hr7 := hr5.on (below_drewN w5.heap.size w5 nq)
            clear hh5 hr5 cel c1 c2 t1

            have hfit : q'.length ≤ most := (hh7.pipes 0 _ rfl).fits
            have hql : q'.length = (sent).length - ((att + 1)) := by rw [hq5.out, List.length_drop]
            skip
            have d1 : (((q').length : Int) != ((sent.length : Int)) - ((((att : Nat) : Int) + 1))) = false := by rw [bne_eq_false_iff_eq]; omega
            have d2 : (((q').length : Int) + ((most : Int) - ((q').length : Int)) != (most : Int)) = false := by rw [bne_eq_false_iff_eq]; omega
            have d3 : decide ((most : Int) - ((q').length : Int) < 0) = false := by simp; omega
            have d4 : (0 : Int) ≤ (most : Int) - ((q').length : Int) := by omega
            have d5 : ((q').length : Int) + ((most : Int) - ((q').length : Int)) = (most : Int) := by omega
            have D5 := Lib.hid d5
            clear d5 hql
            skip
            skip
            go_wp2_with fail
            refine (cLen hh7 (i := 0) (p := (⟨AA, BB, most, q'⟩, G5)) rfl).mono ?_
            rintro e w5 ⟨rfl, rfl⟩
            refine Hid.out ?_
            refine Lib.hid ?_
            go_wp2_with fail
            refine (cRoom hh7 (i := 0) (p := (⟨AA, BB, most, q'⟩, G5)) rfl).mono ?_
            rintro e w6 ⟨rfl, b6⟩
            refine Hid.out ?_
            refine Lib.hid ?_
            have hh6 := hh7.on b6
            have hr6 := hr7.on b6
            clear b6
            go_wp2
            go_roundw
            case rel =>
              rw [HRel.out]
              exact ⟨own5, q', q2, G5, G2, (some ⟨sb, 0, none⟩), cs, sent, svs, (att + 1), nx, k + 1, rfl, by go_num, by go_num, by go_num, by omega, by omega, by omega, by omega, by omega, hq5, hh6, hr6⟩
            case measure => simp [intOf]; omega
    · have hn2 : bs.length ≤ k ∨ 300 ≤ k := by omega
      have HBW := Lib.hid hr.below
      clear hr hh hq hlt
      rcases hn2 with hn2 | hn2
      · have e1 : decide ((k : Int) < (bs.length : Int)) = false := by simp; omega
        go_wp2
        go_ret
        exact ⟨rfl, HBW.out⟩
      · by_cases e0 : k < bs.length
        · have e1 : decide ((k : Int) < 300) = false := by simp; omega
          go_wp2
          go_ret
          exact ⟨rfl, HBW.out⟩
        · have e1 : decide ((k : Int) < (bs.length : Int)) = false := by simp; omega
          go_wp2
          go_ret
          exact ⟨rfl, HBW.out⟩
end Go.Proofs.Ytfmphhcdbocgnaa.Pipe
