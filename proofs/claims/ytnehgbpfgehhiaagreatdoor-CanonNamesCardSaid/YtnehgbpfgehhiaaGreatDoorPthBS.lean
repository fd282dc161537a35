/-
  MERGED by mergefill.py: PthBS.
-/
import Derived.Test.YtnehgbpfgehhiaaGreatDoorPthQuo
import Derived.Test.YtnehgbpfgehhiaaGreatDoorPthRepPM
import Derived.Test.YtnehgbpfgehhiaaGreatDoorShelf
import Derived.Deep.CutBlock
import Derived.Deep.DeepCutAuto
import Derived.Deep.CutRange
/-
  PATH, the program: the library's byteStringReplacer: how long what comes of it is.
-/
namespace Go.Proofs.YtnehgbpfgehhiaaGreatDoor.Path
open Go.RowKit Base
theorem buf_base {w w0 wr : World} {h N : Nat} {acc : List UInt8} (hb : Below h w w0) (h1 : Lib.Buf w0 wr h N acc) : Lib.Buf w wr h N acc := ⟨hb.trans h1.below, h1.there, h1.free, h1.holds, h1.fits⟩
theorem buf_drew {w wr : World} {h N : Nat} {acc : List UInt8} (h1 : Lib.Buf w wr h N acc) : Lib.Buf w wr.drew h N acc := ⟨h1.below.drew, h1.there, h1.free, h1.holds, h1.fits⟩
/-- How many are to be replaced of the first k bytes that are. -/
def cntK (l : List UInt8) (k : Nat) : Nat := match k with
  | 0 => 0
  | 1 => l.count 92
  | _ => l.count 92 + l.count 34
theorem cntK_le (l : List UInt8) (k : Nat) : cntK l k ≤ 2 * l.length := by
  have h1 := List.count_le_length (a := (92 : UInt8)) (l := l)
  have h2 := List.count_le_length (a := (34 : UInt8)) (l := l)
  unfold cntK
  split <;> omega
theorem int_eq {a b : Int} (h : a = b) : Value.int .i64 a = .int .i64 b := by rw [h]
theorem bool_eq {a b : Bool} (h : a = b) : Value.bool a = .bool b := by rw [h]
set_option maxHeartbeats 8000000 in
set_option maxRecDepth 100000 in
theorem pBSR (g A c1 c2 a1 a2 : Nat) (s : ByteArray) (w : World) (hR : RepAt w g A c1 c2 a1 a2) (hs : s.size ≤ 1000000000) :
    Calls Tryz.prog 295 #[.pointer (some ⟨g, 0, none⟩), .string s] w fun e w' => e = .returned (.string ⟨(escB s.data.toList).toArray⟩) ∧ Below w.heap.size w w' := by
  obtain ⟨l, hll⟩ : ∃ l, l = s.data.toList := ⟨_, rfl⟩
  have hlen : l.length = s.size := by rw [hll, str_len]
  have HLS : Hid (∀ k (h : k < s.size), l.getD k 0 = s[k]) := fun k h => by rw [hll]; exact str_get s k h
  have HL := Lib.hid hlen
  have HS := Lib.hid hll
  have HRp := Lib.hid hR
  have z256 := hR.list
  have zl0 := hR.l0
  have zl1 := hR.l1
  have z34 : w.cell? ⟨g, 34, none⟩ = some (.slice (some ⟨a1, 0, none⟩) 2 c1) := hR.row 34 (by omega)
  have z92 : w.cell? ⟨g, 92, none⟩ = some (.slice (some ⟨a2, 0, none⟩) 2 c2) := hR.row 92 (by omega)
  have qT : ∀ (w : World) (a : Option Addr) (n c n' c' : Nat), (binOp .neq 87 (.slice a n c) (.slice none n' c')).run Tryz.prog w = .ok (.bool (!a.isNone)) w := fun w a n c n' c' => run_neq_slice_nil_any w _ _ a n c n' c' Tryz.underlying87
  rw [← hll]
  clear hR hlen hll
  go_enter Tryz.func295, Tryz.ntmps295
  go_upto_if 26 with fail
  go_cut [5, 6, 8, 9, 10, 11, 26] from 27 to 80 (fun n a _ _ _ _ _ wx => n = .int .i64 ((s.size + l.countP isEsc : Nat) : Int) ∧ a = .bool (decide (l.countP isEsc ≠ 0)) ∧ ∃ q, wx = w.drewN q)
  case first =>
    generalize decide ((16 : Int) ≤ (s.size : Int)) = bb
    cases bb with
    | true =>
      go_wp2
      go_loopw [5, 6, 32] (fun n a i wx => ∃ k q : Nat, k ≤ 2 ∧ n = .int .i64 ((s.size + cntK l k : Nat) : Int) ∧ a = .bool (decide (cntK l k ≠ 0)) ∧ i = .int .i64 (k : Int) ∧ wx = w.drewN q) (fun _ _ i _ => 2 - (intOf i).toNat)
      case atStart => exact ⟨0, 0, by omega, rfl, rfl, rfl, rfl⟩
      case round =>
        obtain ⟨k, q, hk, rfl, rfl, rfl, rfl⟩ := hrel
        rcases (by omega : k = 0 ∨ k = 1 ∨ k = 2) with rfl | rfl | rfl
        · go_wp2_with (first | (go_at_call 107; refine (Tryz.strings_Count_one s 92 _).mono ?_; rintro ee w1 ⟨rfl, hw⟩; subst w1; refine Hid.out ?_) | fail)
          refine Lib.hid ?_
          obtain ⟨cn, hcn⟩ : ∃ cn : Nat, cn = Lib.countByte s.data.toList 92 := ⟨_, rfl⟩
          rw [← hcn]
          have HCN : Hid (cntK l 1 = cntK l 0 + cn) := by
            have : cn = l.count 92 := by rw [hcn, HS.out]; rfl
            show _ = _
            rw [this]; simp [cntK]
          have HCL : Hid (cntK l 0 + cn ≤ 2 * s.size) := by
            have := cntK_le l 1
            show _ ≤ _
            rw [← HCN.out]; rw [HL.out] at this; exact this
          clear hcn
          by_cases hc : cn = 0
          · subst hc
            go_wp2
            go_roundw
            case rel => exact ⟨1, q, by omega, by rw [HCN.out]; go_num, bool_eq (by rw [HCN.out]; simp), rfl, rfl⟩
            case measure => simp [intOf]
          · have e1 : ((cn : Int) != 0) = true := by rw [bne_iff_ne]; omega
            have hcl := HCL.out
            have q92 : (({ data := #[92] } : ByteArray)[0]'(by decide)).toNat = 92 := rfl
            go_wp2
            go_quiet (fail)
            go_wp2
            go_roundw
            case rel => exact ⟨1, q + nq, by omega, by rw [HCN.out]; go_num, bool_eq (by rw [HCN.out]; simp; omega), rfl, by simp⟩
            case measure => simp [intOf]
        · go_wp2_with (first | (go_at_call 107; refine (Tryz.strings_Count_one s 34 _).mono ?_; rintro ee w1 ⟨rfl, hw⟩; subst w1; refine Hid.out ?_) | fail)
          refine Lib.hid ?_
          obtain ⟨cn, hcn⟩ : ∃ cn : Nat, cn = Lib.countByte s.data.toList 34 := ⟨_, rfl⟩
          rw [← hcn]
          have HCN : Hid (cntK l 2 = cntK l 1 + cn) := by
            have : cn = l.count 34 := by rw [hcn, HS.out]; rfl
            show _ = _
            rw [this]; simp [cntK]
          have HCL : Hid (cntK l 1 + cn ≤ 2 * s.size) := by
            have := cntK_le l 2
            show _ ≤ _
            rw [← HCN.out]; rw [HL.out] at this; exact this
          clear hcn
          by_cases hc : cn = 0
          · subst hc
            go_wp2
            go_roundw
            case rel => exact ⟨2, q, by omega, by rw [HCN.out]; go_num, bool_eq (by rw [HCN.out]; simp), rfl, rfl⟩
            case measure => simp [intOf]
          · have e1 : ((cn : Int) != 0) = true := by rw [bne_iff_ne]; omega
            have hcl := HCL.out
            have q92 : (({ data := #[34] } : ByteArray)[0]'(by decide)).toNat = 34 := rfl
            go_wp2
            go_quiet (fail)
            go_wp2
            go_roundw
            case rel => exact ⟨2, q + nq, by omega, by rw [HCN.out]; go_num, bool_eq (by rw [HCN.out]; simp; omega), rfl, by simp⟩
            case measure => simp [intOf]
        · have HE : Hid (cntK l 2 = l.countP isEsc) := by show _ = _; rw [esc_two]; rfl
          rw [HE.out]
          go_wp2
          go_meet
          case rel => exact ⟨rfl, by simp, q, rfl⟩
    | false =>
      go_wp2
      go_loop [5, 6, 10] (fun n a i => ∃ k : Nat, k ≤ s.size ∧ n = .int .i64 ((s.size + (l.take k).countP isEsc : Nat) : Int) ∧ a = .bool (decide ((l.take k).countP isEsc ≠ 0)) ∧ i = .int .i64 (k : Int)) (fun _ _ i => s.size - (intOf i).toNat)
      case atStart => exact ⟨0, by omega, rfl, rfl, rfl⟩
      case round =>
        obtain ⟨k, hk, rfl, rfl, rfl⟩ := hrel
        by_cases hlt : k < s.size
        · have i0 : (0 : Int) ≤ (k : Int) := by omega
          have i1 : (k : Int) < (s.size : Int) := by omega
          have HG : Hid (l.getD k 0 = s[k]) := HLS.out k hlt
          have HN : Hid ((l.take (k + 1)).countP isEsc = (l.take k).countP isEsc + (if isEsc (s[k]) then 1 else 0)) := by
            show _ = _
            rw [cnt_next (by rw [HL.out]; exact hlt), HG.out]
          have HM : Hid ((l.take k).countP isEsc ≤ k) := by
            show _ ≤ _
            exact Nat.le_trans List.countP_le_length (by rw [List.length_take]; omega)
          have hm := HM.out
          generalize (l.take k).countP isEsc = m at HN hm
          have hb := s[k].toNat_lt
          by_cases h34 : s[k] = 34
          · have zk : w.cell? ⟨g, s[k].toNat, none⟩ = some (.slice (some ⟨a1, 0, none⟩) 2 c1) := by rw [h34]; exact z34
            have HN2 : Hid ((l.take (k + 1)).countP isEsc = m + 1) := by show _ = _; rw [HN.out, h34]; rfl
            clear h34 HN
            go_wp2
            go_round
            case rel => exact ⟨k + 1, by omega, by rw [HN2.out]; go_num, bool_eq (by rw [HN2.out]; simp), by go_num⟩
            case measure => simp [intOf]; omega
          · by_cases h92 : s[k] = 92
            · have zk : w.cell? ⟨g, s[k].toNat, none⟩ = some (.slice (some ⟨a2, 0, none⟩) 2 c2) := by rw [h92]; exact z92
              have HN2 : Hid ((l.take (k + 1)).countP isEsc = m + 1) := by show _ = _; rw [HN.out, h92]; rfl
              clear h34 h92 HN
              go_wp2
              go_round
              case rel => exact ⟨k + 1, by omega, by rw [HN2.out]; go_num, bool_eq (by rw [HN2.out]; simp), by go_num⟩
              case measure => simp [intOf]; omega
            · have zk : w.cell? ⟨g, s[k].toNat, none⟩ = some (.slice none 0 0) := by
                rw [HRp.out.row _ hb]
                unfold repV
                rw [if_neg (show ¬ s[k].toNat = 34 from fun e => h34 (UInt8.toNat_inj.1 e)), if_neg (show ¬ s[k].toNat = 92 from fun e => h92 (UInt8.toNat_inj.1 e))]
              have HN2 : Hid ((l.take (k + 1)).countP isEsc = m) := by
                show _ = _
                have e : isEsc s[k] = false := by unfold isEsc; rw [Bool.or_eq_false_iff]; exact ⟨beq_eq_false_iff_ne.2 h34, beq_eq_false_iff_ne.2 h92⟩
                rw [HN.out, e]; rfl
              clear h34 h92 HN
              go_wp2
              go_round
              case rel => exact ⟨k + 1, by omega, by rw [HN2.out], bool_eq (by rw [HN2.out]), by go_num⟩
              case measure => simp [intOf]; omega
        · have i1 : ¬ (k : Int) < (s.size : Int) := by omega
          have HE : Hid ((l.take k).countP isEsc = l.countP isEsc) := by
            show _ = _
            rw [List.take_of_length_le (by rw [HL.out]; omega)]
          rw [HE.out]
          go_wp2
          go_meet
          case rel => exact ⟨rfl, by simp, 0, rfl⟩
  case rest =>
    obtain ⟨rfl, rfl, q, rfl⟩ := hcut
    by_cases h0 : l.countP isEsc = 0
    · rw [h0]
      have HT : Hid ((⟨(escB l).toArray⟩ : ByteArray) = s) := by
        show _ = _
        rw [esc_none h0, HS.out]
      clear h0
      go_wp2
      go_ret
      exact ⟨by rw [HT.out]; rfl, Below.drewN' w q⟩
    · have e1 : (l.countP isEsc == 0) = false := beq_eq_false_iff_ne.2 h0
      have HLE : Hid ((escB l).length = s.size + l.countP isEsc) := by show _ = _; rw [esc_len, HL.out]
      have hcl : l.countP isEsc ≤ s.size := by have := cnt_le l; rw [HL.out] at this; exact this
      generalize l.countP isEsc = m at e1 HLE hcl h0
      obtain ⟨i0, hi, hz0, hz1, hz2⟩ := info_parts info5
      have HB := Lib.hid (Below.drewN' w q)
      go_wp2_with (first | (at_make; refine wpList_make_full _ rfl _ _ 87 rfl w.heap.size 5 i0 (.int .u8 0) 1 Tryz.underlying87 hi hz0 hz1 .i64 .i64 _ _ (s.size + m) rfl rfl (by go_num) (by go_num) (by rw [hz2]; omega) (by unfold maxLen; omega) (Nat.le_refl _) ?_; intro w1 hown1 hg1; refine Hid.out ?_) | fail)
      refine Lib.hid ?_
      have HB1 : Hid (Lib.Buf w w1 w.heap.size (s.size + m) []) := buf_base HB.out (buf_made (w := w.drewN q) hown1 hg1)
      have HI : Hid ((Tryz.prog.info? 5).map (·.size) = some 1) := by show _ = _; rw [hi]; exact congrArg some hz1
      have HSZ : Hid (∀ w, (Go.sizeOf 5).run Tryz.prog w = .ok 1 w) := fun w => by simp [sizeOf, typeInfo, hi, hz1]
      clear hown1 hg1 hi hz0 hz1 hz2 h0 e1
      go_wp2
      go_loopw [13, 14] (fun j i wx => ∃ k : Nat, k ≤ s.size ∧ j = .int .i64 (((escB (l.take k)).length : Nat) : Int) ∧ i = .int .i64 (k : Int) ∧ Hid (Lib.Buf w wx w.heap.size (s.size + m) (escB (l.take k)))) (fun _ i _ => s.size - (intOf i).toNat)
      case atStart => exact ⟨0, by omega, rfl, rfl, HB1.out⟩
      case round =>
        obtain ⟨k, hk, rfl, rfl, hB⟩ := hrel
        by_cases hlt : k < s.size
        · have i0 : (0 : Int) ≤ (k : Int) := by omega
          have i1 : (k : Int) < (s.size : Int) := by omega
          have HX := Lib.hid (HRp.out.on hB.out.below)
          have HN : Hid (escB (l.take (k + 1)) = escB (l.take k) ++ (if s[k] = 34 then [92, 34] else if s[k] = 92 then [92, 92] else [s[k]])) := by
            show _ = _
            rw [esc_next (by rw [HL.out]; exact hlt), HLS.out k hlt]
          have HF : Hid ((escB (l.take (k + 1))).length ≤ s.size + m) := by
            show _ ≤ _
            rw [← HLE.out]; exact esc_take_le l (k + 1)
          generalize escB (l.take k) = acc at HN hB
          have hbi : (s[k].toNat : Int) < 256 := by have := s[k].toNat_lt; omega
          have hb := s[k].toNat_lt
          by_cases hc : s[k] = 34
          · --
            have yk : wr.cell? ⟨g, s[k].toNat, none⟩ = some (.slice (some ⟨a1, 0, none⟩) 2 c1) := by rw [hc]; exact HX.out.row 34 (by omega)
            have HN2 : Hid (escB (l.take (k + 1)) = acc ++ [92, 34]) := by show _ = _; rw [HN.out, hc]; rfl
            have hle2 : acc.length + 2 ≤ s.size + m := by
              have := HF.out
              rw [HN2.out, List.length_append] at this
              exact this
            have hle : acc.length ≤ s.size + m := by omega
            have hsl : ∀ W, (Instr.slice 87 (.slice (some ⟨w.heap.size, 0, none⟩) (s.size + m) (s.size + m)) (some (.int .i64 (acc.length : Int))) none none).run Tryz.prog W = .ok (Lib.tailV w.heap.size (s.size + m) acc.length) W := fun W => Lib.run_slice_tailV W 87 5 Tryz.underlying87 HSZ.out w.heap.size (s.size + m) acc.length hle
            have HCP : Hid (∃ w7, (Builtin.copy_ #[87, 87] 3 #[Lib.tailV w.heap.size (s.size + m) acc.length, .slice (some ⟨a1, 0, none⟩) 2 c1]).run Tryz.prog wr.drew = .ok (.int .i64 2) w7 ∧ Lib.Buf w w7 w.heap.size (s.size + m) (acc ++ [92, 34])) :=
              Lib.copy_part w wr.drew w.heap.size (s.size + m) acc [92, 34] (.slice (some ⟨a1, 0, none⟩) 2 c1) 87 3 5 Tryz.underlying87 HI.out (Nat.le_refl _) (buf_drew hB.out) (holds_of_reads HRp.out.q) hle2
            clear hc HN hB HX
            go_wp2
            go_region_law (refine ite_yes (by rfl) ?_; obtain ⟨w7, hr7, hb7⟩ := HCP.out; refine Lib.wp_copy_run _ (.tmp 105) (.tmp 111) 87 87 rfl _ _ rfl rfl hr7 ?_)
            all_goals
              go_wp2
              go_roundw
            all_goals first | exact ⟨k + 1, by omega, by rw [HN2.out, List.length_append]; go_num, by go_num, by rw [HN2.out]; exact hb7⟩ | (simp [intOf]; omega)
          · by_cases hc2 : s[k] = 92
            · have h34 := hc
              clear hc
              have hc := hc2
              clear hc2 h34
              have yk : wr.cell? ⟨g, s[k].toNat, none⟩ = some (.slice (some ⟨a2, 0, none⟩) 2 c2) := by rw [hc]; exact HX.out.row 92 (by omega)
              have HN2 : Hid (escB (l.take (k + 1)) = acc ++ [92, 92]) := by show _ = _; rw [HN.out, hc]; rfl
              have hle2 : acc.length + 2 ≤ s.size + m := by
                have := HF.out
                rw [HN2.out, List.length_append] at this
                exact this
              have hle : acc.length ≤ s.size + m := by omega
              have hsl : ∀ W, (Instr.slice 87 (.slice (some ⟨w.heap.size, 0, none⟩) (s.size + m) (s.size + m)) (some (.int .i64 (acc.length : Int))) none none).run Tryz.prog W = .ok (Lib.tailV w.heap.size (s.size + m) acc.length) W := fun W => Lib.run_slice_tailV W 87 5 Tryz.underlying87 HSZ.out w.heap.size (s.size + m) acc.length hle
              have HCP : Hid (∃ w7, (Builtin.copy_ #[87, 87] 3 #[Lib.tailV w.heap.size (s.size + m) acc.length, .slice (some ⟨a2, 0, none⟩) 2 c2]).run Tryz.prog wr.drew = .ok (.int .i64 2) w7 ∧ Lib.Buf w w7 w.heap.size (s.size + m) (acc ++ [92, 92])) :=
                Lib.copy_part w wr.drew w.heap.size (s.size + m) acc [92, 92] (.slice (some ⟨a2, 0, none⟩) 2 c2) 87 3 5 Tryz.underlying87 HI.out (Nat.le_refl _) (buf_drew hB.out) (holds_of_reads HRp.out.b) hle2
              clear hc HN hB HX
              go_wp2
              go_region_law (refine ite_yes (by rfl) ?_; obtain ⟨w7, hr7, hb7⟩ := HCP.out; refine Lib.wp_copy_run _ (.tmp 105) (.tmp 111) 87 87 rfl _ _ rfl rfl hr7 ?_)
              all_goals
                go_wp2
                go_roundw
              all_goals first | exact ⟨k + 1, by omega, by rw [HN2.out, List.length_append]; go_num, by go_num, by rw [HN2.out]; exact hb7⟩ | (simp [intOf]; omega)
            · have yk : wr.cell? ⟨g, s[k].toNat, none⟩ = some (.slice none 0 0) := by
                rw [HX.out.row _ hb]
                unfold repV
                rw [if_neg (show ¬ s[k].toNat = 34 from fun e => hc (UInt8.toNat_inj.1 e)), if_neg (show ¬ s[k].toNat = 92 from fun e => hc2 (UInt8.toNat_inj.1 e))]
              have HN2 : Hid (escB (l.take (k + 1)) = acc ++ [s[k]]) := by show _ = _; rw [HN.out, if_neg hc, if_neg hc2]
              have hle2 : acc.length < s.size + m := by
                have := HF.out
                rw [HN2.out, List.length_append] at this
                exact this
              obtain ⟨uu, huu⟩ := Option.isSome_iff_exists.1 (hB.out.there _ hle2)
              have hfr := hB.out.free _ hle2
              have HB2 := Lib.hid (buf_put hB.out hle2 s[k])
              have j1 : (acc.length : Int) < ((s.size : Int) + (m : Int)) := by omega
              clear hc hc2 HN hB HX
              go_wp2
              go_roundw
              case rel => exact ⟨k + 1, by omega, by rw [HN2.out, List.length_append]; go_num, by go_num, by rw [HN2.out]; exact HB2.out⟩
              case measure => simp [intOf]; omega
        · have i1 : ¬ (k : Int) < (s.size : Int) := by omega
          have hE : l.take k = l := List.take_of_length_le (by rw [HL.out]; omega)
          rw [hE] at hB
          rw [hE]
          have hcv := conv_reads (buf_reads hB.out HLE.out)
          have HBl := Lib.hid hB.out.below
          clear hE hB
          go_wp2
          go_ret
          exact ⟨rfl, HBl.out⟩
end Go.Proofs.YtnehgbpfgehhiaaGreatDoor.Path
