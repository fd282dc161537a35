/-
  REPLY, the given answers: Print.
-/
import Derived.Test.YthkabehojmncmaaDoorRepPrintP
namespace Go.Proofs.YthkabehojmncmaaDoor.Reply
open Go.RowKit Base
set_option maxHeartbeats 8000000 in
set_option maxRecDepth 100000 in
theorem rPrint (c : Int) (lv : Value) (ls : List (List UInt8)) (w : World) (hr : VReads w lv (ls.map S)) (hn : ls.length ≤ 9223372036854775000) (hl : ∀ k, (ls.getD k []).length ≤ 9223372036854775000) :
    Calls Tryd.prog 13 #[replyV c lv] w (PrintEnd c ls w) := by
  have HEND : Hid (∀ e w', PrintEnd c ls w e w' = PrintEnd c ls w e w') := fun _ _ => rfl
  have HRT : Hid (∀ w1, VReads w1 lv (ls.map S) → Calls Tryd.prog 11 #[replyV c lv] w1 fun e w' => e = .returned (.bool (rightB c ls)) ∧ Below w1.heap.size w1 w') := fun w1 h => rRight c lv ls w1 h hn hl
  have hba := Below.alloc1 w (.cells #[.int .i64 c, lv] 24)
  have HB0 := Lib.hid hba
  have hvx : VReads (w.alloc (.cells #[.int .i64 c, lv] 24)) lv (ls.map S) := hr.kept fun b _ hb => hba.block b hb
  have HBX0 := Lib.hid (BoxR.new w c lv)
  have HRT0 : Hid (Calls Tryd.prog 11 #[replyV c lv] (w.alloc (.cells #[.int .i64 c, lv] 24)) fun e w' => e = .returned (.bool (rightB c ls)) ∧ Below (w.alloc (.cells #[.int .i64 c, lv] 24)).heap.size (w.alloc (.cells #[.int .i64 c, lv] 24)) w') := HRT.out _ hvx
  have HBC := Lib.hid hba
  cases hright : rightB c ls with
  | false =>
    have HE : Hid (∀ w', Below w.heap.size w w' → PrintEnd c ls w (.returned (.tuple #[.slice none 0 0, .int .i64 141])) w') := fun w' hb => end_no hright hb
    rw [hright] at HRT0
    obtain ⟨g, hg⟩ : ∃ g, g = w.heap.size := ⟨_, rfl⟩
    clear hright hr hvx hl hn HBX0 hba
    go_enter Tryd.func13, Tryd.ntmps13
    go_wp2_with (first | (go_at_call 11; refine HRT0.out.mono ?_; rintro ee w1 ⟨rfl, hb⟩; refine Hid.out ?_) | fail)
    refine Lib.hid ?_
    have HB1 : Hid (Below w.heap.size w w1) := HBC.out.trans (hb.mono HBC.out.size)
    clear hb
    go_wp2
    go_ret2
    exact HE.out _ HB1.out
  | true =>
    obtain ⟨r1, r2, r3, r4⟩ := right_parts hright
    have hrg := codeB_rng r1
    obtain ⟨n, rfl⟩ : ∃ n : Nat, c = n := ⟨c.toNat, by omega⟩
    rcases rows_of hr with ⟨rfl, _⟩ | ⟨h0, b, o, cc, rfl, hcap, hrow⟩
    · simp at r2
    have HR0 := Lib.hid (hrow.on hba)
    have HE : Hid (∀ w' v, Owns w' w.heap.size v (printB n ls) → Below w.heap.size w w' → PrintEnd (n : Int) ls w (.returned (.tuple #[v, .int .i64 0])) w') := fun w' v h1 h2 => end_yes hright rfl h1 h2
    rw [hright] at HRT0
    have HALL := Lib.hid r4
    obtain ⟨N, hNN⟩ : ∃ N, N = ls.length := ⟨_, rfl⟩
    have HN := Lib.hid hNN
    have HPR : Hid (printB n ls = outK n ls N) := by show _ = _; rw [hNN]; rfl
    rw [← hNN] at HBX0 HRT0 HBC HB0 HR0 hcap r3 ⊢
    have n1 : 200 ≤ n := by omega
    have n2 : n ≤ 599 := by omega
    clear hright hr hvx hl hn r1 r2 r4 hrow hNN hba HRT h0
    go_enter Tryd.func13, Tryd.ntmps13
    go_wp2_with (first | (go_at_call 11; refine HRT0.out.mono ?_; rintro ee w1 ⟨rfl, hb⟩; refine Hid.out ?_) | fail)
    refine Lib.hid ?_
    have HB1 : Hid (Below w.heap.size w w1) := HBC.out.trans (hb.mono HBC.out.size)
    have HBX1 : Hid (BoxR w1 w.heap.size n (.slice (some ⟨b, o, none⟩) N cc)) := HBX0.out.on hb
    have HR1 : Hid (RowS w1 b o ls) := HR0.out.on hb
    obtain ⟨bx0, bx1⟩ := HBX1.out.cells
    obtain ⟨g, hg⟩ : ∃ g, g = w.heap.size := ⟨_, rfl⟩
    rw [← hg] at bx0 bx1 HBX1 ⊢
    clear hb HBC HBX0 HR0 HB0 HRT0 hg
    have HDG : Hid (∀ w2, Calls Tryd.prog 27 #[.int .i64 (n : Int)] w2 fun e w' => e = .returned (S (digs n)) ∧ Below w2.heap.size w2 w') := fun w2 => rDigits n w2 n1 n2
    have HDL : Hid ((digs n).length = 3) := rfl
    go_wp2_with (first | (go_at_call 27; refine (HDG.out _).mono ?_; rintro ee w2 ⟨rfl, hb⟩; refine Hid.out ?_) | fail)
    refine Lib.hid ?_
    have HB2 : Hid (Below w.heap.size w w2) := HB1.out.trans (hb.mono HB1.out.size)
    have HBX2 : Hid (BoxR w2 g n (.slice (some ⟨b, o, none⟩) N cc)) := HBX1.out.on hb
    have HR2 : Hid (RowS w2 b o ls) := HR1.out.on hb
    clear hb HB1 HBX1 HR1 bx0 bx1
    go_wp2
    go_loopw [5, 7, 8] (fun bv kv _ wr => ∃ (k : Nat) (v : Value), k ≤ N ∧ kv = .int .i64 (k : Int) ∧ bv = v ∧ Hid (Owns wr w2.heap.size v (outK n ls k)) ∧ Hid (Below w2.heap.size w2 wr)) (fun _ kv _ _ => N - (intOf kv).toNat)
    case atStart => exact ⟨0, _, by omega, rfl, rfl, owns_nil w2 _, Below.refl _ _⟩
    case round =>
      obtain ⟨k, v, hk, rfl, hbv, HO, HB⟩ := hrel
      obtain rfl : v = _ := hbv.symm
      obtain ⟨cx0, cx1⟩ := (HBX2.out.on HB.out).cells
      by_cases hlt : k < N
      · have i0 : (0 : Int) ≤ (k : Int) := by omega
        have i1 : (k : Int) < (N : Int) := by omega
        have hcell := (HR2.out.on HB.out) k (by rw [← HN.out]; exact hlt)
        have HSZ : Hid (w2.heap.size ≤ wr.heap.size) := HB.out.size
        have HOL : Hid ((outK n ls k).length ≤ 512 * k) := outK_len n HALL.out k
        have HXL : Hid ((ls.getD k []).length ≤ 506) := textB_len (all_get HALL.out k)
        have HS : Hid (outK n ls (k + 1) = outK n ls k ++ (((digs n ++ [markB (decide (k + 1 = N))]) ++ ls.getD k []) ++ [13, 10])) := by
          show _ = _
          rw [outK, HN.out, line_parts]
        obtain ⟨out2, h2⟩ : ∃ out2, out2 = outK n ls (k + 1) := ⟨_, rfl⟩
        have H2 := Lib.hid h2
        rw [← h2] at HS
        clear h2
        generalize outK n ls k = out1 at HO HS HOL
        generalize ls.getD k [] = x at hcell HS HXL
        have hol := HOL.out
        have hxl := HXL.out
        have hdl := HDL.out
        clear HOL HXL
        by_cases hkf : k + 1 = N
        · have q : ((k : Int) == (N : Int) - 1) = true := by rw [beq_iff_eq]; omega
          rw [decide_eq_true hkf] at HS
          have HS2 : Hid (out2 = out1 ++ (((digs n ++ [32]) ++ x) ++ [13, 10])) := HS.out
          generalize digs n = D at HS2 hdl ⊢
          have z1 : D.toArray.size = 3 := by simpa using hdl
          have z2 : x.toArray.size ≤ 506 := by simpa using hxl
          clear HS hkf
          go_wp2_with (at_builtin; go_must (refine wp_append_str _ rfl _ _ rfl w2.heap.size v out1 (⟨D.toArray⟩ ++ ⟨#[32]⟩ ++ ⟨x.toArray⟩ ++ ⟨#[13, 10]⟩) rfl rfl HO.out (by rw [ByteArray.size_append, ByteArray.size_append, ByteArray.size_append]; show out1.length + (D.toArray.size + 1 + x.toArray.size + 2) ≤ _; omega) HSZ.out ?_); intro v5 w5 own5 b5; refine Hid.out ?_)
          refine Lib.hid ?_
          have HB5 : Hid (Below w2.heap.size w2 w5) := HB.out.trans b5
          have HO5 : Hid (Owns w5 w2.heap.size v5 out2) := by
            rw [Joins.data_append, Joins.data_append, Joins.data_append] at own5
            show Owns _ _ _ _
            rw [HS2.out]
            exact own5
          clear own5 b5
          go_wp2
          go_roundw
          case rel => exact ⟨k + 1, v5, by omega, by go_num, rfl, by rw [← H2.out]; exact HO5, HB5⟩
          case measure => simp [intOf]; omega
        · have q : ((k : Int) == (N : Int) - 1) = false := by rw [beq_eq_false_iff_ne]; omega
          rw [decide_eq_false hkf] at HS
          have HS2 : Hid (out2 = out1 ++ (((digs n ++ [45]) ++ x) ++ [13, 10])) := HS.out
          generalize digs n = D at HS2 hdl ⊢
          have z1 : D.toArray.size = 3 := by simpa using hdl
          have z2 : x.toArray.size ≤ 506 := by simpa using hxl
          clear HS hkf
          go_wp2_with (at_builtin; go_must (refine wp_append_str _ rfl _ _ rfl w2.heap.size v out1 (⟨D.toArray⟩ ++ ⟨#[45]⟩ ++ ⟨x.toArray⟩ ++ ⟨#[13, 10]⟩) rfl rfl HO.out (by rw [ByteArray.size_append, ByteArray.size_append, ByteArray.size_append]; show out1.length + (D.toArray.size + 1 + x.toArray.size + 2) ≤ _; omega) HSZ.out ?_); intro v5 w5 own5 b5; refine Hid.out ?_)
          refine Lib.hid ?_
          have HB5 : Hid (Below w2.heap.size w2 w5) := HB.out.trans b5
          have HO5 : Hid (Owns w5 w2.heap.size v5 out2) := by
            rw [Joins.data_append, Joins.data_append, Joins.data_append] at own5
            show Owns _ _ _ _
            rw [HS2.out]
            exact own5
          clear own5 b5
          go_wp2
          go_roundw
          case rel => exact ⟨k + 1, v5, by omega, by go_num, rfl, by rw [← H2.out]; exact HO5, HB5⟩
          case measure => simp [intOf]; omega
      · have i1 : ¬ (k : Int) < (N : Int) := by omega
        have hkn : k = N := by omega
        have HF : Hid (PrintEnd (n : Int) ls w (.returned (.tuple #[v, .int .i64 0])) wr) := HE.out wr v (by rw [HPR.out, ← hkn]; exact HO.out.mono HB2.out.size) (HB2.out.trans (HB.out.mono HB2.out.size))
        clear hkn HO
        go_wp2
        go_ret2
        exact HF.out
end Go.Proofs.YthkabehojmncmaaDoor.Reply
