/-
  REPLY, the program: Print.
-/
import Derived.Test.YthkabehojmncmaaDoorRepPrt
namespace Go.Proofs.YthkabehojmncmaaDoor.Reply
open Go.RowKit Base
theorem line_parts (n : Nat) (fin : Bool) (x : List UInt8) : lineB n fin x = ((digs n ++ [markB fin]) ++ x) ++ [13, 10] := by simp [lineB]
set_option maxHeartbeats 8000000 in
set_option maxRecDepth 100000 in
theorem pPrint (c : Int) (lv : Value) (ls : List (List UInt8)) (w : World) (hv : Vars w) (hr : VReads w lv (ls.map S)) (hn : ls.length ≤ 9223372036854775000) (hl : ∀ k, (ls.getD k []).length ≤ 9223372036854775000) :
    Calls Tryd.prog 12 #[replyV c lv] w (PrintEnd c ls w) := by
  have HEND : Hid (∀ e w', PrintEnd c ls w e w' = PrintEnd c ls w e w') := fun _ _ => rfl
  have HRT : Hid (∀ w1, VReads w1 lv (ls.map S) → Calls Tryd.prog 10 #[replyV c lv] w1 fun e w' => e = .returned (.bool (rightB c ls)) ∧ Below w1.heap.size w1 w') := fun w1 h => pRight c lv ls w1 h hn hl
  have hba := Below.alloc1 w (.cells #[.int .i64 c, lv] 24)
  have HB0 := Lib.hid hba
  have hvx : VReads (w.alloc (.cells #[.int .i64 c, lv] 24)) lv (ls.map S) := hr.kept fun b _ hb => hba.block b hb
  have HV0 := Lib.hid (hv.on hba)
  have HBX0 := Lib.hid (BoxR.new w c lv)
  have HRT0 : Hid (Calls Tryd.prog 10 #[replyV c lv] (w.alloc (.cells #[.int .i64 c, lv] 24)) fun e w' => e = .returned (.bool (rightB c ls)) ∧ Below (w.alloc (.cells #[.int .i64 c, lv] 24)).heap.size (w.alloc (.cells #[.int .i64 c, lv] 24)) w') := HRT.out _ hvx
  have HBC := Lib.hid hba
  cases hright : rightB c ls with
  | false =>
    have HE : Hid (∀ w', Below w.heap.size w w' → PrintEnd c ls w (.returned (.tuple #[.slice none 0 0, .int .i64 141])) w') := fun w' hb => end_no hright hb
    rw [hright] at HRT0
    obtain ⟨g, hg⟩ : ∃ g, g = w.heap.size := ⟨_, rfl⟩
    clear hright hr hvx hl hn hv HBX0 HV0 hba
    go_enter Tryd.func12, Tryd.ntmps12
    go_wp2_with (first | (go_at_call 10; refine HRT0.out.mono ?_; rintro ee w1 ⟨rfl, hb⟩; refine Hid.out ?_) | fail)
    refine Lib.hid ?_
    have HB1 : Hid (Below w.heap.size w w1) := HBC.out.trans (hb.mono HBC.out.size)
    clear hb
    go_wp2
    go_ret2
    exact HE.out _ HB1.out
  | true =>
    obtain ⟨r1, r2, r3, r4⟩ := right_parts hright
    have hrg := codeB_rng r1
    obtain ⟨n, rfl⟩ : ∃ n : Nat, c = n := ⟨c.toNat, by omega⟩
    rcases rows_of hr with ⟨rfl, _⟩ | ⟨h0, b, o, cc, rfl, hcap, hrow⟩
    · simp at r2
    have HR0 := Lib.hid (hrow.on hba)
    have HE : Hid (∀ w' v, Owns w' w.heap.size v (printB n ls) → Below w.heap.size w w' → PrintEnd (n : Int) ls w (.returned (.tuple #[v, .int .i64 0])) w') := fun w' v h1 h2 => end_yes hright rfl h1 h2
    rw [hright] at HRT0
    have HALL := Lib.hid r4
    obtain ⟨N, hNN⟩ : ∃ N, N = ls.length := ⟨_, rfl⟩
    have HN := Lib.hid hNN
    have HPR : Hid (printB n ls = outK n ls N) := by show _ = _; rw [hNN]; rfl
    rw [← hNN] at HBX0 HRT0 HBC HB0 HV0 HR0 hcap r3 ⊢
    have n1 : 200 ≤ n := by omega
    have n2 : n ≤ 599 := by omega
    clear hright hr hvx hl hn hv r1 r2 r4 hrow hNN hba HRT h0
    go_enter Tryd.func12, Tryd.ntmps12
    go_wp2_with (first | (go_at_call 10; refine HRT0.out.mono ?_; rintro ee w1 ⟨rfl, hb⟩; refine Hid.out ?_) | fail)
    refine Lib.hid ?_
    have HB1 : Hid (Below w.heap.size w w1) := HBC.out.trans (hb.mono HBC.out.size)
    have HBX1 : Hid (BoxR w1 w.heap.size n (.slice (some ⟨b, o, none⟩) N cc)) := HBX0.out.on hb
    have HR1 : Hid (RowS w1 b o ls) := HR0.out.on hb
    have HV1 : Hid (Vars w1) := HV0.out.on hb
    obtain ⟨bx0, bx1⟩ := HBX1.out.cells
    have HTB : Hid (Lib.TabBelow Tryd.prog w1.heap.size w1 "internal/strconv.uint64pow10" .u64 Lib.pow10Tab) := Lib.tabBelow_of_tabIs HV1.out.pow
    obtain ⟨g, hg⟩ : ∃ g, g = w.heap.size := ⟨_, rfl⟩
    rw [← hg] at bx0 bx1 HBX1 ⊢
    clear hb HBC HBX0 HR0 HV0 HB0 HRT0 hg
    go_wp2
    go_loopw [4, 5, 6, 13] (fun bv _ _ kv wr => ∃ (k : Nat) (v : Value), k ≤ N ∧ kv = .int .i64 (k : Int) ∧ bv = v ∧ Hid (Owns wr w1.heap.size v (outK n ls k)) ∧ Hid (Below w1.heap.size w1 wr)) (fun _ _ _ kv _ => N - (intOf kv).toNat)
    case atStart => exact ⟨0, _, by omega, rfl, rfl, owns_nil w1 _, Below.refl _ _⟩
    case round =>
      obtain ⟨k, v, hk, rfl, hbv, HO, HB⟩ := hrel
      obtain rfl : v = _ := hbv.symm
      by_cases hlt : k < N
      · have i0 : (0 : Int) ≤ (k : Int) := by omega
        have i1 : (k : Int) < (N : Int) := by omega
        have hcell := (HR1.out.on HB.out) k (by rw [← HN.out]; exact hlt)
        obtain ⟨cx0, cx1⟩ := (HBX1.out.on HB.out).cells
        have HSZ : Hid (w1.heap.size ≤ wr.heap.size) := HB.out.size
        have HOL : Hid ((outK n ls k).length ≤ 512 * k) := outK_len n HALL.out k
        have HXL : Hid ((ls.getD k []).length ≤ 506) := textB_len (all_get HALL.out k)
        have HS : Hid (outK n ls (k + 1) = outK n ls k ++ ((digs n ++ [markB (decide (k + 1 = N))]) ++ ls.getD k []) ++ [13, 10]) := by
          show _ = _
          rw [outK, HN.out, line_parts]; simp
        obtain ⟨out2, h2⟩ : ∃ out2, out2 = outK n ls (k + 1) := ⟨_, rfl⟩
        have H2 := Lib.hid h2
        rw [← h2] at HS
        clear h2
        generalize outK n ls k = out1 at HO HS HOL
        generalize ls.getD k [] = x at hcell HS HXL
        have HAP : Hid (Calls Tryd.prog 25 #[v, .int .i64 (n : Int), .int .i64 10] wr fun e w' => ∃ v', e = .returned v' ∧ Owns w' w1.heap.size v' (out1 ++ digs n) ∧ Below w1.heap.size wr w') := pAppend n w1.heap.size v out1 wr HO.out HSZ.out n1 n2 (by have := HOL.out; omega) (HTB.out.on HB.out)
        have HMK : Hid (∀ w2, Calls Tryd.prog 26 #[.int .i64 (k : Int), .slice (some ⟨b, o, none⟩) N cc] w2 fun e w' => e = .returned (.int .u8 ((markB (decide (k + 1 = N))).toNat : Int)) ∧ w2 = w') := fun w2 => pMark k N cc _ w2 (by omega)
        generalize markB (decide (k + 1 = N)) = m at HS HMK
        have hol := HOL.out
        have hxl := HXL.out
        have hdl : (digs n).length = 3 := rfl
        generalize digs n = D at HS HAP hdl
        clear HOL HXL
        go_wp2_with (first | (go_at_call 25; refine HAP.out.mono ?_; rintro ee w2 ⟨v2, rfl, own2, b2⟩; refine Hid.out ?_) | fail)
        refine Lib.hid ?_
        have HB2 : Hid (Below w1.heap.size w1 w2) := HB.out.trans b2
        have HO2 := Lib.hid own2
        obtain ⟨dx0, dx1⟩ := (HBX1.out.on HB2.out).cells
        clear own2 b2 HO HAP cx0 cx1 hcell
        go_wp2_with (first | (go_at_call 26; refine (HMK.out _).mono ?_; rintro ee w3 ⟨rfl, rfl⟩; refine Hid.out ?_) | fail)
        refine Lib.hid ?_
        go_wp2_with (at_builtin; go_must (refine wp_append_reads _ rfl _ _ rfl w1.heap.size v2 _ (out1 ++ D) [m] rfl rfl (HO2.out.on (Below.alloc1 w2 _)) (reads_one w2 5 _ m rfl) (by simp; omega) (Nat.le_trans HB2.out.size (Below.alloc1 w2 _).size) ?_); intro v3 w3 own3 b3; refine Hid.out ?_)
        refine Lib.hid ?_
        have HB3 : Hid (Below w1.heap.size w1 w3) := (HB2.out.trans ((Below.alloc1 w2 _).mono HB2.out.size)).trans b3
        have HO3 := Lib.hid own3
        clear own3 b3 HO2 dx0 dx1
        go_wp2_with (at_builtin; go_must (refine wp_append_str _ rfl _ _ rfl w1.heap.size v3 ((out1 ++ D) ++ [m]) ⟨x.toArray⟩ rfl rfl HO3.out (by show ((out1 ++ D) ++ [m]).length + x.toArray.size ≤ _; simp; omega) HB3.out.size ?_); intro v4 w4 own4 b4; refine Hid.out ?_)
        refine Lib.hid ?_
        have HB4 : Hid (Below w1.heap.size w1 w4) := HB3.out.trans b4
        have HO4 : Hid (Owns w4 w1.heap.size v4 (((out1 ++ D) ++ [m]) ++ x)) := own4
        clear own4 b4 HO3
        go_wp2_with (at_builtin; go_must (refine wp_append_str _ rfl _ _ rfl w1.heap.size v4 (((out1 ++ D) ++ [m]) ++ x) ⟨#[13, 10]⟩ rfl rfl HO4.out (by show (((out1 ++ D) ++ [m]) ++ x).length + 2 ≤ _; simp; omega) HB4.out.size ?_); intro v5 w5 own5 b5; refine Hid.out ?_)
        refine Lib.hid ?_
        have HB5 : Hid (Below w1.heap.size w1 w5) := HB4.out.trans b5
        have HO5 : Hid (Owns w5 w1.heap.size v5 out2) := by
          show Owns _ _ _ _
          rw [HS.out, show out1 ++ ((D ++ [m]) ++ x) ++ [13, 10] = (((out1 ++ D) ++ [m]) ++ x) ++ [13, 10] by simp]
          exact own5
        clear own5 b5 HO4
        go_wp2
        go_roundw
        case rel => exact ⟨k + 1, v5, by omega, by go_num, rfl, by rw [← H2.out]; exact HO5, HB5⟩
        case measure => simp [intOf]; omega
      · have i1 : ¬ (k : Int) < (N : Int) := by omega
        have hkn : k = N := by omega
        have HF : Hid (PrintEnd (n : Int) ls w (.returned (.tuple #[v, .int .i64 0])) wr) := HE.out wr v (by rw [HPR.out, ← hkn]; exact HO.out.mono HB1.out.size) (HB1.out.trans (HB.out.mono HB1.out.size))
        clear hkn HO
        go_wp2
        go_ret2
        exact HF.out
end Go.Proofs.YthkabehojmncmaaDoor.Reply
