/-
  LINES, the program: Next: plain; what is wrong with a line.
-/
import Derived.Test.YtgiooblopdoobaaLpObj
import Derived.Deep.CutBlock
import Derived.Deep.DeepCutAuto
namespace Go.Proofs.Ytgiooblopdoobaa.Lines
open Go.RowKit Base
theorem endOf_drop : ∀ (l : List UInt8) (s : Nat), s ≤ endOf l → endOf (l.drop s) = endOf l - s
  | l, 0, _ => by simp
  | [], s + 1, h => by simp [endOf] at h
  | c :: r, s + 1, h => by
    rw [endOf] at h ⊢
    split at h
    · omega
    · rw [if_neg ‹_›]
      have := endOf_drop r s (by omega)
      rw [List.drop_succ_cons, this]
      omega
theorem snoc_suffix (x : List UInt8) (a b : UInt8) : Lib.hasSuffix (x ++ [a]) [b] = decide (a = b) := by
  rw [Bool.eq_iff_iff]
  unfold Lib.hasSuffix
  rw [List.isSuffixOf_iff_suffix, decide_eq_true_eq]
  constructor
  · rintro ⟨t, ht⟩
    have := congrArg List.getLast? ht
    simpa using this.symm
  · rintro rfl
    exact ⟨x, rfl⟩
theorem cut_bare (x : List UInt8) : (Lib.trimSuffix x [13], Lib.hasSuffix x [13]) = bareOf x := by
  rcases List.eq_nil_or_concat x with rfl | ⟨y, a, rfl⟩
  · rfl
  · rw [List.concat_eq_append]
    unfold Lib.trimSuffix bareOf
    rw [snoc_suffix]
    by_cases h : a = 13
    · subst h
      simp
    · have h2 : ¬ a.toNat = 13 := fun e => h (UInt8.toNat_inj.1 e)
      simp [h, h2]
theorem bare_take (x : List UInt8) : (bareOf x).1 = x.take (bareOf x).1.length ∧ (bareOf x).1.length ≤ x.length := by
  unfold bareOf
  split
  · simp
  · simp
theorem conv_one (w : World) (d : Int) : (convert 32 32 (.slice (some ⟨w.heap.size, 0, none⟩) 1 1)).run Try.prog (w.alloc (.cells #[.int .u8 d] 5)) = .ok (.slice (some ⟨w.heap.size, 0, none⟩) 1 1) (w.alloc (.cells #[.int .u8 d] 5 (1, 2))) :=
  Lib.run_convert_bytes_const (P := Try.prog) w 32 5 #[.int .u8 d] 1 1 Try.underlying32 Try.underlying5
theorem one_reads (w : World) (d : UInt8) : Reads (w.alloc (.cells #[.int .u8 (d.toNat : Int)] 5 (1, 2))) (.slice (some ⟨w.heap.size, 0, none⟩) 1 1) [d] :=
  reads_lit w 5 _ [d] 1 rfl rfl (1, 2)
set_option maxHeartbeats 1600000 in
set_option maxRecDepth 100000 in
theorem pWrong {w : World} {A : Option Addr} {n c g : Nat} {y : List UInt8} (h : Reads w (.slice A n c) y) (most : Nat) (hm : w.cell? ⟨g, 0, none⟩ = some (.int .i64 (most : Int))) (ends : Bool) :
    Calls Try.prog 25 #[.pointer (some ⟨g, 0, none⟩), .slice A n c, .bool ends] w fun e w' => e = .returned (.int .i64 ((tellOf most y ends).2 : Int)) ∧ w = w' := by
  obtain ⟨hn, hnc⟩ := reads_len h
  have HH0 : Hid (Calls Try.prog 28 #[.slice A n c, .int .u8 0] w (fun e w' => e = .returned (.bool (hasB 0 y)) ∧ w = w')) := pHas h 0
  have HH13 : Hid (Calls Try.prog 28 #[.slice A n c, .int .u8 13] w (fun e w' => e = .returned (.bool (hasB 13 y)) ∧ w = w')) := pHas h 13
  obtain ⟨b0, hb0⟩ : ∃ b0, b0 = hasB 0 y := ⟨_, rfl⟩
  obtain ⟨b13, hb13⟩ : ∃ b13, b13 = hasB 13 y := ⟨_, rfl⟩
  have HT : Hid ((tellOf most y ends).2 = if most < n then 120 else if b0 = true then 122 else if ends = false ∨ b13 = true then 121 else 0) := by
    show _ = _
    unfold tellOf
    rw [hn, hb0, hb13]
    split
    · rfl
    · split
      · rfl
      · split <;> rfl
  rw [← hb0] at HH0
  rw [← hb13] at HH13
  obtain ⟨code, hcode⟩ : ∃ code, code = (tellOf most y ends).2 := ⟨_, rfl⟩
  rw [← hcode] at HT ⊢
  clear h hb0 hb13 hcode hn
  by_cases hl : most < n
  · have hli : (most : Int) < (n : Int) := by omega
    have HC : Hid (code = 120) := by show _ = _; rw [HT.out, if_pos hl]
    clear HT hl
    go_enter Try.func25, Try.ntmps25
    go_wp2
    go_ret
    rw [HC.out]
    exact ⟨rfl, rfl⟩
  · have hli : ¬ (most : Int) < (n : Int) := by omega
    have HC : Hid (code = if b0 = true then 122 else if ends = false ∨ b13 = true then 121 else 0) := by show _ = _; rw [HT.out, if_neg hl]
    clear HT hl
    cases b0
    · cases ends
      · have HC2 : Hid (code = 121) := by show _ = _; rw [HC.out]; simp
        clear HC HH13
        go_enter Try.func25, Try.ntmps25
        go_wp2_with (first | (go_at_call 28; refine HH0.out.mono ?_; rintro ee w1 ⟨rfl, rfl⟩; refine Hid.out ?_) | fail)
        refine Lib.hid ?_
        go_wp2
        go_ret
        rw [HC2.out]
        exact ⟨rfl, rfl⟩
      · cases b13
        case' false => have HC2 : Hid (code = 0) := by show _ = _; rw [HC.out]; simp
        case' true => have HC2 : Hid (code = 121) := by show _ = _; rw [HC.out]; simp
        all_goals
          clear HC
          go_enter Try.func25, Try.ntmps25
          go_wp2_with (first | (go_at_call 28; refine HH0.out.mono ?_; rintro ee w1 ⟨rfl, rfl⟩; refine Hid.out ?_) | fail)
          refine Lib.hid ?_
          go_wp2_with (first | (go_at_call 28; refine HH13.out.mono ?_; rintro ee w1 ⟨rfl, rfl⟩; refine Hid.out ?_) | fail)
          refine Lib.hid ?_
          go_wp2
          go_ret
          rw [HC2.out]
          exact ⟨rfl, rfl⟩
    · have HC2 : Hid (code = 122) := by show _ = _; rw [HC.out]; simp
      clear HC HH13
      go_enter Try.func25, Try.ntmps25
      go_wp2_with (first | (go_at_call 28; refine HH0.out.mono ?_; rintro ee w1 ⟨rfl, rfl⟩; refine Hid.out ?_) | fail)
      refine Lib.hid ?_
      go_wp2
      go_ret
      rw [HC2.out]
      exact ⟨rfl, rfl⟩
def PNextEnd (g : Nat) (v : Value) (most : Nat) (l : List UInt8) (w : World) (e : Ending) (w' : World) : Prop :=
  if endOf l < l.length then
    ∃ u v', e = .returned (.tuple #[u, .int .i64 ((lineTold most (l.take (endOf l))).2 : Int), .bool true]) ∧ Owns w' w.heap.size u (lineTold most (l.take (endOf l))).1
      ∧ KeepR g v w w' ∧ PdAt w' g v' most 0 (l.drop (endOf l + 1)) ∧ v'.ownBlock = v.ownBlock
  else e = .returned (.tuple #[.slice none 0 0, .int .i64 0, .bool false]) ∧ KeepR g v w w' ∧ PdAt w' g v most l.length l
end Go.Proofs.Ytgiooblopdoobaa.Lines
