/-
  REPLY: the status of a line: the given answers, the program.
-/
import Derived.Test.YthkabehojmncmaaDoorRepCut
namespace Go.Proofs.YthkabehojmncmaaDoor.Reply
open Go.RowKit Base
def statV : Stat → Value
  | some o => .tuple #[.int .i64 (o.1 : Int), .int .i64 (o.2.1 : Int), .int .i64 (o.2.2 : Int), .bool true]
  | none => .tuple #[.int .i64 0, .int .i64 0, .int .i64 0, .bool false]
theorem results_tmp4 {fn : Func} {t u v x : Tmp} (h : fn.results = #[.tmp t, .tmp u, .tmp v, .tmp x]) (tmps : Array Value) (P : Program) (w : World) :
    (results fn tmps).run P w = .ok (.tuple #[tmps.getD t undef, tmps.getD u undef, tmps.getD v undef, tmps.getD x undef]) w := by
  simp [results, h]
theorem cut_len (c : UInt8) (l : List UInt8) : (cutB c l).1.length ≤ l.length ∧ (cutB c l).2.1.length ≤ l.length := by
  rcases cutB_form c l with ⟨_, h, _⟩ | ⟨_, h, h2, _⟩
  · have := congrArg List.length h
    simp at this; omega
  · rw [h2, ← h]; simp
set_option maxHeartbeats 8000000 in
set_option maxRecDepth 100000 in
theorem pStatus (s : ByteArray) (w : World) (hs : s.size ≤ 9223372036854775000) : Calls Tryd.prog 19 #[.string s] w fun e w' => e = .returned (statV (statP s.data.toList)) ∧ Below w.heap.size w w' := by
  have hlen := str_len s
  obtain ⟨l, hll⟩ : ∃ l, l = s.data.toList := ⟨_, rfl⟩
  have HC1 : Hid (Calls Tryd.prog 31 #[.string s, .string ⟨#[32]⟩] w fun e w' => e = .returned (.tuple #[S (cutB 32 l).1, S (cutB 32 l).2.1, .bool (cutB 32 l).2.2]) ∧ Below w.heap.size w w') := by rw [hll]; exact pCut s 32 w hs
  have HC : Hid (∀ (x : List UInt8) w1, x.length ≤ 9223372036854775000 → Calls Tryd.prog 31 #[S x, .string ⟨#[46]⟩] w1 fun e w' => e = .returned (.tuple #[S (cutB 46 x).1, S (cutB 46 x).2.1, .bool (cutB 46 x).2.2]) ∧ Below w1.heap.size w1 w') := fun x w1 hx => pCut ⟨x.toArray⟩ 46 w1 (by rw [← str_len]; exact hx)
  have HN : Hid (∀ (x : List UInt8) w1, x.length ≤ 9223372036854775000 → Calls Tryd.prog 32 #[S x] w1 fun e w' => e = .returned (optV (numP x)) ∧ Below w1.heap.size w1 w') := fun x w1 hx => pNumber ⟨x.toArray⟩ w1 (by rw [← str_len]; show x.length ≤ _; omega)
  have HST : Hid (statV (statP l) = statV (match numP (cutB 46 (cutB 32 l).1).1, numP (cutB 46 (cutB 46 (cutB 32 l).1).2.1).1, numP (cutB 46 (cutB 46 (cutB 32 l).1).2.1).2.1 with
    | some a, some b, some c => if a = 2 ∨ a = 4 ∨ a = 5 then some (a, b, c) else none
    | _, _, _ => none)) := rfl
  have l1 := (cut_len 32 l).1
  have l2 := cut_len 46 (cutB 32 l).1
  have l3 := cut_len 46 (cutB 46 (cutB 32 l).1).2.1
  rw [← hll] at hlen ⊢
  have HL1 : Hid ((cutB 32 l).1.length ≤ 9223372036854775000) := by show _ ≤ _; omega
  have HL2 : Hid ((cutB 46 (cutB 32 l).1).1.length ≤ 9223372036854775000) := by show _ ≤ _; omega
  have HL3 : Hid ((cutB 46 (cutB 32 l).1).2.1.length ≤ 9223372036854775000) := by show _ ≤ _; omega
  have HL4 : Hid ((cutB 46 (cutB 46 (cutB 32 l).1).2.1).1.length ≤ 9223372036854775000) := by show _ ≤ _; omega
  have HL5 : Hid ((cutB 46 (cutB 46 (cutB 32 l).1).2.1).2.1.length ≤ 9223372036854775000) := by show _ ≤ _; omega
  clear l1 l2 l3 hlen hll
  have HC2 := Lib.hid (fun w1 => HC.out (cutB 32 l).1 w1 HL1.out)
  have HC3 := Lib.hid (fun w1 => HC.out (cutB 46 (cutB 32 l).1).2.1 w1 HL3.out)
  have HN1 := Lib.hid (fun w1 => HN.out (cutB 46 (cutB 32 l).1).1 w1 HL2.out)
  have HN2 := Lib.hid (fun w1 => HN.out (cutB 46 (cutB 46 (cutB 32 l).1).2.1).1 w1 HL4.out)
  have HN3 := Lib.hid (fun w1 => HN.out (cutB 46 (cutB 46 (cutB 32 l).1).2.1).2.1 w1 HL5.out)
  clear HC HN HL1 HL2 HL3 HL4 HL5
  generalize statP l = fin at HST ⊢
  generalize numP (cutB 46 (cutB 32 l).1).1 = a at HST HN1
  generalize numP (cutB 46 (cutB 46 (cutB 32 l).1).2.1).1 = b at HST HN2
  generalize numP (cutB 46 (cutB 46 (cutB 32 l).1).2.1).2.1 = c at HST HN3
  generalize (cutB 46 (cutB 46 (cutB 32 l).1).2.1).2.2 = f3 at HC3
  generalize (cutB 46 (cutB 46 (cutB 32 l).1).2.1).2.1 = z3 at HC3 HN3
  generalize (cutB 46 (cutB 46 (cutB 32 l).1).2.1).1 = y3 at HC3 HN2
  generalize (cutB 46 (cutB 32 l).1).2.2 = f2 at HC2
  generalize (cutB 46 (cutB 32 l).1).2.1 = z2 at HC2 HC3
  generalize (cutB 46 (cutB 32 l).1).1 = y2 at HC2 HN1
  generalize (cutB 32 l).2.2 = f1 at HC1
  generalize (cutB 32 l).2.1 = z1 at HC1
  generalize (cutB 32 l).1 = y1 at HC1 HC2
  go_enter Tryd.func19, Tryd.ntmps19
  go_wp2_with (first | (go_at_call 31; refine HC1.out.mono ?_; rintro ee w1 ⟨rfl, hb⟩; refine Hid.out ?_) | fail)
  refine Lib.hid ?_
  have HB1 : Hid (Below w.heap.size w w1) := hb
  clear hb HC1
  go_wp2_with (first | (go_at_call 31; refine (HC2.out w1).mono ?_; rintro ee w2 ⟨rfl, hb⟩; refine Hid.out ?_) | fail)
  refine Lib.hid ?_
  have HB2 : Hid (Below w.heap.size w w2) := HB1.out.trans (hb.mono HB1.out.size)
  clear hb HC2
  go_wp2_with (first | (go_at_call 31; refine (HC3.out w2).mono ?_; rintro ee w3 ⟨rfl, hb⟩; refine Hid.out ?_) | fail)
  refine Lib.hid ?_
  have HB3 : Hid (Below w.heap.size w w3) := HB2.out.trans (hb.mono HB2.out.size)
  clear hb HC3
  cases a with
  | none =>
    have HE : Hid (statV fin = .tuple #[.int .i64 0, .int .i64 0, .int .i64 0, .bool false]) := HST.out
    obtain ⟨bn, bb, hbe⟩ := opt_pair b
    obtain ⟨cn, cb, hce⟩ := opt_pair c
    have HN1' : Hid (∀ w1, Calls Tryd.prog 32 #[S y2] w1 fun e w' => e = .returned (.tuple #[.int .i64 0, .bool false]) ∧ Below w1.heap.size w1 w') := HN1.out
    rw [hbe] at HN2
    rw [hce] at HN3
    clear HST hbe hce HN1
    go_wp2_with (first | (go_at_call 32; refine (HN1'.out w3).mono ?_; rintro ee w4 ⟨rfl, hb⟩; refine Hid.out ?_) | fail)
    refine Lib.hid ?_
    have HB4 : Hid (Below w.heap.size w w4) := HB3.out.trans (hb.mono HB3.out.size)
    clear hb
    go_wp2_with (first | (go_at_call 32; refine (HN2.out w4).mono ?_; rintro ee w5 ⟨rfl, hb⟩; refine Hid.out ?_) | fail)
    refine Lib.hid ?_
    have HB5 : Hid (Below w.heap.size w w5) := HB4.out.trans (hb.mono HB4.out.size)
    clear hb
    go_wp2_with (first | (go_at_call 32; refine (HN3.out w5).mono ?_; rintro ee w6 ⟨rfl, hb⟩; refine Hid.out ?_) | fail)
    refine Lib.hid ?_
    have HB6 : Hid (Below w.heap.size w w6) := HB5.out.trans (hb.mono HB5.out.size)
    clear hb
    go_wp2
    ((try simp only [Exit.inBlock, Exit.then]); refine bodyPost_ret (results_tmp4 rfl _ _ _) rfl ?_)
    rw [HE.out]
    exact ⟨rfl, HB6.out⟩
  | some a =>
    have HN1' : Hid (∀ w1, Calls Tryd.prog 32 #[S y2] w1 fun e w' => e = .returned (.tuple #[.int .i64 (a : Int), .bool true]) ∧ Below w1.heap.size w1 w') := HN1.out
    clear HN1
    cases b with
    | none =>
      have HE : Hid (statV fin = .tuple #[.int .i64 0, .int .i64 0, .int .i64 0, .bool false]) := HST.out
      obtain ⟨cn, cb, hce⟩ := opt_pair c
      have HN2' : Hid (∀ w1, Calls Tryd.prog 32 #[S y3] w1 fun e w' => e = .returned (.tuple #[.int .i64 0, .bool false]) ∧ Below w1.heap.size w1 w') := HN2.out
      rw [hce] at HN3
      clear HST hce HN2
      go_wp2_with (first | (go_at_call 32; refine (HN1'.out w3).mono ?_; rintro ee w4 ⟨rfl, hb⟩; refine Hid.out ?_) | fail)
      refine Lib.hid ?_
      have HB4 : Hid (Below w.heap.size w w4) := HB3.out.trans (hb.mono HB3.out.size)
      clear hb
      go_wp2_with (first | (go_at_call 32; refine (HN2'.out w4).mono ?_; rintro ee w5 ⟨rfl, hb⟩; refine Hid.out ?_) | fail)
      refine Lib.hid ?_
      have HB5 : Hid (Below w.heap.size w w5) := HB4.out.trans (hb.mono HB4.out.size)
      clear hb
      go_wp2_with (first | (go_at_call 32; refine (HN3.out w5).mono ?_; rintro ee w6 ⟨rfl, hb⟩; refine Hid.out ?_) | fail)
      refine Lib.hid ?_
      have HB6 : Hid (Below w.heap.size w w6) := HB5.out.trans (hb.mono HB5.out.size)
      clear hb
      go_wp2
      ((try simp only [Exit.inBlock, Exit.then]); refine bodyPost_ret (results_tmp4 rfl _ _ _) rfl ?_)
      rw [HE.out]
      exact ⟨rfl, HB6.out⟩
    | some b =>
      have HN2' : Hid (∀ w1, Calls Tryd.prog 32 #[S y3] w1 fun e w' => e = .returned (.tuple #[.int .i64 (b : Int), .bool true]) ∧ Below w1.heap.size w1 w') := HN2.out
      clear HN2
      cases c with
      | none =>
        have HE : Hid (statV fin = .tuple #[.int .i64 0, .int .i64 0, .int .i64 0, .bool false]) := HST.out
        have HN3' : Hid (∀ w1, Calls Tryd.prog 32 #[S z3] w1 fun e w' => e = .returned (.tuple #[.int .i64 0, .bool false]) ∧ Below w1.heap.size w1 w') := HN3.out
        clear HST HN3
        go_wp2_with (first | (go_at_call 32; refine (HN1'.out w3).mono ?_; rintro ee w4 ⟨rfl, hb⟩; refine Hid.out ?_) | fail)
        refine Lib.hid ?_
        have HB4 : Hid (Below w.heap.size w w4) := HB3.out.trans (hb.mono HB3.out.size)
        clear hb
        go_wp2_with (first | (go_at_call 32; refine (HN2'.out w4).mono ?_; rintro ee w5 ⟨rfl, hb⟩; refine Hid.out ?_) | fail)
        refine Lib.hid ?_
        have HB5 : Hid (Below w.heap.size w w5) := HB4.out.trans (hb.mono HB4.out.size)
        clear hb
        go_wp2_with (first | (go_at_call 32; refine (HN3'.out w5).mono ?_; rintro ee w6 ⟨rfl, hb⟩; refine Hid.out ?_) | fail)
        refine Lib.hid ?_
        have HB6 : Hid (Below w.heap.size w w6) := HB5.out.trans (hb.mono HB5.out.size)
        clear hb
        go_wp2
        ((try simp only [Exit.inBlock, Exit.then]); refine bodyPost_ret (results_tmp4 rfl _ _ _) rfl ?_)
        rw [HE.out]
        exact ⟨rfl, HB6.out⟩
      | some c =>
        have HN3' : Hid (∀ w1, Calls Tryd.prog 32 #[S z3] w1 fun e w' => e = .returned (.tuple #[.int .i64 (c : Int), .bool true]) ∧ Below w1.heap.size w1 w') := HN3.out
        have HST2 : Hid (statV fin = statV (if a = 2 ∨ a = 4 ∨ a = 5 then some (a, b, c) else none)) := HST.out
        clear HST HN3
        go_wp2_with (first | (go_at_call 32; refine (HN1'.out w3).mono ?_; rintro ee w4 ⟨rfl, hb⟩; refine Hid.out ?_) | fail)
        refine Lib.hid ?_
        have HB4 : Hid (Below w.heap.size w w4) := HB3.out.trans (hb.mono HB3.out.size)
        clear hb
        go_wp2_with (first | (go_at_call 32; refine (HN2'.out w4).mono ?_; rintro ee w5 ⟨rfl, hb⟩; refine Hid.out ?_) | fail)
        refine Lib.hid ?_
        have HB5 : Hid (Below w.heap.size w w5) := HB4.out.trans (hb.mono HB4.out.size)
        clear hb
        go_wp2_with (first | (go_at_call 32; refine (HN3'.out w5).mono ?_; rintro ee w6 ⟨rfl, hb⟩; refine Hid.out ?_) | fail)
        refine Lib.hid ?_
        have HB6 : Hid (Below w.heap.size w w6) := HB5.out.trans (hb.mono HB5.out.size)
        clear hb HN1' HN2' HN3'
        by_cases k2 : a = 2
        · have q2 : ((a : Int) != 2) = false := by rw [bne_eq_false_iff_eq]; omega
          have HE : Hid (statV fin = .tuple #[.int .i64 (a : Int), .int .i64 (b : Int), .int .i64 (c : Int), .bool true]) := by show _ = _; rw [HST2.out, if_pos (Or.inl k2)]; rfl
          clear k2 HST2
          go_wp2
          ((try simp only [Exit.inBlock, Exit.then]); refine bodyPost_ret (results_tmp4 rfl _ _ _) rfl ?_)
          rw [HE.out]
          exact ⟨rfl, HB6.out⟩
        · have q2 : ((a : Int) != 2) = true := by rw [bne_iff_ne]; omega
          by_cases k4 : a = 4
          · have q4 : ((a : Int) != 4) = false := by rw [bne_eq_false_iff_eq]; omega
            have HE : Hid (statV fin = .tuple #[.int .i64 (a : Int), .int .i64 (b : Int), .int .i64 (c : Int), .bool true]) := by show _ = _; rw [HST2.out, if_pos (Or.inr (Or.inl k4))]; rfl
            clear k2 k4 HST2
            go_wp2
            ((try simp only [Exit.inBlock, Exit.then]); refine bodyPost_ret (results_tmp4 rfl _ _ _) rfl ?_)
            rw [HE.out]
            exact ⟨rfl, HB6.out⟩
          · have q4 : ((a : Int) != 4) = true := by rw [bne_iff_ne]; omega
            by_cases k5 : a = 5
            · have q5 : ((a : Int) != 5) = false := by rw [bne_eq_false_iff_eq]; omega
              have HE : Hid (statV fin = .tuple #[.int .i64 (a : Int), .int .i64 (b : Int), .int .i64 (c : Int), .bool true]) := by show _ = _; rw [HST2.out, if_pos (Or.inr (Or.inr k5))]; rfl
              clear k2 k4 k5 HST2
              go_wp2
              ((try simp only [Exit.inBlock, Exit.then]); refine bodyPost_ret (results_tmp4 rfl _ _ _) rfl ?_)
              rw [HE.out]
              exact ⟨rfl, HB6.out⟩
            · have q5 : ((a : Int) != 5) = true := by rw [bne_iff_ne]; omega
              have HE : Hid (statV fin = .tuple #[.int .i64 0, .int .i64 0, .int .i64 0, .bool false]) := by show _ = _; rw [HST2.out, if_neg (by omega)]; rfl
              clear k2 k4 k5 HST2
              go_wp2
              ((try simp only [Exit.inBlock, Exit.then]); refine bodyPost_ret (results_tmp4 rfl _ _ _) rfl ?_)
              rw [HE.out]
              exact ⟨rfl, HB6.out⟩
end Go.Proofs.YthkabehojmncmaaDoor.Reply
