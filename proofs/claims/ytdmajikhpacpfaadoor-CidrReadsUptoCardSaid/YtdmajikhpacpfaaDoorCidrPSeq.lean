/-
  CIDR, the program: strings.FieldsFuncSeq at the program's separators: each word in its turn, for every loop body.
-/
import Derived.Test.YtdmajikhpacpfaaDoorCidrPSep
import Derived.RangeFuncNested
import Derived.RangeFuncBox
import Derived.RangeFuncLeaves
import Derived.RangeFuncCalls
import Derived.RangeFuncBound
import Derived.Shelf.Abstract
import Derived.WalkKit
import Derived.OwnWalkIn
import Derived.TacticsInMore
import Derived.LoopNIn
import Derived.LoopIn
import Derived.Maps.AppendAt
namespace Go.Proofs.YtdmajikhpacpfaaDoor.Cidr
open Go.RowKit Go.Shelf Base
attribute [local go_sem] Oper.semAt_some
/-- A word, of a length that Go can tell. -/
abbrev Wd := { x : List UInt8 // x.length ≤ 9223372036854775807 }
theorem cur_len (s : ByteArray) (k j : Nat) : (curOf s k (some j)).length ≤ s.size := by
  show ((s.data.toList.take k).drop j).length ≤ _
  rw [List.length_drop, List.length_take, str_len]; omega
/-- What a round that goes on keeps: all that lay ahead of the call, and the iterator's two boxes. -/
def KpS (w0 : World) (Bn Bf : Nat) (A B : World) : Prop := Below w0.heap.size A B ∧ B.heap[Bn]? = A.heap[Bn]? ∧ B.heap[Bf]? = A.heap[Bf]?
theorem take_grow {l : List UInt8} {k kk j : Nat} (h : j ≤ k) (hk : k ≤ l.length) : (l.take (k + kk)).drop j = (l.take k).drop j ++ (l.drop k).take kk := by
  rw [List.take_add, List.drop_append_of_le_length (by rw [List.length_take]; omega)]
theorem cur_grow (s : ByteArray) {k kk : Nat} (hk : k ≤ s.size) : ∀ m : Option Nat, (∀ j, m = some j → j < k) → curOf s (k + kk) (some (m.getD k)) = curOf s k m ++ (s.data.toList.drop k).take kk
  | none, _ => by
    show (s.data.toList.take (k + kk)).drop k = [] ++ _
    rw [take_grow (Nat.le_refl k) (by rw [str_len]; exact hk), List.drop_eq_nil_of_le (by rw [List.length_take]; omega)]
  | some j, h => by
    show (s.data.toList.take (k + kk)).drop j = (s.data.toList.take k).drop j ++ _
    rw [take_grow (by have := h j rfl; omega) (by rw [str_len]; exact hk)]
theorem words_sep (s : ByteArray) {k : Nat} (hk : k < s.size) (hsep : isSep ((s.data.toList.drop k).getD 0 0) = true) (m : Option Nat) (hm : ∀ j, m = some j → j < k) :
    wordsA (curOf s k m) (s.data.toList.drop k) = (match m with | none => [] | some j => [curOf s k (some j)]) ++ wordsA [] (s.data.toList.drop (k + 1)) := by
  have hd := drop_at s k hk
  rw [hd] at hsep ⊢
  have hsep : isSep s[k] = true := hsep
  cases m with
  | none =>
    show wordsA [] (s[k] :: _) = _
    rw [wordsA, if_pos hsep, if_pos rfl]
    rfl
  | some j =>
    rw [wordsA, if_pos hsep, if_neg (curOf_ne (hm j rfl) (by omega))]
    rfl
theorem words_end (s : ByteArray) (m : Option Nat) (hm : ∀ j, m = some j → j < s.size) : wordsA (curOf s s.size m) (s.data.toList.drop s.size) = (match m with | none => [] | some j => [curOf s s.size (some j)]) := by
  rw [List.drop_eq_nil_of_le (by rw [str_len]; omega)]
  cases m with
  | none => rfl
  | some j => rw [wordsA, if_neg (curOf_ne (hm j rfl) (Nat.le_refl _))]
theorem cur_str (s : ByteArray) {j k : Nat} : (⟨(curOf s k (some j)).toArray⟩ : ByteArray) = s.extract j k := by
  apply ByteArray.ext
  apply Array.toList_inj.1
  show (s.data.toList.take k).drop j = _
  rw [extract_bytes]
theorem abides {J : List Wd → World → Prop} {B : Nat} (hJ : AbidesFrom B J) {pre : List Wd} {W W' : World} (h : J pre W) (hb : Below W.heap.size W W') : J pre W' :=
  hJ pre W W' none h ⟨hb.os, hb.tape, hb.output, hb.size, fun i hi _ => hb.block i hi⟩ (fun r e => by cases e)
set_option maxHeartbeats 4000000 in
set_option maxRecDepth 100000 in
theorem pSeq_in (n : Nat) (hn : 2 ≤ n) (l Bn Bf : Nat) (s : ByteArray) (w0 : World) (hT : Utf w0) (hs : s.size ≤ 9223372036854775807) (J Jx : List Wd → World → Prop) (W : World) (hJ : AbidesFrom W.heap.size J)
    (hY : ∀ pre (x : Wd) W1, J pre W1 → pre.length < (wordsB s.data.toList).length → YieldAt Fence.wide (n - 1) Tryd.prog l #[.string ⟨x.1.toArray⟩] W1 fun e W' =>
      (e = .returned (.bool true) ∧ J (pre ++ [x]) W' ∧ KpS w0 Bn Bf W1 W') ∨ (e = .returned (.bool false) ∧ Jx (pre ++ [x]) W'))
    (hW : Below w0.heap.size w0 W) (hBn : W.heap[Bn]? = some (.cells #[.string s] 9 (0, 0))) (hBf : W.heap[Bf]? = some (.cells #[.func (.func 35) #[] #[]] 57 (0, 0))) (h0 : J [] W) :
    CallsIn Fence.wide n Tryd.prog 53 #[.func (.yield l) #[] #[], .pointer (some ⟨Bn, 0, none⟩), .pointer (some ⟨Bf, 0, none⟩)] W fun e W' => (∃ v, e = .returned v) ∧
      ((∃ ys : List Wd, ys.map (·.1) = wordsB s.data.toList ∧ J ys W') ∨ (∃ pre : List Wd, pre.map (·.1) <+: wordsB s.data.toList ∧ Jx pre W')) := by
  have HS := Lib.hid hs
  have HT := Lib.hid hT
  have HJ := Lib.hid hJ
  have HY := Lib.hid hY
  obtain ⟨ws, hws⟩ : ∃ ws, ws = wordsB s.data.toList := ⟨_, rfl⟩
  have HWS := Lib.hid hws
  obtain ⟨R, hR⟩ : ∃ R : Value → Value → World → Prop, R = fun st i wr => ∃ (k : Nat) (m : Option Nat) (pre : List Wd), k ≤ s.size ∧ i = .int .i64 (k : Int) ∧ st = .int .i64 (fromI m) ∧ (∀ j, m = some j → j < k) ∧ ws = pre.map (·.1) ++ wordsA (curOf s k m) (s.data.toList.drop k) ∧ J pre wr ∧ Below w0.heap.size w0 wr ∧ wr.heap[Bn]? = some (.cells #[.string s] 9 (0, 0)) ∧ wr.heap[Bf]? = some (.cells #[.func (.func 35) #[] #[]] 57 (0, 0)) := ⟨_, rfl⟩
  have HR := Lib.hid hR
  have HST : Hid (R (.int .i64 (-1)) (.int .i64 0) W) := by
    show R _ _ _
    rw [hR]
    exact ⟨0, none, [], Nat.zero_le _, rfl, rfl, (fun j h => by cases h), by rw [hws]; rfl, h0, hW, hBn, hBf⟩
  rw [← hws]
  clear hs hT hJ hY hws hR hW hBn hBf h0
  refine callsIn_of_wp Tryd.func53 rfl trivial ?_ rfl
  simp only [Tryd.ntmps53, List.size_toArray, List.length_cons, List.length_nil, Nat.reduceAdd, Nat.reduceSub, Array.replicate_succ, Array.replicate_zero, List.push_toArray, List.append_toArray, List.nil_append, List.cons_append]
  gi_wp2
  gi_loopw [4, 5] (fun st i wr => R st i wr) (fun _ i _ => s.size - (intOf i).toNat)
  case atStart => exact HST.out
  case round =>
    rw [HR.out] at hrel
    obtain ⟨k, m, pre, hk, rfl, rfl, hm, hw, hj, hb, hbn, hbf⟩ := hrel
    have c1 : wr.cell? ⟨Bn, 0, none⟩ = some (.string s) := by simp [World.cell?, hbn]
    have c2 : wr.cell? ⟨Bf, 0, none⟩ = some (.func (.func 35) #[] #[]) := by simp [World.cell?, hbf]
    by_cases hlt : k < s.size
    · have i1 : (k : Int) < (s.size : Int) := by omega
      have i0 : (0 : Int) ≤ (k : Int) := by omega
      have i2 : (k : Int) ≤ (s.size : Int) := by omega
      obtain ⟨r, kk, hd, hk1, hk2, hcase⟩ := rune_take (s.extract k s.size) (by rw [ByteArray.size_extract]; omega)
      have hsz : (s.extract k s.size).size = s.size - k := by rw [ByteArray.size_extract]; omega
      have hdr : (s.extract k s.size).data.toList = s.data.toList.drop k := by rw [extract_bytes, List.take_of_length_le (by rw [str_len]; omega)]
      rw [hdr] at hcase
      rw [hsz] at hk2
      have HD : Hid (Calls Tryd.prog 54 #[.string (s.extract k s.size)] wr fun e w' => e = .returned (.tuple #[.int .i32 (r : Int), .int .i64 (kk : Int)]) ∧ Below wr.heap.size wr w') := by
        have := Tryd.utf8_DecodeRuneInString (s.extract k s.size) wr (utf_on HT.out hb)
        rw [hd] at this
        exact this
      gi_wp2
      refine ⟨trivial, fun _ => by omega, ?_⟩
      refine (callsIn_wide.2 HD.out).mono ?_
      rintro e w1 ⟨rfl, b1⟩
      have hb1 : Below w0.heap.size w0 w1 := hb.trans (b1.mono hb.size)
      have hj1 : J pre w1 := abides HJ.out hj b1
      have hbn1 : w1.heap[Bn]? = some (.cells #[.string s] 9 (0, 0)) := (b1.block Bn (heap_lt hbn)).trans hbn
      have hbf1 : w1.heap[Bf]? = some (.cells #[.func (.func 35) #[] #[]] 57 (0, 0)) := (b1.block Bf (heap_lt hbf)).trans hbf
      have d1 : w1.cell? ⟨Bn, 0, none⟩ = some (.string s) := by simp [World.cell?, hbn1]
      have d2 : w1.cell? ⟨Bf, 0, none⟩ = some (.func (.func 35) #[] #[]) := by simp [World.cell?, hbf1]
      have HP := Lib.hid (pSep r w1)
      clear c1 c2 hd
      gi_wp2
      refine ⟨trivial, fun _ => by omega, ?_⟩
      refine (callsIn_wide.2 HP.out).mono ?_
      rintro e w2 ⟨rfl, rfl⟩
      have HB1 := Lib.hid hb1
      have HBN := Lib.hid hbn1
      have HBF := Lib.hid hbf1
      clear hb1 hbn1 hbf1 hb hbn hbf b1 hj HD HP hsz hdr
      rcases hcase with ⟨rfl, hsr, hsep⟩ | ⟨hsr, hns⟩
      · rw [hsr]
        have hwd := words_sep s hlt hsep m hm
        rw [hwd] at hw
        clear hwd hsep hsr
        have k1 : k + 1 ≤ s.size := by omega
        have wr1 : IntKind.i64.wrap ((k : Int) + 1) = (k : Int) + 1 := IntWalk.i64_in _ (by have := HS.out; omega)
        cases m with
        | none =>
          have HF : Hid (R (.int .i64 (-1)) (.int .i64 ((k : Int) + 1)) w1) := by
            show R _ _ _
            rw [HR.out]
            exact ⟨k + 1, none, pre, k1, rfl, rfl, (fun j h => by cases h), hw, hj1, HB1.out, HBN.out, HBF.out⟩
          have i3 : ¬ (0 : Int) ≤ -1 := by omega
          simp only [fromI]
          clear hw hj1
          gi_wp2
          go_roundw
          case rel => exact HF.out
          case measure => simp [intOf]; omega
        | some j =>
          have hjk := hm j rfl
          have j0 : (0 : Int) ≤ (j : Int) := by omega
          have j1 : (j : Int) ≤ (k : Int) := by omega
          have j2 : ¬ (j : Int) < 0 := by omega
          have hx : (curOf s k (some j)).length ≤ 9223372036854775807 := by have := cur_len s k j; have := HS.out; omega
          have hw2 : ws = (pre ++ [(⟨curOf s k (some j), hx⟩ : Wd)]).map (·.1) ++ wordsA [] (s.data.toList.drop (k + 1)) := by rw [hw]; simp
          obtain ⟨fn, tmps, assign, body, hy, hR2⟩ := HY.out pre ⟨curOf s k (some j), hx⟩ w1 hj1 (by rw [← HWS.out, hw2]; simp)
          rw [show (⟨(⟨curOf s k (some j), hx⟩ : Wd).1.toArray⟩ : ByteArray) = s.extract j k from cur_str s] at hy
          have HW2 := Lib.hid hw2
          simp only [fromI]
          clear hw hw2 hj1
          gi_wp2
          refine ⟨fun _ => by omega, ?_⟩
          refine hR2.mono ?_
          rintro e W3 (⟨rfl, hJ3, hk3⟩ | ⟨rfl, hJx3⟩)
          · have HF : Hid (R (.int .i64 (-1)) (.int .i64 ((k : Int) + 1)) W3) := by
              show R _ _ _
              rw [HR.out]
              exact ⟨k + 1, none, pre ++ [⟨curOf s k (some j), hx⟩], k1, rfl, rfl, (fun j h => by cases h), HW2.out, hJ3, HB1.out.trans hk3.1, hk3.2.1.trans HBN.out, hk3.2.2.trans HBF.out⟩
            clear hJ3 hk3
            gi_wp2
            go_roundw
            case rel => exact HF.out
            case measure => simp [intOf]; omega
          · have HX : Hid ((pre ++ [(⟨curOf s k (some j), hx⟩ : Wd)]).map (·.1) <+: ws ∧ Jx (pre ++ [⟨curOf s k (some j), hx⟩]) W3) := ⟨⟨_, HW2.out.symm⟩, hJx3⟩
            clear hJx3
            gi_wp2
            refine bodyPost_ret (results_none rfl _ _ _) rfl ?_
            exact ⟨⟨_, rfl⟩, .inr ⟨_, HX.out.1, HX.out.2⟩⟩
      · rw [hsr]
        have hwd := wordsA_app (r := s.data.toList.drop (k + kk)) ((s.data.toList.drop k).take kk) (curOf s k m) hns
        rw [← List.drop_drop, List.take_append_drop, ← cur_grow s hk m hm, List.drop_drop] at hwd
        rw [hwd] at hw
        have hmk : m.getD k < k + kk := by
          cases m with
          | none => show k < _; omega
          | some j => have := hm j rfl; show j < _; omega
        have HF : Hid (R (.int .i64 ((m.getD k : Nat) : Int)) (.int .i64 ((k : Int) + (kk : Int))) w1) := by
          show R _ _ _
          rw [HR.out]
          exact ⟨k + kk, some (m.getD k), pre, by omega, rfl, rfl, (fun j h => by cases h; exact hmk), hw, hj1, HB1.out, HBN.out, HBF.out⟩
        have wr1 : IntKind.i64.wrap ((k : Int) + (kk : Int)) = (k : Int) + (kk : Int) := IntWalk.i64_in _ (by have := HS.out; omega)
        clear hwd hns hsr hw hj1
        cases m with
        | none =>
          have i3 : (-1 : Int) < 0 := by omega
          simp only [fromI]
          gi_wp2
          go_roundw
          case rel => exact HF.out
          case measure => simp [intOf]; omega
        | some j =>
          have j2 : ¬ (j : Int) < 0 := by omega
          simp only [fromI]
          gi_wp2
          go_roundw
          case rel => exact HF.out
          case measure => simp [intOf]; omega
    · obtain rfl : k = s.size := by omega
      have i1 : ¬ (s.size : Int) < (s.size : Int) := by omega
      have hwd := words_end s m hm
      rw [hwd] at hw
      cases m with
      | none =>
        have HF : Hid (pre.map (·.1) = ws ∧ J pre wr) := ⟨by rw [hw]; simp, hj⟩
        have i3 : ¬ (0 : Int) ≤ -1 := by omega
        simp only [fromI]
        clear hw hj hb hbn hbf hwd
        gi_wp2
        go_end0
        exact ⟨⟨_, rfl⟩, .inl ⟨pre, HF.out.1, HF.out.2⟩⟩
      | some j =>
        have hjk := hm j rfl
        have j0 : (0 : Int) ≤ (j : Int) := by omega
        have j1 : (j : Int) ≤ (s.size : Int) := by omega
        have hx : (curOf s s.size (some j)).length ≤ 9223372036854775807 := by have := cur_len s s.size j; have := HS.out; omega
        have hw2 : ws = (pre ++ [(⟨curOf s s.size (some j), hx⟩ : Wd)]).map (·.1) := by rw [hw]; simp
        obtain ⟨fn, tmps, assign, body, hy, hR2⟩ := HY.out pre ⟨curOf s s.size (some j), hx⟩ wr hj (by rw [← HWS.out, hw2]; simp)
        rw [show (⟨(⟨curOf s s.size (some j), hx⟩ : Wd).1.toArray⟩ : ByteArray) = s.extract j s.size from cur_str s] at hy
        have HW2 := Lib.hid hw2
        simp only [fromI]
        clear hw hw2 hj hwd
        gi_wp2
        refine ⟨fun _ => by omega, ?_⟩
        refine hR2.mono ?_
        rintro e W3 (⟨rfl, hJ3, hk3⟩ | ⟨rfl, hJx3⟩)
        · have HF : Hid ((pre ++ [(⟨curOf s s.size (some j), hx⟩ : Wd)]).map (·.1) = ws ∧ J (pre ++ [⟨curOf s s.size (some j), hx⟩]) W3) := ⟨HW2.out.symm, hJ3⟩
          clear hJ3 hk3
          gi_wp2
          go_end0
          exact ⟨⟨_, rfl⟩, .inl ⟨_, HF.out.1, HF.out.2⟩⟩
        · have HX : Hid ((pre ++ [(⟨curOf s s.size (some j), hx⟩ : Wd)]).map (·.1) <+: ws ∧ Jx (pre ++ [⟨curOf s s.size (some j), hx⟩]) W3) := ⟨⟨[], by rw [HW2.out]; simp⟩, hJx3⟩
          clear hJx3
          gi_wp2
          go_end0
          exact ⟨⟨_, rfl⟩, .inr ⟨_, HX.out.1, HX.out.2⟩⟩
/-- The iterator's contract, as the law for a range over a function asks it. -/
theorem seq_stops (n : Nat) (hn : 2 ≤ n) (Bn Bf : Nat) (s : ByteArray) (w0 w : World) (hT : Utf w0) (hs : s.size ≤ 9223372036854775807) (hW : Below w0.heap.size w0 w)
    (hBn : w.heap[Bn]? = some (.cells #[.string s] 9 (0, 0))) (hBf : w.heap[Bf]? = some (.cells #[.func (.func 35) #[] #[]] 57 (0, 0))) :
    SeqStopsK Fence.wide n Tryd.prog 53 #[.pointer (some ⟨Bn, 0, none⟩), .pointer (some ⟨Bf, 0, none⟩)] (fun x : Wd => #[Value.string ⟨x.1.toArray⟩]) (KpS w0 Bn Bf)
      (fun ys => ys.map (·.1) = wordsB s.data.toList) (fun pre => pre.map (·.1) <+: wordsB s.data.toList) (wordsB s.data.toList).length w := fun l J Jx W hb hJ _ hY h0 =>
  pSeq_in n hn l Bn Bf s w0 hT hs J Jx W hJ hY (hW.trans (hb.mono hW.size)) ((hb.block Bn (heap_lt hBn)).trans hBn) ((hb.block Bf (heap_lt hBf)).trans hBf) h0
set_option maxRecDepth 100000 in
theorem pSeq0 (s : ByteArray) (w : World) : Calls Tryd.prog 34 #[.string s, .func (.func 35) #[] #[]] w fun e w' => e = .returned (.func (.func 53) #[] #[.pointer (some ⟨w.heap.size, 0, none⟩), .pointer (some ⟨w.heap.size + 1, 0, none⟩)]) ∧
    w'.heap[w.heap.size]? = some (.cells #[.string s] 9 (0, 0)) ∧ w'.heap[w.heap.size + 1]? = some (.cells #[.func (.func 35) #[] #[]] 57 (0, 0)) ∧ w'.heap.size = w.heap.size + 2 ∧ Below w.heap.size w w' := by
  have h1 := (MapKept.heap_alloc w (.cells #[.string s] 9)).1
  have h2 := (MapKept.heap_alloc (w.alloc (.cells #[.string s] 9)) (.cells #[.func (.func 35) #[] #[]] 57)).1
  have hsz : (w.alloc (.cells #[.string s] 9)).heap.size = w.heap.size + 1 := by simp
  rw [hsz] at h2
  have h3 := ((Below.alloc1 (w.alloc (.cells #[.string s] 9)) (.cells #[.func (.func 35) #[] #[]] 57)).block w.heap.size (by rw [hsz]; omega)).trans h1
  have HF : Hid (((w.alloc (.cells #[.string s] 9)).alloc (.cells #[.func (.func 35) #[] #[]] 57)).heap[w.heap.size]? = some (.cells #[.string s] 9 (0, 0)) ∧ ((w.alloc (.cells #[.string s] 9)).alloc (.cells #[.func (.func 35) #[] #[]] 57)).heap[w.heap.size + 1]? = some (.cells #[.func (.func 35) #[] #[]] 57 (0, 0)) ∧ ((w.alloc (.cells #[.string s] 9)).alloc (.cells #[.func (.func 35) #[] #[]] 57)).heap.size = w.heap.size + 2 ∧ Below w.heap.size w ((w.alloc (.cells #[.string s] 9)).alloc (.cells #[.func (.func 35) #[] #[]] 57))) :=
    ⟨h3, h2, by simp, (Below.alloc1 _ _).trans ((Below.alloc1 _ _).mono (by simp))⟩
  have hmf : ∀ (fn : Fn) (first cap : Array Value) (w : World), (Instr.makeFunc fn first cap).run Tryd.prog w = .ok (.func fn first cap) w := fun _ _ _ _ => rfl
  clear h1 h2 h3 hsz
  go_enter Tryd.func34, Tryd.ntmps34
  go_wp2
  go_ret
  exact ⟨rfl, HF.out⟩
end Go.Proofs.YtdmajikhpacpfaaDoor.Cidr
