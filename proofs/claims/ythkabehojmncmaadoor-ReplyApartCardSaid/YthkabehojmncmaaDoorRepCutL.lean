/-
  REPLY, the program: a line off the front of bytes.
-/
import Derived.Test.YthkabehojmncmaaDoorRepLine
import Derived.Test.YthkabehojmncmaaDoorShelf
namespace Go.Proofs.YthkabehojmncmaaDoor.Reply
open Go.RowKit Base
/-- Bytes as numbers. -/
abbrev nums (l : List UInt8) : List Int := l.map fun c => (c.toNat : Int)
theorem nums_bytes (l : List UInt8) : Lib.bytesOf (nums l) = l := by
  unfold Lib.bytesOf nums
  rw [List.map_map]
  conv => rhs; rw [← List.map_id l]
  apply List.map_congr_left
  intro c _
  simp
theorem nums_get (l : List UInt8) (i : Nat) : (nums l).getD i 0 = ((l.getD i 0).toNat : Int) := by
  unfold nums
  rw [List.getD_eq_getElem?_getD, List.getElem?_map, List.getD_eq_getElem?_getD]
  cases l[i]? with
  | none => rfl
  | some x => rfl
theorem reads_len {w : World} {A : Option Addr} {n c : Nat} {l : List UInt8} (h : Reads w (.slice A n c) l) : n = l.length ∧ n ≤ c := by
  rcases h with ⟨rfl, a, c', e, _⟩ | ⟨b, o, c', e, h1, _⟩
  · cases e; exact ⟨rfl, Nat.zero_le _⟩
  · cases e; exact ⟨rfl, h1⟩
/-- Where the first byte 10 stands in bytes. -/
theorem pIdx {w : World} {A : Option Addr} {n c : Nat} {l : List UInt8} (h : Reads w (.slice A n c) l) :
    Calls Tryd.prog 35 #[.slice A n c, .int .u8 10] w fun e w' => e = .returned (.int .i64 (Lib.indexByte l 10)) ∧ w = w' := by
  obtain ⟨hn, hnc⟩ := reads_len h
  cases A with
  | none =>
    have hl0 : l = [] ∧ c = 0 := by
      rcases h with ⟨h0, a, c', e, hc⟩ | ⟨b, o, c', e, _⟩
      · cases e; exact ⟨h0, hc rfl⟩
      · cases e
    obtain ⟨rfl, rfl⟩ := hl0
    subst hn
    refine (Tryd.bytes_IndexByte_nil 10 w).mono ?_
    rintro e w' ⟨rfl, rfl⟩
    exact ⟨rfl, rfl⟩
  | some a =>
    have := Tryd.bytes_IndexByte_at a n c (nums l) 10 w (by simp [hn]) (fun i hi => by
      rcases h with ⟨rfl, _⟩ | ⟨b, o, c', e, _, h2⟩
      · simp at hn; omega
      · cases e
        rw [nums_get, Addr.add_lit]
        exact h2 i hi)
    rw [nums_bytes] at this
    refine this.mono ?_
    rintro e w' ⟨rfl, rfl⟩
    exact ⟨rfl, rfl⟩
/-- The first bytes of a slice. -/
theorem reads_take {w : World} {A : Option Addr} {n c k : Nat} {l : List UInt8} (h : Reads w (.slice A n c) l) (hk : k ≤ l.length) : Reads w (.slice A k c) (l.take k) := by
  rcases h with ⟨rfl, a, c', e, hc⟩ | ⟨b, o, c', e, h1, h2⟩
  · cases e
    have : k = 0 := by simpa using hk
    subst this
    exact Or.inl ⟨rfl, _, _, rfl, hc⟩
  · cases e
    have hl : (l.take k).length = k := by rw [List.length_take]; omega
    refine Or.inr ⟨b, o, c, by rw [hl], by omega, fun i hi => ?_⟩
    rw [h2 i (by omega)]
    congr 3
    rw [List.getD_eq_getElem?_getD, List.getD_eq_getElem?_getD, List.getElem?_take_of_lt (by omega)]
def cutV (l : List UInt8) : Value :=
  match firstT l 512 with
  | some i => .tuple #[S (l.take (i + 1)), .int .i64 0]
  | none => .tuple #[.string ⟨#[]⟩, .int .i64 (if 512 ≤ l.length then 142 else 140)]
theorem cut_some {l : List UInt8} {i : Nat} (h : firstT l 512 = some i) : cutV l = .tuple #[S (l.take (i + 1)), .int .i64 0] := by unfold cutV; rw [h]
theorem cut_none {l : List UInt8} (h : firstT l 512 = none) : cutV l = .tuple #[.string ⟨#[]⟩, .int .i64 (if 512 ≤ l.length then 142 else 140)] := by unfold cutV; rw [h]
set_option maxHeartbeats 8000000 in
set_option maxRecDepth 100000 in
theorem pCutLine (A : Option Addr) (n cc : Nat) (l : List UInt8) (w : World) (hr : Reads w (.slice A n cc) l) (hl : l.length ≤ 9000000000000000000) :
    Calls Tryd.prog 28 #[.slice A n cc] w fun e w' => e = .returned (cutV l) ∧ w = w' := by
  obtain ⟨hn, hnc⟩ := reads_len hr
  obtain ⟨m, hm⟩ : ∃ m, m = min l.length 512 := ⟨_, rfl⟩
  have htk : l.take m = l.take 512 := by
    rcases Nat.lt_or_ge l.length 512 with h | h
    · rw [show m = l.length by omega, List.take_length, List.take_of_length_le (by omega)]
    · rw [show m = 512 by omega]
  have hR2 : Reads w (.slice A m cc) (l.take m) := reads_take hr (by omega)
  have HI0 := pIdx hR2
  rw [htk, firstT_idx] at HI0
  have hmc : m ≤ cc := by omega
  have hmi : (m : Int) ≤ (cc : Int) := by omega
  have hm512 : m ≤ 512 := by omega
  have hm0 : (0 : Int) ≤ (m : Int) := by omega
  rw [htk] at hR2
  cases hf : firstT l 512 with
  | some i =>
    have hi := firstT_lt hf
    have him : i + 1 ≤ m := by omega
    have hR3 : Reads w (.slice A (i + 1) cc) (l.take (i + 1)) := reads_take hr (by omega)
    have hcv := conv_reads hR3
    have HE := Lib.hid (cut_some hf)
    rw [hf] at HI0
    have HI : Hid (Calls Tryd.prog 35 #[.slice A m cc, .int .u8 10] w fun e w' => e = .returned (.int .i64 (i : Int)) ∧ w = w') := HI0
    rw [HE.out]
    generalize l.take (i + 1) = x at hcv
    have i0 : (0 : Int) ≤ (i : Int) := by omega
    have i1 : (0 : Int) ≤ (i : Int) + 1 := by omega
    have i2 : (i : Int) + 1 ≤ (cc : Int) := by omega
    have i3 : i + 1 ≤ cc := by omega
    have q : min (n : Int) 512 = (m : Int) := by omega
    clear hf hr hn hm htk hR2 hR3 HE HI0 hl
    go_enter Tryd.func28, Tryd.ntmps28
    go_wp2_with (first | (go_at_call 35; refine HI.out.mono ?_; rintro ee w1 ⟨rfl, rfl⟩; refine Hid.out ?_) | fail)
    refine Lib.hid ?_
    go_wp2
    go_ret2
    exact ⟨rfl, rfl⟩
  | none =>
    have HE0 := Lib.hid (cut_none hf)
    rw [hf] at HI0
    have HI : Hid (Calls Tryd.prog 35 #[.slice A m cc, .int .u8 10] w fun e w' => e = .returned (.int .i64 (-1)) ∧ w = w') := HI0
    rw [HE0.out]
    have q : min (n : Int) 512 = (m : Int) := by omega
    by_cases he : m = 512
    · have q2 : ((m : Int) == 512) = true := by rw [beq_iff_eq]; omega
      rw [if_pos (by omega)]
      clear hf hr hn hm htk hR2 HE0 HI0 hl he
      go_enter Tryd.func28, Tryd.ntmps28
      go_wp2_with (first | (go_at_call 35; refine HI.out.mono ?_; rintro ee w1 ⟨rfl, rfl⟩; refine Hid.out ?_) | fail)
      refine Lib.hid ?_
      go_wp2
      go_ret2
      exact ⟨rfl, rfl⟩
    · have q2 : ((m : Int) == 512) = false := by rw [beq_eq_false_iff_ne]; omega
      rw [if_neg (by omega)]
      clear hf hr hn hm htk hR2 HE0 HI0 hl he
      go_enter Tryd.func28, Tryd.ntmps28
      go_wp2_with (first | (go_at_call 35; refine HI.out.mono ?_; rintro ee w1 ⟨rfl, rfl⟩; refine Hid.out ?_) | fail)
      refine Lib.hid ?_
      go_wp2
      go_ret2
      exact ⟨rfl, rfl⟩
end Go.Proofs.YthkabehojmncmaaDoor.Reply
