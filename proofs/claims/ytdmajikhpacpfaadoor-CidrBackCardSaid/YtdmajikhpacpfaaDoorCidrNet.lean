/-
  CIDR, the given answers: ranges; whether one may be.
-/
import Derived.Test.YtdmajikhpacpfaaDoorCidrBit
namespace Go.Proofs.YtdmajikhpacpfaaDoor.Cidr
open Go.RowKit Base
structure NetM where
  six : Bool
  bits : Int
  a : List UInt8
deriving DecidableEq
abbrev netC (n : NetM) : Array Value := (.bool n.six :: .int .i64 n.bits :: n.a.map B8).toArray
abbrev netV (n : NetM) : Value := .agg (netC n)
def NetAt (w : World) (b : Nat) (n : NetM) : Prop := w.heap[b]? = some (.cells (netC n) 25 (0, 0))
theorem size25 : (Tryd.prog.info? 25).map (·.size) = some 18 := by kernel_rfl
theorem size23 : (Tryd.prog.info? 23).map (·.size) = some 16 := by kernel_rfl
theorem NetAt.new (w : World) (n : NetM) : NetAt (w.alloc (.cells (netC n) 25)) w.heap.size n := (MapKept.heap_alloc w _).1
theorem NetAt.on {w w' : World} {b : Nat} {n : NetM} (h : NetAt w b n) (hb : Below w.heap.size w w') : NetAt w' b n := (hb.block b (heap_lt h)).trans h
theorem NetAt.six {w : World} {b : Nat} {n : NetM} (h : NetAt w b n) : w.cell? ⟨b, 0, none⟩ = some (.bool n.six) := cell_of_row w b 0 _ _ _ h
theorem NetAt.bits {w : World} {b : Nat} {n : NetM} (h : NetAt w b n) : w.cell? ⟨b, 1, none⟩ = some (.int .i64 n.bits) := cell_of_row w b 1 _ _ _ h
theorem NetAt.range {w : World} {b : Nat} {n : NetM} (h : NetAt w b n) : w.rangeAt b 2 (n.a.map B8) := fun j v hv => by
  rw [cell_of_row w b (2 + j) _ _ _ h]
  rw [show 2 + j = j + 1 + 1 by omega]
  simpa using hv
theorem size23_of {a : List UInt8} (ha : a.length = 16) : (Tryd.prog.info? 23).map (·.size) = some (a.map B8).length := by rw [size23]; simp [ha]
theorem size25_of {n : NetM} (ha : n.a.length = 16) : (Tryd.prog.info? 25).map (·.size) = some (Value.bool n.six :: .int .i64 n.bits :: n.a.map B8).length := by rw [size25]; simp [ha]
theorem NetAt.range0 {w : World} {b : Nat} {n : NetM} (h : NetAt w b n) : w.rangeAt b 0 (Value.bool n.six :: .int .i64 n.bits :: n.a.map B8) := fun j v hv => by rw [Nat.zero_add, cell_of_row w b j _ _ _ h]; simpa using hv
theorem NetAt.load25 {w : World} {b : Nat} {n : NetM} (h : NetAt w b n) (ha : n.a.length = 16) : (Instr.loadAt 25 (.pointer (some ⟨b, 0, none⟩))).run Tryd.prog w = .ok (netV n) w :=
  run_loadAt_mid w b 0 25 (.bool n.six :: .int .i64 n.bits :: n.a.map B8) _ (fun j v hv => by rw [Nat.zero_add, cell_of_row w b j _ _ _ h]; simpa using hv) Tryd.underlying25 rfl (by rw [size25]; simp [ha])
theorem NetAt.load23 {w : World} {b : Nat} {n : NetM} (h : NetAt w b n) (ha : n.a.length = 16) : (Instr.loadAt 23 (.pointer (some ⟨b, 2, none⟩))).run Tryd.prog w = .ok (.agg (n.a.map B8).toArray) w :=
  run_loadAt_mid w b 2 23 (n.a.map B8) _ h.range Tryd.underlying23 rfl (by rw [size23]; simp [ha])
def zeroF (a : List UInt8) : Nat → Nat → Bool
  | 0, _ => true
  | n + 1, k => bitA a k == 0 && zeroF a n (k + 1)
/-- Are all bits from k on 0? -/
def zeroFrom (a : List UInt8) (k : Nat) : Bool := zeroF a (128 - k) k
theorem zeroFrom_step (a : List UInt8) {k : Nat} (h : k < 128) : zeroFrom a k = (bitA a k == 0 && zeroFrom a (k + 1)) := by
  unfold zeroFrom
  rw [show 128 - k = (128 - (k + 1)) + 1 by omega, zeroF]
theorem zeroFrom_end (a : List UInt8) {k : Nat} (h : 128 ≤ k) : zeroFrom a k = true := by
  unfold zeroFrom
  rw [show 128 - k = 0 by omega, zeroF]
def sizeN (six : Bool) : Int := if six then 128 else 32
/-- May it be? -/
def rightN (n : NetM) : Bool := decide (0 ≤ n.bits ∧ n.bits ≤ sizeN n.six) && zeroFrom n.a n.bits.toNat
def AnsB (b : Bool) (w : World) (e : Ending) (w' : World) : Prop := e = .returned (.bool b) ∧ Below w.heap.size w w'
set_option maxHeartbeats 1000000 in
set_option maxRecDepth 100000 in
theorem rRight (n : NetM) (ha : n.a.length = 16) (w : World) : Calls Tryd.prog 19 #[netV n] w (AnsB (rightN n) w) := by
  obtain ⟨six, bits, a⟩ := n
  have HA := Lib.hid ha
  obtain ⟨R, hR⟩ : ∃ R, R = rightN ⟨six, bits, a⟩ := ⟨_, rfl⟩
  rw [← hR]
  unfold rightN at hR
  simp only at hR
  have hnew := NetAt.new w ⟨six, bits, a⟩
  have hs := hnew.six
  have hb := hnew.bits
  have HN := Lib.hid hnew
  have HSZ := Lib.hid (rSize six (w.alloc (.cells (netC ⟨six, bits, a⟩) 25)))
  have hle : sizeN six ≤ 128 := by unfold sizeN; split <;> omega
  obtain ⟨sz, hsz⟩ : ∃ sz, sz = sizeN six := ⟨_, rfl⟩
  rw [show (if six = true then (128 : Int) else 32) = sizeN six from rfl, ← hsz] at HSZ
  rw [← hsz] at hR hle
  clear hsz hnew
  by_cases hl : 0 ≤ bits
  · by_cases hu : bits ≤ sz
    · have e1 : ¬ bits < 0 := by omega
      have e2 : ¬ sz < bits := by omega
      obtain ⟨m, rfl⟩ := Int.eq_ofNat_of_zero_le hl
      rw [decide_eq_true ⟨hl, hu⟩, Bool.true_and, Int.toNat_natCast] at hR
      have HR := Lib.hid hR
      clear hR hl
      go_enter Tryd.func19, Tryd.ntmps19
      go_wp2_with (go_at_call 39; refine HSZ.out.mono ?_; rintro e w1 ⟨rfl, rfl⟩; refine Hid.out ?_)
      refine Lib.hid ?_
      go_wp2
      go_loopw [4] (fun i wr => ∃ k : Nat, k ≤ 128 ∧ i = .int .i64 k ∧ NetAt wr w.heap.size ⟨six, m, a⟩ ∧ Below w.heap.size w wr ∧ Hid (R = zeroFrom a k)) (fun i _ => 128 - (intOf i).toNat)
      case atStart => exact ⟨m, by omega, rfl, HN.out, Below.alloc1 _ _, HR.out⟩
      case round =>
        obtain ⟨k, hk, rfl, hat, hb, hz⟩ := hrel
        by_cases hlt : k < 128
        · have HS23 := Lib.hid (size23_of HA.out)
          have HRG := Lib.hid hat.range
          have HB := Lib.hid hb
          have HAT := Lib.hid hat
          have HBIT := Lib.hid (rBit a HA.out k hlt wr)
          have HZ := Lib.hid (hz.out.trans (zeroFrom_step a hlt))
          have i1 : (k : Int) < 128 := by omega
          clear hb hat hz
          generalize bitA a k = x at HBIT HZ
          by_cases hx : x = 0
          · subst hx
            go_wp2_with (first | (refine wpList_load_mid rfl 23 (.tmp 23) rfl w.heap.size 2 rfl (a.map B8) _ HRG.out Tryd.underlying23 rfl HS23.out ?_) | (go_at_call 44; refine HBIT.out.mono ?_; rintro e w2 ⟨rfl, b2⟩; refine Hid.out ?_) | fail)
            refine Lib.hid ?_
            have B2 := Lib.hid b2
            clear b2
            go_wp2
            go_roundw
            case rel => exact ⟨k + 1, by omega, by go_num, HAT.out.on B2.out, HB.out.trans (B2.out.mono HB.out.size), by show R = _; simpa using HZ.out⟩
            case measure => simp [intOf]; omega
          · have hxe : ((x : Int) == 0) = false := by rw [beq_eq_false_iff_ne]; omega
            have HZ2 : Hid (R = false) := by
              have := HZ.out
              rw [show (x == 0) = false by rw [beq_eq_false_iff_ne]; exact hx, Bool.false_and] at this
              exact this
            clear HZ
            go_wp2_with (first | (refine wpList_load_mid rfl 23 (.tmp 23) rfl w.heap.size 2 rfl (a.map B8) _ HRG.out Tryd.underlying23 rfl HS23.out ?_) | (go_at_call 44; refine HBIT.out.mono ?_; rintro e w2 ⟨rfl, b2⟩; refine Hid.out ?_) | fail)
            refine Lib.hid ?_
            have B2 := Lib.hid b2
            clear b2
            go_wp2
            go_ret
            exact ⟨ret_bool HZ2.out.symm, HB.out.trans (B2.out.mono HB.out.size)⟩
        · have i1 : ¬ (k : Int) < 128 := by omega
          have HZ2 : Hid (R = true) := hz.out.trans (zeroFrom_end a (by omega))
          have HB := Lib.hid hb
          clear hb hat hz
          go_wp2
          go_ret
          exact ⟨ret_bool HZ2.out.symm, HB.out⟩
    · have e1 : ¬ bits < 0 := by omega
      have e2 : sz < bits := by omega
      rw [decide_eq_false (fun h => hu h.2), Bool.false_and] at hR
      have HR := Lib.hid hR
      clear hR hl hu
      go_enter Tryd.func19, Tryd.ntmps19
      go_wp2_with (go_at_call 39; refine HSZ.out.mono ?_; rintro e w1 ⟨rfl, rfl⟩; refine Hid.out ?_)
      refine Lib.hid ?_
      go_wp2
      go_ret
      exact ⟨ret_bool HR.out.symm, Below.alloc1 _ _⟩
  · have e1 : bits < 0 := by omega
    rw [decide_eq_false (fun h => hl h.1), Bool.false_and] at hR
    have HR := Lib.hid hR
    clear hR hl
    go_enter Tryd.func19, Tryd.ntmps19
    go_wp2_with (go_at_call 39; refine HSZ.out.mono ?_; rintro e w1 ⟨rfl, rfl⟩; refine Hid.out ?_)
    refine Lib.hid ?_
    go_wp2
    go_ret
    exact ⟨ret_bool HR.out.symm, Below.alloc1 _ _⟩
end Go.Proofs.YtdmajikhpacpfaaDoor.Cidr
