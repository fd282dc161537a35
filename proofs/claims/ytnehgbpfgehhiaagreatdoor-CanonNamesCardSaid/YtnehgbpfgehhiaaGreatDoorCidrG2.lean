/-
  MERGED by mergefill.py: CidrG2.
-/
import Derived.Test.YtnehgbpfgehhiaaGreatDoorStrBase
import Derived.Deep.MidRow
import Derived.ChangeKeysEq
import Derived.Deep.RegionHeld3
/-
  MERGED by mergetpl.py: CidrBit, CidrNet, CidrBox, CidrEq, CidrWithin, CidrHas, CidrSame.
-/
/-
  CIDR, the given answers: bits of an address.
-/
namespace Go.Proofs.YtnehgbpfgehhiaaGreatDoor.Cidr
open Go.RowKit Base
abbrev B8 (x : UInt8) : Value := .int .u8 (x.toNat : Int)
theorem rSize (six : Bool) (w : World) : Calls Tryz.prog 63 #[.bool six] w (fun e w' => e = .returned (.int .i64 (if six then 128 else 32)) ∧ w = w') := by
  cases six
  all_goals
    go_enter Tryz.func63, Tryz.ntmps63
    go_wp2
    go_ret
    exact ⟨rfl, rfl⟩
/-- Bit i of an address. -/
def bitA (a : List UInt8) (i : Nat) : Nat := (a.getD (i / 8) 0).toNat / 2 ^ (7 - i % 8) % 2
theorem cell_new (w : World) (cs : Array Value) (t : TypeId) (k : Nat) : (w.alloc (.cells cs t)).cell? ⟨w.heap.size, k, none⟩ = cs[k]? := cell_of_row _ _ k _ _ _ (MapKept.heap_alloc w _).1
theorem cell_addr (w : World) (a : List UInt8) (t : TypeId) (k : Nat) (hk : k < a.length) : (w.alloc (.cells (a.map B8).toArray t)).cell? ⟨w.heap.size, k, none⟩ = some (.int .u8 ((a.getD k 0).toNat : Int)) := by
  rw [cell_new]
  simp [List.getD, List.getElem?_eq_getElem hk]
theorem and_one (x : Nat) (hx : x < 256) : bits .and .u8 (x : Int) 1 = ((x % 2 : Nat) : Int) := by
  have h : ∀ y : Fin 256, bits .and .u8 (y.val : Int) 1 = ((y.val % 2 : Nat) : Int) := by decide +kernel
  exact h ⟨x, hx⟩
theorem rBit (a : List UInt8) (ha : a.length = 16) (i : Nat) (hi : i < 128) (w : World) : Calls Tryz.prog 93 #[.agg (a.map B8).toArray, .int .i64 (i : Int)] w (fun e w' => e = .returned (.int .u8 (bitA a i : Int)) ∧ Below w.heap.size w w') := by
  have hc := cell_addr w a 70 (i / 8) (by omega)
  have hx : (a.getD (i / 8) 0).toNat < 256 := (a.getD (i / 8) 0).toNat_lt
  have HB : Hid (∀ x : Nat, x = (a.getD (i / 8) 0).toNat → bitA a i = x / 2 ^ (7 - i % 8) % 2) := fun x hx => by rw [hx]; rfl
  generalize (a.getD (i / 8) 0).toNat = x at hc hx HB
  have HB2 := Lib.hid (HB.out x rfl)
  clear HB
  go_enter Tryz.func93, Tryz.ntmps93
  go_wp2
  go_ret
  refine ⟨?_, Below.alloc1 _ _⟩
  have e : (x : Int) / 2 ^ (7 - i % 8) = ((x / 2 ^ (7 - i % 8) : Nat) : Int) := by push_cast; rfl
  rw [HB2.out, e, and_one _ (Nat.lt_of_le_of_lt (Nat.div_le_self _ _) hx)]
  rfl
end Go.Proofs.YtnehgbpfgehhiaaGreatDoor.Cidr
/-
  CIDR, the given answers: ranges; whether one may be.
-/
namespace Go.Proofs.YtnehgbpfgehhiaaGreatDoor.Cidr
open Go.RowKit Base
structure NetM where
  six : Bool
  bits : Int
  a : List UInt8
deriving DecidableEq
abbrev netC (n : NetM) : Array Value := (.bool n.six :: .int .i64 n.bits :: n.a.map B8).toArray
abbrev netV (n : NetM) : Value := .agg (netC n)
def NetAt (w : World) (b : Nat) (n : NetM) : Prop := w.heap[b]? = some (.cells (netC n) 72 (0, 0))
theorem size25 : (Tryz.prog.info? 72).map (·.size) = some 18 := by kernel_rfl
theorem size23 : (Tryz.prog.info? 70).map (·.size) = some 16 := by kernel_rfl
theorem NetAt.new (w : World) (n : NetM) : NetAt (w.alloc (.cells (netC n) 72)) w.heap.size n := (MapKept.heap_alloc w _).1
theorem NetAt.on {w w' : World} {b : Nat} {n : NetM} (h : NetAt w b n) (hb : Below w.heap.size w w') : NetAt w' b n := (hb.block b (heap_lt h)).trans h
theorem NetAt.six {w : World} {b : Nat} {n : NetM} (h : NetAt w b n) : w.cell? ⟨b, 0, none⟩ = some (.bool n.six) := cell_of_row w b 0 _ _ _ h
theorem NetAt.bits {w : World} {b : Nat} {n : NetM} (h : NetAt w b n) : w.cell? ⟨b, 1, none⟩ = some (.int .i64 n.bits) := cell_of_row w b 1 _ _ _ h
theorem NetAt.range {w : World} {b : Nat} {n : NetM} (h : NetAt w b n) : w.rangeAt b 2 (n.a.map B8) := fun j v hv => by
  rw [cell_of_row w b (2 + j) _ _ _ h]
  rw [show 2 + j = j + 1 + 1 by omega]
  simpa using hv
theorem size23_of {a : List UInt8} (ha : a.length = 16) : (Tryz.prog.info? 70).map (·.size) = some (a.map B8).length := by rw [size23]; simp [ha]
theorem size25_of {n : NetM} (ha : n.a.length = 16) : (Tryz.prog.info? 72).map (·.size) = some (Value.bool n.six :: .int .i64 n.bits :: n.a.map B8).length := by rw [size25]; simp [ha]
theorem NetAt.range0 {w : World} {b : Nat} {n : NetM} (h : NetAt w b n) : w.rangeAt b 0 (Value.bool n.six :: .int .i64 n.bits :: n.a.map B8) := fun j v hv => by rw [Nat.zero_add, cell_of_row w b j _ _ _ h]; simpa using hv
theorem NetAt.load25 {w : World} {b : Nat} {n : NetM} (h : NetAt w b n) (ha : n.a.length = 16) : (Instr.loadAt 72 (.pointer (some ⟨b, 0, none⟩))).run Tryz.prog w = .ok (netV n) w :=
  run_loadAt_mid w b 0 72 (.bool n.six :: .int .i64 n.bits :: n.a.map B8) _ (fun j v hv => by rw [Nat.zero_add, cell_of_row w b j _ _ _ h]; simpa using hv) Tryz.underlying72 rfl (by rw [size25]; simp [ha])
theorem NetAt.load23 {w : World} {b : Nat} {n : NetM} (h : NetAt w b n) (ha : n.a.length = 16) : (Instr.loadAt 70 (.pointer (some ⟨b, 2, none⟩))).run Tryz.prog w = .ok (.agg (n.a.map B8).toArray) w :=
  run_loadAt_mid w b 2 70 (n.a.map B8) _ h.range Tryz.underlying70 rfl (by rw [size23]; simp [ha])
def zeroF (a : List UInt8) : Nat → Nat → Bool
  | 0, _ => true
  | n + 1, k => bitA a k == 0 && zeroF a n (k + 1)
/-- Are all bits from k on 0? -/
def zeroFrom (a : List UInt8) (k : Nat) : Bool := zeroF a (128 - k) k
theorem zeroFrom_step (a : List UInt8) {k : Nat} (h : k < 128) : zeroFrom a k = (bitA a k == 0 && zeroFrom a (k + 1)) := by
  unfold zeroFrom
  rw [show 128 - k = (128 - (k + 1)) + 1 by omega, zeroF]
theorem zeroFrom_end (a : List UInt8) {k : Nat} (h : 128 ≤ k) : zeroFrom a k = true := by
  unfold zeroFrom
  rw [show 128 - k = 0 by omega, zeroF]
def sizeN (six : Bool) : Int := if six then 128 else 32
/-- May it be? -/
def rightN (n : NetM) : Bool := decide (0 ≤ n.bits ∧ n.bits ≤ sizeN n.six) && zeroFrom n.a n.bits.toNat
def AnsB (b : Bool) (w : World) (e : Ending) (w' : World) : Prop := e = .returned (.bool b) ∧ Below w.heap.size w w'
set_option maxHeartbeats 1000000 in
set_option maxRecDepth 100000 in
theorem rRight (n : NetM) (ha : n.a.length = 16) (w : World) : Calls Tryz.prog 60 #[netV n] w (AnsB (rightN n) w) := by
  obtain ⟨six, bits, a⟩ := n
  have HA := Lib.hid ha
  obtain ⟨R, hR⟩ : ∃ R, R = rightN ⟨six, bits, a⟩ := ⟨_, rfl⟩
  rw [← hR]
  unfold rightN at hR
  simp only at hR
  have hnew := NetAt.new w ⟨six, bits, a⟩
  have hs := hnew.six
  have hb := hnew.bits
  have HN := Lib.hid hnew
  have HSZ := Lib.hid (rSize six (w.alloc (.cells (netC ⟨six, bits, a⟩) 72)))
  have hle : sizeN six ≤ 128 := by unfold sizeN; split <;> omega
  obtain ⟨sz, hsz⟩ : ∃ sz, sz = sizeN six := ⟨_, rfl⟩
  rw [show (if six = true then (128 : Int) else 32) = sizeN six from rfl, ← hsz] at HSZ
  rw [← hsz] at hR hle
  clear hsz hnew
  by_cases hl : 0 ≤ bits
  · by_cases hu : bits ≤ sz
    · have e1 : ¬ bits < 0 := by omega
      have e2 : ¬ sz < bits := by omega
      obtain ⟨m, rfl⟩ := Int.eq_ofNat_of_zero_le hl
      rw [decide_eq_true ⟨hl, hu⟩, Bool.true_and, Int.toNat_natCast] at hR
      have HR := Lib.hid hR
      clear hR hl
      go_enter Tryz.func60, Tryz.ntmps60
      go_wp2_with (go_at_call 63; refine HSZ.out.mono ?_; rintro e w1 ⟨rfl, rfl⟩; refine Hid.out ?_)
      refine Lib.hid ?_
      go_wp2
      go_loopw [4] (fun i wr => ∃ k : Nat, k ≤ 128 ∧ i = .int .i64 k ∧ NetAt wr w.heap.size ⟨six, m, a⟩ ∧ Below w.heap.size w wr ∧ Hid (R = zeroFrom a k)) (fun i _ => 128 - (intOf i).toNat)
      case atStart => exact ⟨m, by omega, rfl, HN.out, Below.alloc1 _ _, HR.out⟩
      case round =>
        obtain ⟨k, hk, rfl, hat, hb, hz⟩ := hrel
        by_cases hlt : k < 128
        · have HS23 := Lib.hid (size23_of HA.out)
          have HRG := Lib.hid hat.range
          have HB := Lib.hid hb
          have HAT := Lib.hid hat
          have HBIT := Lib.hid (rBit a HA.out k hlt wr)
          have HZ := Lib.hid (hz.out.trans (zeroFrom_step a hlt))
          have i1 : (k : Int) < 128 := by omega
          clear hb hat hz
          generalize bitA a k = x at HBIT HZ
          by_cases hx : x = 0
          · subst hx
            go_wp2_with (first | (refine wpList_load_mid rfl 70 (.tmp 23) rfl w.heap.size 2 rfl (a.map B8) _ HRG.out Tryz.underlying70 rfl HS23.out ?_) | (go_at_call 93; refine HBIT.out.mono ?_; rintro e w2 ⟨rfl, b2⟩; refine Hid.out ?_) | fail)
            refine Lib.hid ?_
            have B2 := Lib.hid b2
            clear b2
            go_wp2
            go_roundw
            case rel => exact ⟨k + 1, by omega, by go_num, HAT.out.on B2.out, HB.out.trans (B2.out.mono HB.out.size), by show R = _; simpa using HZ.out⟩
            case measure => simp [intOf]; omega
          · have hxe : ((x : Int) == 0) = false := by rw [beq_eq_false_iff_ne]; omega
            have HZ2 : Hid (R = false) := by
              have := HZ.out
              rw [show (x == 0) = false by rw [beq_eq_false_iff_ne]; exact hx, Bool.false_and] at this
              exact this
            clear HZ
            go_wp2_with (first | (refine wpList_load_mid rfl 70 (.tmp 23) rfl w.heap.size 2 rfl (a.map B8) _ HRG.out Tryz.underlying70 rfl HS23.out ?_) | (go_at_call 93; refine HBIT.out.mono ?_; rintro e w2 ⟨rfl, b2⟩; refine Hid.out ?_) | fail)
            refine Lib.hid ?_
            have B2 := Lib.hid b2
            clear b2
            go_wp2
            go_ret
            exact ⟨ret_bool HZ2.out.symm, HB.out.trans (B2.out.mono HB.out.size)⟩
        · have i1 : ¬ (k : Int) < 128 := by omega
          have HZ2 : Hid (R = true) := hz.out.trans (zeroFrom_end a (by omega))
          have HB := Lib.hid hb
          clear hb hat hz
          go_wp2
          go_ret
          exact ⟨ret_bool HZ2.out.symm, HB.out⟩
    · have e1 : ¬ bits < 0 := by omega
      have e2 : sz < bits := by omega
      rw [decide_eq_false (fun h => hu h.2), Bool.false_and] at hR
      have HR := Lib.hid hR
      clear hR hl hu
      go_enter Tryz.func60, Tryz.ntmps60
      go_wp2_with (go_at_call 63; refine HSZ.out.mono ?_; rintro e w1 ⟨rfl, rfl⟩; refine Hid.out ?_)
      refine Lib.hid ?_
      go_wp2
      go_ret
      exact ⟨ret_bool HR.out.symm, Below.alloc1 _ _⟩
  · have e1 : bits < 0 := by omega
    rw [decide_eq_false (fun h => hl h.1), Bool.false_and] at hR
    have HR := Lib.hid hR
    clear hR hl
    go_enter Tryz.func60, Tryz.ntmps60
    go_wp2_with (go_at_call 63; refine HSZ.out.mono ?_; rintro e w1 ⟨rfl, rfl⟩; refine Hid.out ?_)
    refine Lib.hid ?_
    go_wp2
    go_ret
    exact ⟨ret_bool HR.out.symm, Below.alloc1 _ _⟩
end Go.Proofs.YtnehgbpfgehhiaaGreatDoor.Cidr
/-
  CIDR: ranges in boxes: stored whole, one byte stored, told as a result.
-/
namespace Go.Proofs.YtnehgbpfgehhiaaGreatDoor.Cidr
open Go.RowKit Base
def zeroN : NetM := ⟨false, 0, List.replicate 16 0⟩
abbrev netL (n : NetM) : List Value := .bool n.six :: .int .i64 n.bits :: n.a.map B8
theorem netL_one (n : NetM) : ∀ v ∈ netL n, v.oneCell' = true := fun v hv => by
  simp only [List.mem_cons, List.mem_map] at hv
  rcases hv with rfl | rfl | ⟨x, _, rfl⟩ <;> rfl
theorem netC_all (n : NetM) : (netC n).all (·.oneCell') = true := all_oneCell_toArray (netL_one n)
theorem netC_size {n : NetM} (ha : n.a.length = 16) : (netC n).size = 18 := by simp [ha]
theorem size25c {n : NetM} (ha : n.a.length = 16) : (Tryz.prog.info? 72).map (·.size) = some (netC n).size := by rw [size25, netC_size ha]
/-- Cells of a row, written from o on. -/
def setL (cur : Array Value) : Nat → List Value → Array Value
  | _, [] => cur
  | o, v :: r => setL (cur.setIfInBounds o v) (o + 1) r
theorem setL_size : ∀ (vs : List Value) (o : Nat) (cur : Array Value), (setL cur o vs).size = cur.size
  | [], _, _ => rfl
  | v :: r, o, cur => by unfold setL; rw [setL_size r]; simp
theorem setL_out : ∀ (vs : List Value) (o : Nat) (cur : Array Value) (j : Nat), j < o → (setL cur o vs)[j]? = cur[j]?
  | [], _, _, _, _ => rfl
  | v :: r, o, cur, j, h => by
    unfold setL
    rw [setL_out r (o + 1) _ j (by omega), Array.getElem?_setIfInBounds, if_neg (by omega)]
theorem setL_in : ∀ (vs : List Value) (o : Nat) (cur : Array Value) (j : Nat), j < vs.length → o + vs.length ≤ cur.size → (setL cur o vs)[o + j]? = vs[j]?
  | [], _, _, _, h, _ => by simp at h
  | v :: r, o, cur, j, h, hs => by
    unfold setL
    simp at hs
    cases j with
    | zero =>
      rw [setL_out r (o + 1) _ (o + 0) (by omega), Array.getElem?_setIfInBounds]
      simp
      omega
    | succ j =>
      have := setL_in r (o + 1) (cur.setIfInBounds o v) j (by simpa using h) (by simp; omega)
      rw [show o + (j + 1) = o + 1 + j by omega, this]
      simp
theorem setL_whole (vs : List Value) (cur : Array Value) (h : cur.size = vs.length) : setL cur 0 vs = vs.toArray := by
  apply Array.ext_getElem?
  intro j
  rcases Nat.lt_or_ge j vs.length with hj | hj
  · have := setL_in vs 0 cur j hj (by omega)
    rw [Nat.zero_add] at this
    rw [this]; simp
  · rw [Array.getElem?_eq_none (by rw [setL_size]; omega)]
    simp [hj]
theorem heap_setCells (b : Nat) (t : TypeId) (fz : Nat × Nat) : ∀ (vs : List Value) (o : Nat) (w : World) (cur : Array Value), w.heap[b]? = some (.cells cur t fz) → (w.setCells b o vs).heap[b]? = some (.cells (setL cur o vs) t fz)
  | [], _, _, _, h => h
  | v :: r, o, w, cur, h => by
    unfold setL
    exact heap_setCells b t fz r (o + 1) _ _ (heap_setCell_any w b o cur t fz v h)
theorem keep_setCells (b : Nat) : ∀ (vs : List Value) (o : Nat) (w : World), KeepX b w (w.setCells b o vs) ∧ (w.setCells b o vs).heap.size = w.heap.size
  | [], _, w => ⟨KeepX.refl _ _, rfl⟩
  | v :: r, o, w => by
    obtain ⟨h1, h2⟩ := keep_setCells b r (o + 1) (w.setCell ⟨b, o, none⟩ v)
    exact ⟨(KeepX.set b w o v).trans h1, h2.trans (by simp [World.setCell])⟩
theorem there_of {w : World} {b : Nat} {cur : Array Value} {t : TypeId} (h : w.heap[b]? = some (.cells cur t (0, 0))) {n : Nat} (hn : n ≤ cur.size) : w.there b 0 n := fun j hj => by
  refine ⟨?_, by simp [World.frozen?, h]⟩
  rw [Nat.zero_add, cell_of_row w b j _ _ _ h, Array.getElem?_eq_getElem (by omega)]; rfl
/-- A range stored whole. -/
theorem net_put {w w2 : World} {b : Nat} {cur : Array Value} (h : w.heap[b]? = some (.cells cur 72 (0, 0))) (hs : cur.size = 18) {n : NetM} (ha : n.a.length = 16) (hw : w.setCells b 0 (netC n).toList = w2) : NetAt w2 b n ∧ KeepX b w w2 ∧ w2.heap.size = w.heap.size := by
  subst hw
  have h1 := heap_setCells b 72 (0, 0) (netC n).toList 0 w cur h
  rw [setL_whole _ _ (by rw [hs]; simp [ha])] at h1
  exact ⟨by simpa [NetAt] using h1, (keep_setCells b _ 0 w).1, (keep_setCells b _ 0 w).2⟩
/-- One byte stored. -/
theorem NetAt.setA {w : World} {b : Nat} {n : NetM} (h : NetAt w b n) (k : Nat) (x : UInt8) : NetAt (w.setCell ⟨b, 2 + k, none⟩ (B8 x)) b { n with a := n.a.set k x } := by
  have h1 := heap_setCell_any w b (2 + k) _ _ _ (B8 x) h
  unfold NetAt
  rw [h1]
  congr 2
  apply Array.toList_inj.1
  rw [show 2 + k = k + 1 + 1 by omega]
  simp [List.map_set]
theorem NetAt.cellA {w : World} {b : Nat} {n : NetM} (h : NetAt w b n) {k : Nat} (hk : k < n.a.length) : w.cell? ⟨b, 2 + k, none⟩ = some (.int .u8 ((n.a.getD k 0).toNat : Int)) ∧ w.frozen? ⟨b, 2 + k, none⟩ = false := by
  refine ⟨?_, by simp [World.frozen?, show w.heap[b]? = _ from h]⟩
  have := h.range k (B8 (n.a.getD k 0)) (by simp [List.getElem?_eq_getElem hk])
  exact this
theorem NetAt.kept {w w' : World} {b g : Nat} {n : NetM} (h : NetAt w b n) (hk : KeepX g w w') (hne : b ≠ g) : NetAt w' b n := (hk.block b (heap_lt h) hne).trans h
theorem results_net {w : World} {fn : Func} {tmps : Array Value} {i j b : Nat} {n : NetM} {v : Value} (hr : fn.results = #[ResultVar.cell i 72, ResultVar.tmp j]) (h1 : tmps.getD i undef = .pointer (some ⟨b, 0, none⟩)) (h2 : tmps.getD j undef = v) (hat : NetAt w b n) (ha : n.a.length = 16) :
    (results fn tmps).run Tryz.prog w = .ok (.tuple #[netV n, v]) w := by
  have hl := run_loadVar_mid w b 0 72 (netL n) _ hat.range0 Tryz.underlying72 rfl (size25_of ha)
  unfold results
  rw [hr]
  rw [Array.getD_eq_getD_getElem?] at h1 h2
  simp [h1, h2, hl, asAddr]
end Go.Proofs.YtnehgbpfgehhiaaGreatDoor.Cidr
/-
  CIDR: two addresses compared whole.
-/
namespace Go.Proofs.YtnehgbpfgehhiaaGreatDoor.Cidr
open Go.RowKit Base
theorem cellsOf5 : Tryz.prog.cellsOf 5 = 1 := by kernel_rfl
theorem plain5 : Tryz.prog.plainKey 5 = true := by kernel_rfl
theorem run_eqBytes (d : Nat) (xs ys : List UInt8) (w : World) : ∀ (is : List Nat), (∀ i ∈ is, i < xs.length ∧ i < ys.length) →
    (Op.eqItems (d + 1) 5 1 (xs.map B8).toArray (ys.map B8).toArray is).run Tryz.prog w = .ok (is.all fun i => xs.getD i 0 == ys.getD i 0) w
  | [], _ => by simp [Op.eqItems]
  | i :: is, h => by
    obtain ⟨h1, h2⟩ := h i List.mem_cons_self
    have p1 : (part 5 (xs.map B8).toArray (i * 1)).run Tryz.prog w = .ok (.int .u8 ((xs.getD i 0).toNat : Int)) w := run_part_plain w plain5 (by simp [List.getElem?_eq_getElem h1])
    have p2 : (part 5 (ys.map B8).toArray (i * 1)).run Tryz.prog w = .ok (.int .u8 ((ys.getD i 0).toNat : Int)) w := run_part_plain w plain5 (by simp [List.getElem?_eq_getElem h2])
    have p3 := run_equalIn_int (P := Tryz.prog) w d 5 .u8 .u8 ((xs.getD i 0).toNat : Int) ((ys.getD i 0).toNat : Int) Tryz.underlying5
    have ih := run_eqBytes d xs ys w is fun j hj => h j (List.mem_cons_of_mem _ hj)
    simp only [Op.eqItems, Sem.run_bind, p1, p2, p3, Result.andThen_ok, List.all_cons]
    by_cases he : xs.getD i 0 = ys.getD i 0
    · have e1 : (((xs.getD i 0).toNat : Int) == ((ys.getD i 0).toNat : Int)) = true := by rw [he]; simp
      have e2 : (xs.getD i 0 == ys.getD i 0) = true := by rw [he]; simp
      rw [e1, e2]; simpa using ih
    · have e1 : (((xs.getD i 0).toNat : Int) == ((ys.getD i 0).toNat : Int)) = false := by
        rw [beq_eq_false_iff_ne]; intro h; exact he (UInt8.toNat_inj.1 (by omega))
      have e2 : (xs.getD i 0 == ys.getD i 0) = false := by rw [beq_eq_false_iff_ne]; exact he
      rw [e1, e2]; simp
theorem all_range_eq {xs ys : List UInt8} {n : Nat} (hx : xs.length = n) (hy : ys.length = n) : ((List.range n).all fun i => xs.getD i 0 == ys.getD i 0) = decide (xs = ys) := by
  rw [Bool.eq_iff_iff, List.all_eq_true, decide_eq_true_iff]
  constructor
  · intro h
    apply List.ext_getElem (by omega)
    intro i h1 h2
    have := h i (List.mem_range.2 (by omega))
    simpa [List.getD, List.getElem?_eq_getElem h1, List.getElem?_eq_getElem h2] using this
  · rintro rfl i _
    simp
theorem run_eqAddr (d : Nat) (xs ys : List UInt8) (hx : xs.length = 16) (hy : ys.length = 16) (w : World) : (Op.equalIn (d + 2) 70 (.agg (xs.map B8).toArray) (.agg (ys.map B8).toArray)).run Tryz.prog w = .ok (decide (xs = ys)) w := by
  obtain ⟨i0, hi, _⟩ := info_parts info5
  rw [run_equalIn_array w (d + 1) _ _ Tryz.underlying70 hi, cellsOf5, run_eqBytes d xs ys w _ (fun i hi => by rw [List.mem_range] at hi; omega), all_range_eq hx hy]
/-- As the walk meets it within a range. -/
theorem run_eqAddr16 (xs ys : List UInt8) (hx : xs.length = 16) (hy : ys.length = 16) (w : World) : (Op.equalIn 9999 70 (.agg (List.take 16 (List.map B8 xs)).toArray) (.agg (List.take 16 (List.map B8 ys)).toArray)).run Tryz.prog w = .ok (decide (xs = ys)) w := by
  rw [List.take_of_length_le (by simp; omega), List.take_of_length_le (by simp; omega)]
  exact run_eqAddr 9997 xs ys hx hy w
theorem net_eq (x y : NetM) : decide (x = y) = (decide (x.six = y.six) && (decide (x.bits = y.bits) && decide (x.a = y.a))) := by
  obtain ⟨a, b, c⟩ := x
  obtain ⟨d, e, f⟩ := y
  simp only [NetM.mk.injEq]
  rw [Bool.eq_iff_iff]
  simp
theorem run_neqNet (x y : NetM) (hx : x.a.length = 16) (hy : y.a.length = 16) (w : World) : (binOp .neq 72 (netV x) (netV y)).run Tryz.prog w = .ok (.bool (!decide (x = y))) w := by
  have h16 := run_eqAddr16 x.a y.a hx hy w
  rw [net_eq]
  by_cases h6 : x.six = y.six
  · by_cases hb : x.bits = y.bits
    · by_cases ha : x.a = y.a
      · rw [decide_eq_true ha, ha] at h16
        rw [decide_eq_true h6, decide_eq_true hb, decide_eq_true ha]
        go_simp
      · rw [decide_eq_false ha] at h16
        rw [decide_eq_true h6, decide_eq_true hb, decide_eq_false ha]
        go_simp
    · rw [decide_eq_true h6, decide_eq_false hb]
      go_simp
  · rw [decide_eq_false h6]
    go_simp
theorem run_eqlNet (x y : NetM) (hx : x.a.length = 16) (hy : y.a.length = 16) (w : World) : (binOp .eql 72 (netV x) (netV y)).run Tryz.prog w = .ok (.bool (decide (x = y))) w := by
  have h16 := run_eqAddr16 x.a y.a hx hy w
  rw [net_eq]
  by_cases h6 : x.six = y.six
  · by_cases hb : x.bits = y.bits
    · by_cases ha : x.a = y.a
      · rw [decide_eq_true ha, ha] at h16
        rw [decide_eq_true h6, decide_eq_true hb, decide_eq_true ha]
        go_simp
      · rw [decide_eq_false ha] at h16
        rw [decide_eq_true h6, decide_eq_true hb, decide_eq_false ha]
        go_simp
    · rw [decide_eq_true h6, decide_eq_false hb]
      go_simp
  · rw [decide_eq_false h6]
    go_simp
theorem guard25 : Tryz.prog.eqGuardType Tryz.prog.depth 72 = false := by kernel_rfl
theorem exec_neqNet {ρ : Operand → Value} {o : Oper} {s t : Operand} {r : TypeId} {x y : NetM} (ho : o.op = .binOp .neq 72 s t r) (hs : ρ s = netV x) (ht : ρ t = netV y) (hx : x.a.length = 16) (hy : y.a.length = 16) (w : World) :
    (execOp ρ o).run Tryz.prog w = .ok (.value (.bool (!decide (x = y)))) w := by
  unfold execOp
  simp only [ho, hs, ht, Sem.run_bind, run_eqGuard_agg w _ _ _ _ _ _ guard25, Result.andThen_ok, run_neqNet x y hx hy w, Sem.run_pure]
end Go.Proofs.YtnehgbpfgehhiaaGreatDoor.Cidr
/-
  CIDR, the given answers: whether a range lies in another one.
-/
namespace Go.Proofs.YtnehgbpfgehhiaaGreatDoor.Cidr
open Go.RowKit Base
def eqF (a b : List UInt8) : Nat → Nat → Bool
  | 0, _ => true
  | n + 1, k => bitA a k == bitA b k && eqF a b n (k + 1)
/-- Are the bits from k up to m the same? -/
def eqFrom (a b : List UInt8) (m k : Nat) : Bool := eqF a b (m - k) k
theorem eqFrom_step (a b : List UInt8) {m k : Nat} (h : k < m) : eqFrom a b m k = (bitA a k == bitA b k && eqFrom a b m (k + 1)) := by
  unfold eqFrom
  rw [show m - k = (m - (k + 1)) + 1 by omega, eqF]
theorem eqFrom_end (a b : List UInt8) {m k : Nat} (h : m ≤ k) : eqFrom a b m k = true := by
  unfold eqFrom
  rw [show m - k = 0 by omega, eqF]
/-- Does n lie in i? -/
def withinN (n i : NetM) : Bool := rightN n && (rightN i && (n.six == i.six && (decide (i.bits ≤ n.bits) && eqFrom n.a i.a i.bits.toNat 0)))
theorem rightN_bits {n : NetM} (h : rightN n = true) : 0 ≤ n.bits ∧ n.bits ≤ 128 := by
  unfold rightN at h
  rw [Bool.and_eq_true, decide_eq_true_iff] at h
  have : sizeN n.six ≤ 128 := by unfold sizeN; split <;> omega
  omega
def TwoS (wr : World) (b1 b2 : Nat) (a b : List UInt8) (w' : World) : Prop := Below wr.heap.size wr w' ∧ w'.rangeAt b1 2 (a.map B8) ∧ w'.rangeAt b2 2 (b.map B8)
theorem rangeAt_on {w w' : World} {b o : Nat} {cs : List Value} (h : w.rangeAt b o cs) (hb : Below w.heap.size w w') : w'.rangeAt b o cs := fun j v hv => (hb.cell (p := ⟨b, o + j, none⟩) (cell_lt (h j v hv))).trans (h j v hv)
theorem two_keep {wr w1 w2 : World} {b1 b2 : Nat} {a b : List UInt8} (h : TwoS wr b1 b2 a b w1) (hb : Below w1.heap.size w1 w2) : TwoS wr b1 b2 a b w2 := ⟨h.1.trans (hb.mono h.1.size), rangeAt_on h.2.1 hb, rangeAt_on h.2.2 hb⟩
theorem two_drew {wr : World} {b1 b2 : Nat} {n i : NetM} (h1 : NetAt wr b1 n) (h2 : NetAt wr b2 i) : TwoS wr b1 b2 n.a i.a wr.drew := by
  have hb : Below wr.heap.size wr wr.drew := ⟨rfl, rfl, rfl, Nat.le_refl _, fun _ _ => rfl⟩
  exact ⟨hb, rangeAt_on h1.range hb, rangeAt_on h2.range hb⟩
end Go.Proofs.YtnehgbpfgehhiaaGreatDoor.Cidr
/-
  CIDR, the given answers: whether an address lies in one of several ranges.
-/
namespace Go.Proofs.YtnehgbpfgehhiaaGreatDoor.Cidr
open Go.RowKit Base

/-- A slice of ranges that came in. -/
def Nets (w : World) (A : Option Addr) (ns : List NetM) : Prop := ∀ (j : Nat) (n : NetM), ns[j]? = some n → n.a.length = 16 ∧ ∃ b o, A = some ⟨b, o, none⟩ ∧ w.rangeAt b (o + j * 18) (netL n)
theorem Nets.on {w w' : World} {A : Option Addr} {ns : List NetM} (h : Nets w A ns) (hb : Below w.heap.size w w') : Nets w' A ns := fun j n hj => by
  obtain ⟨h1, b, o, h2, h3⟩ := h j n hj
  exact ⟨h1, b, o, h2, rangeAt_on h3 hb⟩
def hasN (l : List NetM) (n : NetM) : Bool := l.any fun x => withinN n x
theorem has_keep {wr w1 w2 : World} {b1 o1 b2 o2 : Nat} {l1 l2 : List Value} (h : Below wr.heap.size wr w1 ∧ w1.rangeAt b1 o1 l1 ∧ w1.rangeAt b2 o2 l2) (hb : Below w1.heap.size w1 w2) : Below wr.heap.size wr w2 ∧ w2.rangeAt b1 o1 l1 ∧ w2.rangeAt b2 o2 l2 := ⟨h.1.trans (hb.mono h.1.size), rangeAt_on h.2.1 hb, rangeAt_on h.2.2 hb⟩
theorem has_drew {wr : World} {b1 o1 b2 o2 : Nat} {l1 l2 : List Value} (h1 : wr.rangeAt b1 o1 l1) (h2 : wr.rangeAt b2 o2 l2) : Below wr.heap.size wr wr.drew ∧ wr.drew.rangeAt b1 o1 l1 ∧ wr.drew.rangeAt b2 o2 l2 := by
  have hb : Below wr.heap.size wr wr.drew := ⟨rfl, rfl, rfl, Nat.le_refl _, fun _ _ => rfl⟩
  exact ⟨hb, rangeAt_on h1 hb, rangeAt_on h2 hb⟩
end Go.Proofs.YtnehgbpfgehhiaaGreatDoor.Cidr
/-
  CIDR, the given answers: are two lists of ranges the same?
-/
namespace Go.Proofs.YtnehgbpfgehhiaaGreatDoor.Cidr
open Go.RowKit Base
theorem drop_eq (ns ms : List NetM) (k : Nat) (x y : NetM) (hx : ns[k]? = some x) (hy : ms[k]? = some y) : decide (ns.drop k = ms.drop k) = (decide (x = y) && decide (ns.drop (k + 1) = ms.drop (k + 1))) := by
  have h1 := (List.getElem?_eq_some_iff.1 hx)
  have h2 := (List.getElem?_eq_some_iff.1 hy)
  obtain ⟨l1, e1⟩ := h1
  obtain ⟨l2, e2⟩ := h2
  rw [List.drop_eq_getElem_cons l1, List.drop_eq_getElem_cons l2, e1, e2, Bool.eq_iff_iff]
  simp
end Go.Proofs.YtnehgbpfgehhiaaGreatDoor.Cidr
