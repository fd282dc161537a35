/-
  MERGED by mergetpl.py: CidrBit, CidrNet, CidrBox, CidrEq, CidrWithin, CidrHas, CidrSame.
-/
import Derived.Test.YtdmajikhpacpfaaDoorStrBase
import Derived.Deep.MidRow
import Derived.ChangeKeysEq
import Derived.Deep.RegionHeld3
/-
  CIDR, the given answers: bits of an address.
-/
namespace Go.Proofs.YtdmajikhpacpfaaDoor.Cidr
open Go.RowKit Base
abbrev B8 (x : UInt8) : Value := .int .u8 (x.toNat : Int)
theorem rSize (six : Bool) (w : World) : Calls Tryd.prog 39 #[.bool six] w (fun e w' => e = .returned (.int .i64 (if six then 128 else 32)) ∧ w = w') := by
  cases six
  all_goals
    go_enter Tryd.func39, Tryd.ntmps39
    go_wp2
    go_ret
    exact ⟨rfl, rfl⟩
/-- Bit i of an address. -/
def bitA (a : List UInt8) (i : Nat) : Nat := (a.getD (i / 8) 0).toNat / 2 ^ (7 - i % 8) % 2
theorem cell_new (w : World) (cs : Array Value) (t : TypeId) (k : Nat) : (w.alloc (.cells cs t)).cell? ⟨w.heap.size, k, none⟩ = cs[k]? := cell_of_row _ _ k _ _ _ (MapKept.heap_alloc w _).1
theorem cell_addr (w : World) (a : List UInt8) (t : TypeId) (k : Nat) (hk : k < a.length) : (w.alloc (.cells (a.map B8).toArray t)).cell? ⟨w.heap.size, k, none⟩ = some (.int .u8 ((a.getD k 0).toNat : Int)) := by
  rw [cell_new]
  simp [List.getD, List.getElem?_eq_getElem hk]
theorem and_one (x : Nat) (hx : x < 256) : bits .and .u8 (x : Int) 1 = ((x % 2 : Nat) : Int) := by
  have h : ∀ y : Fin 256, bits .and .u8 (y.val : Int) 1 = ((y.val % 2 : Nat) : Int) := by decide +kernel
  exact h ⟨x, hx⟩
theorem rBit (a : List UInt8) (ha : a.length = 16) (i : Nat) (hi : i < 128) (w : World) : Calls Tryd.prog 44 #[.agg (a.map B8).toArray, .int .i64 (i : Int)] w (fun e w' => e = .returned (.int .u8 (bitA a i : Int)) ∧ Below w.heap.size w w') := by
  have hc := cell_addr w a 23 (i / 8) (by omega)
  have hx : (a.getD (i / 8) 0).toNat < 256 := (a.getD (i / 8) 0).toNat_lt
  have HB : Hid (∀ x : Nat, x = (a.getD (i / 8) 0).toNat → bitA a i = x / 2 ^ (7 - i % 8) % 2) := fun x hx => by rw [hx]; rfl
  generalize (a.getD (i / 8) 0).toNat = x at hc hx HB
  have HB2 := Lib.hid (HB.out x rfl)
  clear HB
  go_enter Tryd.func44, Tryd.ntmps44
  go_wp2
  go_ret
  refine ⟨?_, Below.alloc1 _ _⟩
  have e : (x : Int) / 2 ^ (7 - i % 8) = ((x / 2 ^ (7 - i % 8) : Nat) : Int) := by push_cast; rfl
  rw [HB2.out, e, and_one _ (Nat.lt_of_le_of_lt (Nat.div_le_self _ _) hx)]
  rfl
end Go.Proofs.YtdmajikhpacpfaaDoor.Cidr
/-
  CIDR, the given answers: ranges; whether one may be.
-/
namespace Go.Proofs.YtdmajikhpacpfaaDoor.Cidr
open Go.RowKit Base
structure NetM where
  six : Bool
  bits : Int
  a : List UInt8
deriving DecidableEq
abbrev netC (n : NetM) : Array Value := (.bool n.six :: .int .i64 n.bits :: n.a.map B8).toArray
abbrev netV (n : NetM) : Value := .agg (netC n)
def NetAt (w : World) (b : Nat) (n : NetM) : Prop := w.heap[b]? = some (.cells (netC n) 25 (0, 0))
theorem size25 : (Tryd.prog.info? 25).map (·.size) = some 18 := by kernel_rfl
theorem size23 : (Tryd.prog.info? 23).map (·.size) = some 16 := by kernel_rfl
theorem NetAt.new (w : World) (n : NetM) : NetAt (w.alloc (.cells (netC n) 25)) w.heap.size n := (MapKept.heap_alloc w _).1
theorem NetAt.on {w w' : World} {b : Nat} {n : NetM} (h : NetAt w b n) (hb : Below w.heap.size w w') : NetAt w' b n := (hb.block b (heap_lt h)).trans h
theorem NetAt.six {w : World} {b : Nat} {n : NetM} (h : NetAt w b n) : w.cell? ⟨b, 0, none⟩ = some (.bool n.six) := cell_of_row w b 0 _ _ _ h
theorem NetAt.bits {w : World} {b : Nat} {n : NetM} (h : NetAt w b n) : w.cell? ⟨b, 1, none⟩ = some (.int .i64 n.bits) := cell_of_row w b 1 _ _ _ h
theorem NetAt.range {w : World} {b : Nat} {n : NetM} (h : NetAt w b n) : w.rangeAt b 2 (n.a.map B8) := fun j v hv => by
  rw [cell_of_row w b (2 + j) _ _ _ h]
  rw [show 2 + j = j + 1 + 1 by omega]
  simpa using hv
theorem size23_of {a : List UInt8} (ha : a.length = 16) : (Tryd.prog.info? 23).map (·.size) = some (a.map B8).length := by rw [size23]; simp [ha]
theorem size25_of {n : NetM} (ha : n.a.length = 16) : (Tryd.prog.info? 25).map (·.size) = some (Value.bool n.six :: .int .i64 n.bits :: n.a.map B8).length := by rw [size25]; simp [ha]
theorem NetAt.range0 {w : World} {b : Nat} {n : NetM} (h : NetAt w b n) : w.rangeAt b 0 (Value.bool n.six :: .int .i64 n.bits :: n.a.map B8) := fun j v hv => by rw [Nat.zero_add, cell_of_row w b j _ _ _ h]; simpa using hv
theorem NetAt.load25 {w : World} {b : Nat} {n : NetM} (h : NetAt w b n) (ha : n.a.length = 16) : (Instr.loadAt 25 (.pointer (some ⟨b, 0, none⟩))).run Tryd.prog w = .ok (netV n) w :=
  run_loadAt_mid w b 0 25 (.bool n.six :: .int .i64 n.bits :: n.a.map B8) _ (fun j v hv => by rw [Nat.zero_add, cell_of_row w b j _ _ _ h]; simpa using hv) Tryd.underlying25 rfl (by rw [size25]; simp [ha])
theorem NetAt.load23 {w : World} {b : Nat} {n : NetM} (h : NetAt w b n) (ha : n.a.length = 16) : (Instr.loadAt 23 (.pointer (some ⟨b, 2, none⟩))).run Tryd.prog w = .ok (.agg (n.a.map B8).toArray) w :=
  run_loadAt_mid w b 2 23 (n.a.map B8) _ h.range Tryd.underlying23 rfl (by rw [size23]; simp [ha])
def zeroF (a : List UInt8) : Nat → Nat → Bool
  | 0, _ => true
  | n + 1, k => bitA a k == 0 && zeroF a n (k + 1)
/-- Are all bits from k on 0? -/
def zeroFrom (a : List UInt8) (k : Nat) : Bool := zeroF a (128 - k) k
theorem zeroFrom_step (a : List UInt8) {k : Nat} (h : k < 128) : zeroFrom a k = (bitA a k == 0 && zeroFrom a (k + 1)) := by
  unfold zeroFrom
  rw [show 128 - k = (128 - (k + 1)) + 1 by omega, zeroF]
theorem zeroFrom_end (a : List UInt8) {k : Nat} (h : 128 ≤ k) : zeroFrom a k = true := by
  unfold zeroFrom
  rw [show 128 - k = 0 by omega, zeroF]
def sizeN (six : Bool) : Int := if six then 128 else 32
/-- May it be? -/
def rightN (n : NetM) : Bool := decide (0 ≤ n.bits ∧ n.bits ≤ sizeN n.six) && zeroFrom n.a n.bits.toNat
def AnsB (b : Bool) (w : World) (e : Ending) (w' : World) : Prop := e = .returned (.bool b) ∧ Below w.heap.size w w'
set_option maxHeartbeats 1000000 in
set_option maxRecDepth 100000 in
theorem rRight (n : NetM) (ha : n.a.length = 16) (w : World) : Calls Tryd.prog 19 #[netV n] w (AnsB (rightN n) w) := by
  obtain ⟨six, bits, a⟩ := n
  have HA := Lib.hid ha
  obtain ⟨R, hR⟩ : ∃ R, R = rightN ⟨six, bits, a⟩ := ⟨_, rfl⟩
  rw [← hR]
  unfold rightN at hR
  simp only at hR
  have hnew := NetAt.new w ⟨six, bits, a⟩
  have hs := hnew.six
  have hb := hnew.bits
  have HN := Lib.hid hnew
  have HSZ := Lib.hid (rSize six (w.alloc (.cells (netC ⟨six, bits, a⟩) 25)))
  have hle : sizeN six ≤ 128 := by unfold sizeN; split <;> omega
  obtain ⟨sz, hsz⟩ : ∃ sz, sz = sizeN six := ⟨_, rfl⟩
  rw [show (if six = true then (128 : Int) else 32) = sizeN six from rfl, ← hsz] at HSZ
  rw [← hsz] at hR hle
  clear hsz hnew
  by_cases hl : 0 ≤ bits
  · by_cases hu : bits ≤ sz
    · have e1 : ¬ bits < 0 := by omega
      have e2 : ¬ sz < bits := by omega
      obtain ⟨m, rfl⟩ := Int.eq_ofNat_of_zero_le hl
      rw [decide_eq_true ⟨hl, hu⟩, Bool.true_and, Int.toNat_natCast] at hR
      have HR := Lib.hid hR
      clear hR hl
      go_enter Tryd.func19, Tryd.ntmps19
      go_wp2_with (go_at_call 39; refine HSZ.out.mono ?_; rintro e w1 ⟨rfl, rfl⟩; refine Hid.out ?_)
      refine Lib.hid ?_
      go_wp2
      go_loopw [4] (fun i wr => ∃ k : Nat, k ≤ 128 ∧ i = .int .i64 k ∧ NetAt wr w.heap.size ⟨six, m, a⟩ ∧ Below w.heap.size w wr ∧ Hid (R = zeroFrom a k)) (fun i _ => 128 - (intOf i).toNat)
      case atStart => exact ⟨m, by omega, rfl, HN.out, Below.alloc1 _ _, HR.out⟩
      case round =>
        obtain ⟨k, hk, rfl, hat, hb, hz⟩ := hrel
        by_cases hlt : k < 128
        · have HS23 := Lib.hid (size23_of HA.out)
          have HRG := Lib.hid hat.range
          have HB := Lib.hid hb
          have HAT := Lib.hid hat
          have HBIT := Lib.hid (rBit a HA.out k hlt wr)
          have HZ := Lib.hid (hz.out.trans (zeroFrom_step a hlt))
          have i1 : (k : Int) < 128 := by omega
          clear hb hat hz
          generalize bitA a k = x at HBIT HZ
          by_cases hx : x = 0
          · subst hx
            go_wp2_with (first | (refine wpList_load_mid rfl 23 (.tmp 23) rfl w.heap.size 2 rfl (a.map B8) _ HRG.out Tryd.underlying23 rfl HS23.out ?_) | (go_at_call 44; refine HBIT.out.mono ?_; rintro e w2 ⟨rfl, b2⟩; refine Hid.out ?_) | fail)
            refine Lib.hid ?_
            have B2 := Lib.hid b2
            clear b2
            go_wp2
            go_roundw
            case rel => exact ⟨k + 1, by omega, by go_num, HAT.out.on B2.out, HB.out.trans (B2.out.mono HB.out.size), by show R = _; simpa using HZ.out⟩
            case measure => simp [intOf]; omega
          · have hxe : ((x : Int) == 0) = false := by rw [beq_eq_false_iff_ne]; omega
            have HZ2 : Hid (R = false) := by
              have := HZ.out
              rw [show (x == 0) = false by rw [beq_eq_false_iff_ne]; exact hx, Bool.false_and] at this
              exact this
            clear HZ
            go_wp2_with (first | (refine wpList_load_mid rfl 23 (.tmp 23) rfl w.heap.size 2 rfl (a.map B8) _ HRG.out Tryd.underlying23 rfl HS23.out ?_) | (go_at_call 44; refine HBIT.out.mono ?_; rintro e w2 ⟨rfl, b2⟩; refine Hid.out ?_) | fail)
            refine Lib.hid ?_
            have B2 := Lib.hid b2
            clear b2
            go_wp2
            go_ret
            exact ⟨ret_bool HZ2.out.symm, HB.out.trans (B2.out.mono HB.out.size)⟩
        · have i1 : ¬ (k : Int) < 128 := by omega
          have HZ2 : Hid (R = true) := hz.out.trans (zeroFrom_end a (by omega))
          have HB := Lib.hid hb
          clear hb hat hz
          go_wp2
          go_ret
          exact ⟨ret_bool HZ2.out.symm, HB.out⟩
    · have e1 : ¬ bits < 0 := by omega
      have e2 : sz < bits := by omega
      rw [decide_eq_false (fun h => hu h.2), Bool.false_and] at hR
      have HR := Lib.hid hR
      clear hR hl hu
      go_enter Tryd.func19, Tryd.ntmps19
      go_wp2_with (go_at_call 39; refine HSZ.out.mono ?_; rintro e w1 ⟨rfl, rfl⟩; refine Hid.out ?_)
      refine Lib.hid ?_
      go_wp2
      go_ret
      exact ⟨ret_bool HR.out.symm, Below.alloc1 _ _⟩
  · have e1 : bits < 0 := by omega
    rw [decide_eq_false (fun h => hl h.1), Bool.false_and] at hR
    have HR := Lib.hid hR
    clear hR hl
    go_enter Tryd.func19, Tryd.ntmps19
    go_wp2_with (go_at_call 39; refine HSZ.out.mono ?_; rintro e w1 ⟨rfl, rfl⟩; refine Hid.out ?_)
    refine Lib.hid ?_
    go_wp2
    go_ret
    exact ⟨ret_bool HR.out.symm, Below.alloc1 _ _⟩
end Go.Proofs.YtdmajikhpacpfaaDoor.Cidr
/-
  CIDR: ranges in boxes: stored whole, one byte stored, told as a result.
-/
namespace Go.Proofs.YtdmajikhpacpfaaDoor.Cidr
open Go.RowKit Base
def zeroN : NetM := ⟨false, 0, List.replicate 16 0⟩
abbrev netL (n : NetM) : List Value := .bool n.six :: .int .i64 n.bits :: n.a.map B8
theorem netL_one (n : NetM) : ∀ v ∈ netL n, v.oneCell' = true := fun v hv => by
  simp only [List.mem_cons, List.mem_map] at hv
  rcases hv with rfl | rfl | ⟨x, _, rfl⟩ <;> rfl
theorem netC_all (n : NetM) : (netC n).all (·.oneCell') = true := all_oneCell_toArray (netL_one n)
theorem netC_size {n : NetM} (ha : n.a.length = 16) : (netC n).size = 18 := by simp [ha]
theorem size25c {n : NetM} (ha : n.a.length = 16) : (Tryd.prog.info? 25).map (·.size) = some (netC n).size := by rw [size25, netC_size ha]
/-- Cells of a row, written from o on. -/
def setL (cur : Array Value) : Nat → List Value → Array Value
  | _, [] => cur
  | o, v :: r => setL (cur.setIfInBounds o v) (o + 1) r
theorem setL_size : ∀ (vs : List Value) (o : Nat) (cur : Array Value), (setL cur o vs).size = cur.size
  | [], _, _ => rfl
  | v :: r, o, cur => by unfold setL; rw [setL_size r]; simp
theorem setL_out : ∀ (vs : List Value) (o : Nat) (cur : Array Value) (j : Nat), j < o → (setL cur o vs)[j]? = cur[j]?
  | [], _, _, _, _ => rfl
  | v :: r, o, cur, j, h => by
    unfold setL
    rw [setL_out r (o + 1) _ j (by omega), Array.getElem?_setIfInBounds, if_neg (by omega)]
theorem setL_in : ∀ (vs : List Value) (o : Nat) (cur : Array Value) (j : Nat), j < vs.length → o + vs.length ≤ cur.size → (setL cur o vs)[o + j]? = vs[j]?
  | [], _, _, _, h, _ => by simp at h
  | v :: r, o, cur, j, h, hs => by
    unfold setL
    simp at hs
    cases j with
    | zero =>
      rw [setL_out r (o + 1) _ (o + 0) (by omega), Array.getElem?_setIfInBounds]
      simp
      omega
    | succ j =>
      have := setL_in r (o + 1) (cur.setIfInBounds o v) j (by simpa using h) (by simp; omega)
      rw [show o + (j + 1) = o + 1 + j by omega, this]
      simp
theorem setL_whole (vs : List Value) (cur : Array Value) (h : cur.size = vs.length) : setL cur 0 vs = vs.toArray := by
  apply Array.ext_getElem?
  intro j
  rcases Nat.lt_or_ge j vs.length with hj | hj
  · have := setL_in vs 0 cur j hj (by omega)
    rw [Nat.zero_add] at this
    rw [this]; simp
  · rw [Array.getElem?_eq_none (by rw [setL_size]; omega)]
    simp [hj]
theorem heap_setCells (b : Nat) (t : TypeId) (fz : Nat × Nat) : ∀ (vs : List Value) (o : Nat) (w : World) (cur : Array Value), w.heap[b]? = some (.cells cur t fz) → (w.setCells b o vs).heap[b]? = some (.cells (setL cur o vs) t fz)
  | [], _, _, _, h => h
  | v :: r, o, w, cur, h => by
    unfold setL
    exact heap_setCells b t fz r (o + 1) _ _ (heap_setCell_any w b o cur t fz v h)
theorem keep_setCells (b : Nat) : ∀ (vs : List Value) (o : Nat) (w : World), KeepX b w (w.setCells b o vs) ∧ (w.setCells b o vs).heap.size = w.heap.size
  | [], _, w => ⟨KeepX.refl _ _, rfl⟩
  | v :: r, o, w => by
    obtain ⟨h1, h2⟩ := keep_setCells b r (o + 1) (w.setCell ⟨b, o, none⟩ v)
    exact ⟨(KeepX.set b w o v).trans h1, h2.trans (by simp [World.setCell])⟩
theorem there_of {w : World} {b : Nat} {cur : Array Value} {t : TypeId} (h : w.heap[b]? = some (.cells cur t (0, 0))) {n : Nat} (hn : n ≤ cur.size) : w.there b 0 n := fun j hj => by
  refine ⟨?_, by simp [World.frozen?, h]⟩
  rw [Nat.zero_add, cell_of_row w b j _ _ _ h, Array.getElem?_eq_getElem (by omega)]; rfl
/-- A range stored whole. -/
theorem net_put {w w2 : World} {b : Nat} {cur : Array Value} (h : w.heap[b]? = some (.cells cur 25 (0, 0))) (hs : cur.size = 18) {n : NetM} (ha : n.a.length = 16) (hw : w.setCells b 0 (netC n).toList = w2) : NetAt w2 b n ∧ KeepX b w w2 ∧ w2.heap.size = w.heap.size := by
  subst hw
  have h1 := heap_setCells b 25 (0, 0) (netC n).toList 0 w cur h
  rw [setL_whole _ _ (by rw [hs]; simp [ha])] at h1
  exact ⟨by simpa [NetAt] using h1, (keep_setCells b _ 0 w).1, (keep_setCells b _ 0 w).2⟩
/-- One byte stored. -/
theorem NetAt.setA {w : World} {b : Nat} {n : NetM} (h : NetAt w b n) (k : Nat) (x : UInt8) : NetAt (w.setCell ⟨b, 2 + k, none⟩ (B8 x)) b { n with a := n.a.set k x } := by
  have h1 := heap_setCell_any w b (2 + k) _ _ _ (B8 x) h
  unfold NetAt
  rw [h1]
  congr 2
  apply Array.toList_inj.1
  rw [show 2 + k = k + 1 + 1 by omega]
  simp [List.map_set]
theorem NetAt.cellA {w : World} {b : Nat} {n : NetM} (h : NetAt w b n) {k : Nat} (hk : k < n.a.length) : w.cell? ⟨b, 2 + k, none⟩ = some (.int .u8 ((n.a.getD k 0).toNat : Int)) ∧ w.frozen? ⟨b, 2 + k, none⟩ = false := by
  refine ⟨?_, by simp [World.frozen?, show w.heap[b]? = _ from h]⟩
  have := h.range k (B8 (n.a.getD k 0)) (by simp [List.getElem?_eq_getElem hk])
  exact this
theorem NetAt.kept {w w' : World} {b g : Nat} {n : NetM} (h : NetAt w b n) (hk : KeepX g w w') (hne : b ≠ g) : NetAt w' b n := (hk.block b (heap_lt h) hne).trans h
theorem results_net {w : World} {fn : Func} {tmps : Array Value} {i j b : Nat} {n : NetM} {v : Value} (hr : fn.results = #[ResultVar.cell i 25, ResultVar.tmp j]) (h1 : tmps.getD i undef = .pointer (some ⟨b, 0, none⟩)) (h2 : tmps.getD j undef = v) (hat : NetAt w b n) (ha : n.a.length = 16) :
    (results fn tmps).run Tryd.prog w = .ok (.tuple #[netV n, v]) w := by
  have hl := run_loadVar_mid w b 0 25 (netL n) _ hat.range0 Tryd.underlying25 rfl (size25_of ha)
  unfold results
  rw [hr]
  rw [Array.getD_eq_getD_getElem?] at h1 h2
  simp [h1, h2, hl, asAddr]
end Go.Proofs.YtdmajikhpacpfaaDoor.Cidr
/-
  CIDR: two addresses compared whole.
-/
namespace Go.Proofs.YtdmajikhpacpfaaDoor.Cidr
open Go.RowKit Base
theorem cellsOf5 : Tryd.prog.cellsOf 5 = 1 := by kernel_rfl
theorem plain5 : Tryd.prog.plainKey 5 = true := by kernel_rfl
theorem run_eqBytes (d : Nat) (xs ys : List UInt8) (w : World) : ∀ (is : List Nat), (∀ i ∈ is, i < xs.length ∧ i < ys.length) →
    (Op.eqItems (d + 1) 5 1 (xs.map B8).toArray (ys.map B8).toArray is).run Tryd.prog w = .ok (is.all fun i => xs.getD i 0 == ys.getD i 0) w
  | [], _ => by simp [Op.eqItems]
  | i :: is, h => by
    obtain ⟨h1, h2⟩ := h i List.mem_cons_self
    have p1 : (part 5 (xs.map B8).toArray (i * 1)).run Tryd.prog w = .ok (.int .u8 ((xs.getD i 0).toNat : Int)) w := run_part_plain w plain5 (by simp [List.getElem?_eq_getElem h1])
    have p2 : (part 5 (ys.map B8).toArray (i * 1)).run Tryd.prog w = .ok (.int .u8 ((ys.getD i 0).toNat : Int)) w := run_part_plain w plain5 (by simp [List.getElem?_eq_getElem h2])
    have p3 := run_equalIn_int (P := Tryd.prog) w d 5 .u8 .u8 ((xs.getD i 0).toNat : Int) ((ys.getD i 0).toNat : Int) Tryd.underlying5
    have ih := run_eqBytes d xs ys w is fun j hj => h j (List.mem_cons_of_mem _ hj)
    simp only [Op.eqItems, Sem.run_bind, p1, p2, p3, Result.andThen_ok, List.all_cons]
    by_cases he : xs.getD i 0 = ys.getD i 0
    · have e1 : (((xs.getD i 0).toNat : Int) == ((ys.getD i 0).toNat : Int)) = true := by rw [he]; simp
      have e2 : (xs.getD i 0 == ys.getD i 0) = true := by rw [he]; simp
      rw [e1, e2]; simpa using ih
    · have e1 : (((xs.getD i 0).toNat : Int) == ((ys.getD i 0).toNat : Int)) = false := by
        rw [beq_eq_false_iff_ne]; intro h; exact he (UInt8.toNat_inj.1 (by omega))
      have e2 : (xs.getD i 0 == ys.getD i 0) = false := by rw [beq_eq_false_iff_ne]; exact he
      rw [e1, e2]; simp
theorem all_range_eq {xs ys : List UInt8} {n : Nat} (hx : xs.length = n) (hy : ys.length = n) : ((List.range n).all fun i => xs.getD i 0 == ys.getD i 0) = decide (xs = ys) := by
  rw [Bool.eq_iff_iff, List.all_eq_true, decide_eq_true_iff]
  constructor
  · intro h
    apply List.ext_getElem (by omega)
    intro i h1 h2
    have := h i (List.mem_range.2 (by omega))
    simpa [List.getD, List.getElem?_eq_getElem h1, List.getElem?_eq_getElem h2] using this
  · rintro rfl i _
    simp
theorem run_eqAddr (d : Nat) (xs ys : List UInt8) (hx : xs.length = 16) (hy : ys.length = 16) (w : World) : (Op.equalIn (d + 2) 23 (.agg (xs.map B8).toArray) (.agg (ys.map B8).toArray)).run Tryd.prog w = .ok (decide (xs = ys)) w := by
  obtain ⟨i0, hi, _⟩ := info_parts info5
  rw [run_equalIn_array w (d + 1) _ _ Tryd.underlying23 hi, cellsOf5, run_eqBytes d xs ys w _ (fun i hi => by rw [List.mem_range] at hi; omega), all_range_eq hx hy]
/-- As the walk meets it within a range. -/
theorem run_eqAddr16 (xs ys : List UInt8) (hx : xs.length = 16) (hy : ys.length = 16) (w : World) : (Op.equalIn 9999 23 (.agg (List.take 16 (List.map B8 xs)).toArray) (.agg (List.take 16 (List.map B8 ys)).toArray)).run Tryd.prog w = .ok (decide (xs = ys)) w := by
  rw [List.take_of_length_le (by simp; omega), List.take_of_length_le (by simp; omega)]
  exact run_eqAddr 9997 xs ys hx hy w
theorem net_eq (x y : NetM) : decide (x = y) = (decide (x.six = y.six) && (decide (x.bits = y.bits) && decide (x.a = y.a))) := by
  obtain ⟨a, b, c⟩ := x
  obtain ⟨d, e, f⟩ := y
  simp only [NetM.mk.injEq]
  rw [Bool.eq_iff_iff]
  simp
theorem run_neqNet (x y : NetM) (hx : x.a.length = 16) (hy : y.a.length = 16) (w : World) : (binOp .neq 25 (netV x) (netV y)).run Tryd.prog w = .ok (.bool (!decide (x = y))) w := by
  have h16 := run_eqAddr16 x.a y.a hx hy w
  rw [net_eq]
  by_cases h6 : x.six = y.six
  · by_cases hb : x.bits = y.bits
    · by_cases ha : x.a = y.a
      · rw [decide_eq_true ha, ha] at h16
        rw [decide_eq_true h6, decide_eq_true hb, decide_eq_true ha]
        go_simp
      · rw [decide_eq_false ha] at h16
        rw [decide_eq_true h6, decide_eq_true hb, decide_eq_false ha]
        go_simp
    · rw [decide_eq_true h6, decide_eq_false hb]
      go_simp
  · rw [decide_eq_false h6]
    go_simp
theorem run_eqlNet (x y : NetM) (hx : x.a.length = 16) (hy : y.a.length = 16) (w : World) : (binOp .eql 25 (netV x) (netV y)).run Tryd.prog w = .ok (.bool (decide (x = y))) w := by
  have h16 := run_eqAddr16 x.a y.a hx hy w
  rw [net_eq]
  by_cases h6 : x.six = y.six
  · by_cases hb : x.bits = y.bits
    · by_cases ha : x.a = y.a
      · rw [decide_eq_true ha, ha] at h16
        rw [decide_eq_true h6, decide_eq_true hb, decide_eq_true ha]
        go_simp
      · rw [decide_eq_false ha] at h16
        rw [decide_eq_true h6, decide_eq_true hb, decide_eq_false ha]
        go_simp
    · rw [decide_eq_true h6, decide_eq_false hb]
      go_simp
  · rw [decide_eq_false h6]
    go_simp
theorem guard25 : Tryd.prog.eqGuardType Tryd.prog.depth 25 = false := by kernel_rfl
theorem exec_neqNet {ρ : Operand → Value} {o : Oper} {s t : Operand} {r : TypeId} {x y : NetM} (ho : o.op = .binOp .neq 25 s t r) (hs : ρ s = netV x) (ht : ρ t = netV y) (hx : x.a.length = 16) (hy : y.a.length = 16) (w : World) :
    (execOp ρ o).run Tryd.prog w = .ok (.value (.bool (!decide (x = y)))) w := by
  unfold execOp
  simp only [ho, hs, ht, Sem.run_bind, run_eqGuard_agg w _ _ _ _ _ _ guard25, Result.andThen_ok, run_neqNet x y hx hy w, Sem.run_pure]
end Go.Proofs.YtdmajikhpacpfaaDoor.Cidr
/-
  CIDR, the given answers: whether a range lies in another one.
-/
namespace Go.Proofs.YtdmajikhpacpfaaDoor.Cidr
open Go.RowKit Base
def eqF (a b : List UInt8) : Nat → Nat → Bool
  | 0, _ => true
  | n + 1, k => bitA a k == bitA b k && eqF a b n (k + 1)
/-- Are the bits from k up to m the same? -/
def eqFrom (a b : List UInt8) (m k : Nat) : Bool := eqF a b (m - k) k
theorem eqFrom_step (a b : List UInt8) {m k : Nat} (h : k < m) : eqFrom a b m k = (bitA a k == bitA b k && eqFrom a b m (k + 1)) := by
  unfold eqFrom
  rw [show m - k = (m - (k + 1)) + 1 by omega, eqF]
theorem eqFrom_end (a b : List UInt8) {m k : Nat} (h : m ≤ k) : eqFrom a b m k = true := by
  unfold eqFrom
  rw [show m - k = 0 by omega, eqF]
/-- Does n lie in i? -/
def withinN (n i : NetM) : Bool := rightN n && (rightN i && (n.six == i.six && (decide (i.bits ≤ n.bits) && eqFrom n.a i.a i.bits.toNat 0)))
theorem rightN_bits {n : NetM} (h : rightN n = true) : 0 ≤ n.bits ∧ n.bits ≤ 128 := by
  unfold rightN at h
  rw [Bool.and_eq_true, decide_eq_true_iff] at h
  have : sizeN n.six ≤ 128 := by unfold sizeN; split <;> omega
  omega
def TwoS (wr : World) (b1 b2 : Nat) (a b : List UInt8) (w' : World) : Prop := Below wr.heap.size wr w' ∧ w'.rangeAt b1 2 (a.map B8) ∧ w'.rangeAt b2 2 (b.map B8)
theorem rangeAt_on {w w' : World} {b o : Nat} {cs : List Value} (h : w.rangeAt b o cs) (hb : Below w.heap.size w w') : w'.rangeAt b o cs := fun j v hv => (hb.cell (p := ⟨b, o + j, none⟩) (cell_lt (h j v hv))).trans (h j v hv)
theorem two_keep {wr w1 w2 : World} {b1 b2 : Nat} {a b : List UInt8} (h : TwoS wr b1 b2 a b w1) (hb : Below w1.heap.size w1 w2) : TwoS wr b1 b2 a b w2 := ⟨h.1.trans (hb.mono h.1.size), rangeAt_on h.2.1 hb, rangeAt_on h.2.2 hb⟩
theorem two_drew {wr : World} {b1 b2 : Nat} {n i : NetM} (h1 : NetAt wr b1 n) (h2 : NetAt wr b2 i) : TwoS wr b1 b2 n.a i.a wr.drew := by
  have hb : Below wr.heap.size wr wr.drew := ⟨rfl, rfl, rfl, Nat.le_refl _, fun _ _ => rfl⟩
  exact ⟨hb, rangeAt_on h1.range hb, rangeAt_on h2.range hb⟩
set_option maxHeartbeats 4000000 in
set_option maxRecDepth 100000 in
set_option linter.unusedSimpArgs false in
theorem rWithin (n i : NetM) (ha : n.a.length = 16) (hai : i.a.length = 16) (w : World) : Calls Tryd.prog 22 #[netV n, netV i] w (AnsB (withinN n i) w) := by
  have HA := Lib.hid ha
  have HAI := Lib.hid hai
  obtain ⟨W, hW⟩ : ∃ W, W = withinN n i := ⟨_, rfl⟩
  rw [← hW]
  unfold withinN at hW
  have hn0 := NetAt.new w n
  have hn1 := NetAt.on hn0 (Below.alloc1 _ (.cells (netC i) 25))
  have hi1 : NetAt ((w.alloc (.cells (netC n) 25)).alloc (.cells (netC i) 25)) (w.heap.size + 1) i := by
    have := NetAt.new (w.alloc (.cells (netC n) 25)) i
    rwa [show (w.alloc (.cells (netC n) 25)).heap.size = w.heap.size + 1 by simp] at this
  have HN := Lib.hid hn1
  have HI := Lib.hid hi1
  have HB0 : Hid (Below w.heap.size w ((w.alloc (.cells (netC n) 25)).alloc (.cells (netC i) 25))) := (Below.alloc1 _ _).trans ((Below.alloc1 _ _).mono (by simp))
  have HS := Lib.hid (size25_of ha)
  have HSI := Lib.hid (size25_of hai)
  have HR1 := Lib.hid (fun wr => rRight n HA.out wr)
  have HR2 := Lib.hid (fun wr => rRight i HAI.out wr)
  have HBITS := Lib.hid (fun h => rightN_bits (n := i) h)
  generalize rightN n = r1 at hW HR1
  generalize rightN i = r2 at hW HR2 HBITS
  have HW := Lib.hid hW
  clear hW hn0 hn1 hi1 ha hai
  go_enter Tryd.func22, Tryd.ntmps22
  go_wp2_with (first | (refine wpList_load_mid rfl 25 (.tmp 2) rfl w.heap.size 0 rfl (.bool n.six :: .int .i64 n.bits :: n.a.map B8) _ HN.out.range0 Tryd.underlying25 rfl HS.out ?_) | (go_at_call 19; refine (HR1.out _).mono ?_; rintro e w2 ⟨rfl, b2⟩; refine Hid.out ?_) | fail)
  refine Lib.hid ?_
  have HN2 := Lib.hid (HN.out.on b2)
  have HI2 := Lib.hid (HI.out.on b2)
  have HB2 := Lib.hid (HB0.out.trans (b2.mono HB0.out.size))
  clear b2
  go_wp2_with (first | (refine wpList_load_mid rfl 25 (.tmp 3) rfl (w.heap.size + 1) 0 rfl (.bool i.six :: .int .i64 i.bits :: i.a.map B8) _ HI2.out.range0 Tryd.underlying25 rfl HSI.out ?_) | (go_at_call 19; refine (HR2.out _).mono ?_; rintro e w3 ⟨rfl, b3⟩; refine Hid.out ?_) | fail)
  refine Lib.hid ?_
  have hn3 := HN2.out.on b3
  have hi3 := HI2.out.on b3
  have HN3 := Lib.hid hn3
  have HI3 := Lib.hid hi3
  have HB3 := Lib.hid (HB2.out.trans (b3.mono HB2.out.size))
  have k1 := hn3.six
  have k2 := hn3.bits
  have k3 := hi3.six
  have k4 := hi3.bits
  clear b3 hn3 hi3
  cases r1 with
  | false =>
    have HW2 : Hid (W = false) := HW.out
    go_wp2
    go_ret
    exact ⟨ret_bool HW2.out.symm, HB3.out⟩
  | true =>
    cases r2 with
    | false =>
      have HW2 : Hid (W = false) := HW.out
      go_wp2
      go_ret
      exact ⟨ret_bool HW2.out.symm, HB3.out⟩
    | true =>
      have HBT := Lib.hid (HBITS.out rfl)
      have HW1 : Hid (W = (n.six == i.six && (decide (i.bits ≤ n.bits) && eqFrom n.a i.a i.bits.toNat 0))) := HW.out
      by_cases h6 : n.six = i.six
      · have e6 : (n.six == i.six) = true := by rw [h6]; simp
        by_cases hb : i.bits ≤ n.bits
        · have eb : ¬ n.bits < i.bits := by omega
          obtain ⟨m, hm⟩ := Int.eq_ofNat_of_zero_le HBT.out.1
          have HM : Hid (m ≤ 128) := by show m ≤ 128; have := HBT.out.2; omega
          have HW2 : Hid (W = eqFrom n.a i.a m 0) := by
            have := HW1.out
            rw [e6, decide_eq_true hb, hm] at this
            exact this
          rw [hm] at k4 eb
          have HIB : Hid (NetAt w3 (w.heap.size + 1) i ∧ i.bits = (m : Int)) := ⟨HI3.out, hm⟩
          clear h6 hb HW HW1 HBT hm
          go_wp2
          go_loopw [7] (fun x wr => ∃ k : Nat, k ≤ m ∧ x = .int .i64 k ∧ NetAt wr w.heap.size n ∧ NetAt wr (w.heap.size + 1) i ∧ Below w.heap.size w wr ∧ Hid (W = eqFrom n.a i.a m k)) (fun x _ => m - (intOf x).toNat)
          case atStart => exact ⟨0, Nat.zero_le _, rfl, HN3.out, HI3.out, HB3.out, HW2.out⟩
          case round =>
            obtain ⟨k, hk, rfl, hat, hat2, hbw, hz⟩ := hrel
            have q4 := hat2.bits
            rw [HIB.out.2] at q4
            by_cases hlt : k < m
            · have hm2 := HM.out
              have HZ := Lib.hid (hz.out.trans (eqFrom_step n.a i.a hlt))
              have HBIT1 := Lib.hid (fun wx => rBit n.a HA.out k (by omega) wx)
              have HBIT2 := Lib.hid (fun wx => rBit i.a HAI.out k (by omega) wx)
              have HAT := Lib.hid hat
              have HAT2 := Lib.hid hat2
              have HBW := Lib.hid hbw
              have HTW := Lib.hid (two_drew hat hat2)
              have i1 : (k : Int) < (m : Int) := by omega
              have u23 := Tryd.underlying23
              have z1 := size23_of HA.out
              have z2 := size23_of HAI.out
              clear hz hat hat2 hbw
              generalize bitA n.a k = x1 at HBIT1 HZ
              generalize bitA i.a k = x2 at HBIT2 HZ
              have hx0 : (x1 == x2) = true ∨ ((x1 == x2) = false ∧ ((x1 : Int) == (x2 : Int)) = false) := by
                by_cases hx : x1 = x2
                · left; rw [hx]; simp
                · right; exact ⟨by rw [beq_eq_false_iff_ne]; exact hx, by rw [beq_eq_false_iff_ne]; omega⟩
              rcases hx0 with hx | ⟨hx, hxi⟩
              · obtain rfl : x1 = x2 := by simpa using hx
                have HZ2 : Hid (W = eqFrom n.a i.a m (k + 1)) := by have := HZ.out; rw [hx, Bool.true_and] at this; exact this
                clear HZ hx
                go_wp2
                refine wp_region_noPanic ?_
                refine wp_region_held_drew (S := (fun w' => Below wr.heap.size wr w' ∧ w'.rangeAt w.heap.size 2 (n.a.map B8) ∧ w'.rangeAt (w.heap.size + 1) 2 (i.a.map B8))) (by kernel_rfl) HTW.out (fun hHeld => ?_)
                refine wpAnyH_take (i := 0) (v := ?va1) rfl (by kernel_rfl) (by kernel_rfl) (by kernel_rfl) (fun _ _ _ h => h) (Or.inl ⟨by rfl, ?hya1⟩) (by assumption) ?resta1
                case hya1 => (intro w hSw; (try dsimp only at hSw); go_simp; try with_reducible rfl)
                (try simp only [Act.put, List.getElem_toArray, List.getElem_cons_succ, List.getElem_cons_zero, List.setIfInBounds_toArray, List.set_cons_zero, List.set_cons_succ])
                refine wpAnyH_take (i := 1) rfl (by kernel_rfl) (by kernel_rfl) (by kernel_rfl) (fun _ _ _ h => h) (yieldsIf_load_mid (by rfl) 23 (.tmp 38) rfl w.heap.size 2 rfl (n.a.map B8) _ (fun w' h => h.2.1) u23 rfl z1) (by assumption) ?_
                (try simp only [Act.put, List.getElem_toArray, List.getElem_cons_succ, List.getElem_cons_zero, List.setIfInBounds_toArray, List.set_cons_zero, List.set_cons_succ])
                refine wpAnyH_take (i := 2) (v := ?va3) rfl (by kernel_rfl) (by kernel_rfl) (by kernel_rfl) (fun _ _ _ h => h) (Or.inl ⟨by rfl, ?hya3⟩) (by assumption) ?resta3
                case hya3 => (intro w hSw; (try dsimp only at hSw); go_simp; try with_reducible rfl)
                (try simp only [Act.put, List.getElem_toArray, List.getElem_cons_succ, List.getElem_cons_zero, List.setIfInBounds_toArray, List.set_cons_zero, List.set_cons_succ])
                refine wpAnyH_take (i := 4) (v := ?va4) rfl (by kernel_rfl) (by kernel_rfl) (by kernel_rfl) (fun _ _ _ h => h) (Or.inl ⟨by rfl, ?hya4⟩) (by assumption) ?resta4
                case hya4 => (intro w hSw; (try dsimp only at hSw); go_simp; try with_reducible rfl)
                (try simp only [Act.put, List.getElem_toArray, List.getElem_cons_succ, List.getElem_cons_zero, List.setIfInBounds_toArray, List.set_cons_zero, List.set_cons_succ])
                refine wpAnyH_take (i := 5) rfl (by kernel_rfl) (by kernel_rfl) (by kernel_rfl) (fun _ _ _ h => h) (yieldsIf_load_mid (by rfl) 23 (.tmp 42) rfl (w.heap.size + 1) 2 rfl (i.a.map B8) _ (fun w' h => h.2.2) u23 rfl z2) (by assumption) ?_
                (try simp only [Act.put, List.getElem_toArray, List.getElem_cons_succ, List.getElem_cons_zero, List.setIfInBounds_toArray, List.set_cons_zero, List.set_cons_succ])
                refine wpAnyH_take (i := 6) (v := ?va6) rfl (by kernel_rfl) (by kernel_rfl) (by kernel_rfl) (fun _ _ _ h => h) (Or.inl ⟨by rfl, ?hya6⟩) (by assumption) ?resta6
                case hya6 => (intro w hSw; (try dsimp only at hSw); go_simp; try with_reducible rfl)
                (try simp only [Act.put, List.getElem_toArray, List.getElem_cons_succ, List.getElem_cons_zero, List.setIfInBounds_toArray, List.set_cons_zero, List.set_cons_succ])
                refine wpAnyH_ready (rs := [3]) (by kernel_rfl) (by simp) ?_
                refine AllReadyH.cons rfl (fun K hK => ?_) AllReadyH.nil
                go_simp
                go_wp2_with (go_at_call 44; refine (HBIT1.out _).mono ?_; rintro e wn1 ⟨rfl, hb1⟩)
                refine hK.out _ _ (two_keep (by assumption) hb1) (fun hHeld => ?_)
                clear hK K
                (try simp only [Act.put, List.getElem_toArray, List.getElem_cons_succ, List.getElem_cons_zero, List.setIfInBounds_toArray, List.set_cons_zero, List.set_cons_succ])
                refine wpAnyH_ready (rs := [7]) (by kernel_rfl) (by simp) ?_
                refine AllReadyH.cons rfl (fun K hK => ?_) AllReadyH.nil
                go_simp
                go_wp2_with (go_at_call 44; refine (HBIT2.out _).mono ?_; rintro e wn2 ⟨rfl, hb2⟩)
                refine hK.out _ _ (two_keep (by assumption) hb2) (fun hHeld => ?_)
                clear hK K
                (try simp only [Act.put, List.getElem_toArray, List.getElem_cons_succ, List.getElem_cons_zero, List.setIfInBounds_toArray, List.set_cons_zero, List.set_cons_succ])
                refine wpAnyH_take (i := 8) (v := ?va9) rfl (by kernel_rfl) (by kernel_rfl) (by kernel_rfl) (fun _ _ _ h => h) (Or.inl ⟨by rfl, ?hya9⟩) (by assumption) ?resta9
                case hya9 => (intro w hSw; (try dsimp only at hSw); go_simp; try with_reducible rfl)
                (try simp only [Act.put, List.getElem_toArray, List.getElem_cons_succ, List.getElem_cons_zero, List.setIfInBounds_toArray, List.set_cons_zero, List.set_cons_succ])
                refine wpAnyH_done (by kernel_rfl) ?_ _
                refine NoPanic.normal ?_
                go_wp2
                go_roundw
                case rel => exact ⟨k + 1, by omega, by go_num, HAT.out.on (And.left (by assumption)), HAT2.out.on (And.left (by assumption)), HBW.out.trans (Below.mono (And.left (by assumption)) HBW.out.size), HZ2.out⟩
                case measure => simp [intOf]; omega
              · have HZ2 : Hid (W = false) := by have := HZ.out; rw [hx, Bool.false_and] at this; exact this
                clear HZ hx
                go_wp2
                refine wp_region_noPanic ?_
                refine wp_region_held_drew (S := (fun w' => Below wr.heap.size wr w' ∧ w'.rangeAt w.heap.size 2 (n.a.map B8) ∧ w'.rangeAt (w.heap.size + 1) 2 (i.a.map B8))) (by kernel_rfl) HTW.out (fun hHeld => ?_)
                refine wpAnyH_take (i := 0) (v := ?vb1) rfl (by kernel_rfl) (by kernel_rfl) (by kernel_rfl) (fun _ _ _ h => h) (Or.inl ⟨by rfl, ?hyb1⟩) (by assumption) ?restb1
                case hyb1 => (intro w hSw; (try dsimp only at hSw); go_simp; try with_reducible rfl)
                (try simp only [Act.put, List.getElem_toArray, List.getElem_cons_succ, List.getElem_cons_zero, List.setIfInBounds_toArray, List.set_cons_zero, List.set_cons_succ])
                refine wpAnyH_take (i := 1) rfl (by kernel_rfl) (by kernel_rfl) (by kernel_rfl) (fun _ _ _ h => h) (yieldsIf_load_mid (by rfl) 23 (.tmp 38) rfl w.heap.size 2 rfl (n.a.map B8) _ (fun w' h => h.2.1) u23 rfl z1) (by assumption) ?_
                (try simp only [Act.put, List.getElem_toArray, List.getElem_cons_succ, List.getElem_cons_zero, List.setIfInBounds_toArray, List.set_cons_zero, List.set_cons_succ])
                refine wpAnyH_take (i := 2) (v := ?vb3) rfl (by kernel_rfl) (by kernel_rfl) (by kernel_rfl) (fun _ _ _ h => h) (Or.inl ⟨by rfl, ?hyb3⟩) (by assumption) ?restb3
                case hyb3 => (intro w hSw; (try dsimp only at hSw); go_simp; try with_reducible rfl)
                (try simp only [Act.put, List.getElem_toArray, List.getElem_cons_succ, List.getElem_cons_zero, List.setIfInBounds_toArray, List.set_cons_zero, List.set_cons_succ])
                refine wpAnyH_take (i := 4) (v := ?vb4) rfl (by kernel_rfl) (by kernel_rfl) (by kernel_rfl) (fun _ _ _ h => h) (Or.inl ⟨by rfl, ?hyb4⟩) (by assumption) ?restb4
                case hyb4 => (intro w hSw; (try dsimp only at hSw); go_simp; try with_reducible rfl)
                (try simp only [Act.put, List.getElem_toArray, List.getElem_cons_succ, List.getElem_cons_zero, List.setIfInBounds_toArray, List.set_cons_zero, List.set_cons_succ])
                refine wpAnyH_take (i := 5) rfl (by kernel_rfl) (by kernel_rfl) (by kernel_rfl) (fun _ _ _ h => h) (yieldsIf_load_mid (by rfl) 23 (.tmp 42) rfl (w.heap.size + 1) 2 rfl (i.a.map B8) _ (fun w' h => h.2.2) u23 rfl z2) (by assumption) ?_
                (try simp only [Act.put, List.getElem_toArray, List.getElem_cons_succ, List.getElem_cons_zero, List.setIfInBounds_toArray, List.set_cons_zero, List.set_cons_succ])
                refine wpAnyH_take (i := 6) (v := ?vb6) rfl (by kernel_rfl) (by kernel_rfl) (by kernel_rfl) (fun _ _ _ h => h) (Or.inl ⟨by rfl, ?hyb6⟩) (by assumption) ?restb6
                case hyb6 => (intro w hSw; (try dsimp only at hSw); go_simp; try with_reducible rfl)
                (try simp only [Act.put, List.getElem_toArray, List.getElem_cons_succ, List.getElem_cons_zero, List.setIfInBounds_toArray, List.set_cons_zero, List.set_cons_succ])
                refine wpAnyH_ready (rs := [3]) (by kernel_rfl) (by simp) ?_
                refine AllReadyH.cons rfl (fun K hK => ?_) AllReadyH.nil
                go_simp
                go_wp2_with (go_at_call 44; refine (HBIT1.out _).mono ?_; rintro e wn1 ⟨rfl, hb1⟩)
                refine hK.out _ _ (two_keep (by assumption) hb1) (fun hHeld => ?_)
                clear hK K
                (try simp only [Act.put, List.getElem_toArray, List.getElem_cons_succ, List.getElem_cons_zero, List.setIfInBounds_toArray, List.set_cons_zero, List.set_cons_succ])
                refine wpAnyH_ready (rs := [7]) (by kernel_rfl) (by simp) ?_
                refine AllReadyH.cons rfl (fun K hK => ?_) AllReadyH.nil
                go_simp
                go_wp2_with (go_at_call 44; refine (HBIT2.out _).mono ?_; rintro e wn2 ⟨rfl, hb2⟩)
                refine hK.out _ _ (two_keep (by assumption) hb2) (fun hHeld => ?_)
                clear hK K
                (try simp only [Act.put, List.getElem_toArray, List.getElem_cons_succ, List.getElem_cons_zero, List.setIfInBounds_toArray, List.set_cons_zero, List.set_cons_succ])
                refine wpAnyH_take (i := 8) (v := ?vb9) rfl (by kernel_rfl) (by kernel_rfl) (by kernel_rfl) (fun _ _ _ h => h) (Or.inl ⟨by rfl, ?hyb9⟩) (by assumption) ?restb9
                case hyb9 => (intro w hSw; (try dsimp only at hSw); go_simp; try with_reducible rfl)
                (try simp only [Act.put, List.getElem_toArray, List.getElem_cons_succ, List.getElem_cons_zero, List.setIfInBounds_toArray, List.set_cons_zero, List.set_cons_succ])
                refine wpAnyH_done (by kernel_rfl) ?_ _
                refine NoPanic.normal ?_
                go_wp2
                go_ret
                exact ⟨ret_bool HZ2.out.symm, HBW.out.trans (Below.mono (And.left (by assumption)) HBW.out.size)⟩
            · have HZ2 : Hid (W = true) := hz.out.trans (eqFrom_end n.a i.a (by omega))
              have HBW := Lib.hid hbw
              have i1 : ¬ (k : Int) < (m : Int) := by omega
              clear hz hat hat2 hbw
              go_wp2
              go_ret
              exact ⟨ret_bool HZ2.out.symm, HBW.out⟩
        · have eb : n.bits < i.bits := by omega
          have HW2 : Hid (W = false) := by
            have := HW1.out
            rw [decide_eq_false hb, Bool.false_and, Bool.and_false] at this
            exact this
          clear h6 hb HW HW1
          go_wp2
          go_ret
          exact ⟨ret_bool HW2.out.symm, HB3.out⟩
      · have e6 : (n.six == i.six) = false := by rw [beq_eq_false_iff_ne]; exact h6
        have HW2 : Hid (W = false) := by
          have := HW1.out
          rw [e6, Bool.false_and] at this
          exact this
        clear h6 HW HW1
        go_wp2
        go_ret
        exact ⟨ret_bool HW2.out.symm, HB3.out⟩
end Go.Proofs.YtdmajikhpacpfaaDoor.Cidr
/-
  CIDR, the given answers: whether an address lies in one of several ranges.
-/
namespace Go.Proofs.YtdmajikhpacpfaaDoor.Cidr
open Go.RowKit Base

/-- A slice of ranges that came in. -/
def Nets (w : World) (A : Option Addr) (ns : List NetM) : Prop := ∀ (j : Nat) (n : NetM), ns[j]? = some n → n.a.length = 16 ∧ ∃ b o, A = some ⟨b, o, none⟩ ∧ w.rangeAt b (o + j * 18) (netL n)
theorem Nets.on {w w' : World} {A : Option Addr} {ns : List NetM} (h : Nets w A ns) (hb : Below w.heap.size w w') : Nets w' A ns := fun j n hj => by
  obtain ⟨h1, b, o, h2, h3⟩ := h j n hj
  exact ⟨h1, b, o, h2, rangeAt_on h3 hb⟩
def hasN (l : List NetM) (n : NetM) : Bool := l.any fun x => withinN n x
theorem has_keep {wr w1 w2 : World} {b1 o1 b2 o2 : Nat} {l1 l2 : List Value} (h : Below wr.heap.size wr w1 ∧ w1.rangeAt b1 o1 l1 ∧ w1.rangeAt b2 o2 l2) (hb : Below w1.heap.size w1 w2) : Below wr.heap.size wr w2 ∧ w2.rangeAt b1 o1 l1 ∧ w2.rangeAt b2 o2 l2 := ⟨h.1.trans (hb.mono h.1.size), rangeAt_on h.2.1 hb, rangeAt_on h.2.2 hb⟩
theorem has_drew {wr : World} {b1 o1 b2 o2 : Nat} {l1 l2 : List Value} (h1 : wr.rangeAt b1 o1 l1) (h2 : wr.rangeAt b2 o2 l2) : Below wr.heap.size wr wr.drew ∧ wr.drew.rangeAt b1 o1 l1 ∧ wr.drew.rangeAt b2 o2 l2 := by
  have hb : Below wr.heap.size wr wr.drew := ⟨rfl, rfl, rfl, Nat.le_refl _, fun _ _ => rfl⟩
  exact ⟨hb, rangeAt_on h1 hb, rangeAt_on h2 hb⟩
set_option maxHeartbeats 4000000 in
set_option maxRecDepth 100000 in
set_option linter.unusedSimpArgs false in
theorem rHas (A : Option Addr) (c : Nat) (ns : List NetM) (n : NetM) (ha : n.a.length = 16) (w : World) (hns : Nets w A ns) (hnl : ns.length ≤ 9223372036854775807) : Calls Tryd.prog 23 #[.slice A ns.length c, netV n] w (AnsB (hasN ns n) w) := by
  have HA := Lib.hid ha
  have HN := Lib.hid (NetAt.new w n)
  have HNL := Lib.hid hnl
  have HNS := Lib.hid (hns.on (Below.alloc1 w (.cells (netC n) 25)))
  obtain ⟨R, hR⟩ : ∃ R, R = hasN ns n := ⟨_, rfl⟩
  rw [← hR]
  have HR := Lib.hid hR
  clear hns hR hnl
  go_enter Tryd.func23, Tryd.ntmps23
  go_wp2
  go_loopw [5] (fun x wr => ∃ k : Nat, k ≤ ns.length ∧ x = .int .i64 k ∧ NetAt wr w.heap.size n ∧ Nets wr A ns ∧ Below w.heap.size w wr ∧ Hid (R = hasN (ns.drop k) n)) (fun x _ => ns.length - (intOf x).toNat)
  case atStart => exact ⟨0, Nat.zero_le _, rfl, HN.out, HNS.out, Below.alloc1 _ _, HR.out⟩
  case round =>
    obtain ⟨k, hk, rfl, hat, hnets, hbw, hz⟩ := hrel
    have hnl := HNL.out
    by_cases hlt : k < ns.length
    · have hx := List.getElem?_eq_getElem hlt
      have hdrop : ns.drop k = ns[k] :: ns.drop (k + 1) := by rw [List.getElem_cons_drop]
      obtain ⟨hxa, b, o, rfl, hrg⟩ := hnets k _ hx
      generalize ns[k] = x at hx hdrop hxa hrg
      have HWI := Lib.hid (fun wx => rWithin n x HA.out hxa wx)
      have HZ : Hid (R = (withinN n x || hasN (ns.drop (k + 1)) n)) := by
        have := hz.out
        rw [hdrop] at this
        exact this
      have HST := Lib.hid (has_drew hat.range0 hrg)
      have HAT := Lib.hid hat
      have HNT := Lib.hid hnets
      have HBW := Lib.hid hbw
      have i1 : (k : Int) < (ns.length : Int) := by omega
      have i0 : (0 : Int) ≤ (k : Int) := by omega
      have u25 := Tryd.underlying25
      have z1 := size25_of HA.out
      have z2 := size25_of hxa
      clear hz hat hnets hbw hrg hdrop
      generalize withinN n x = y at HWI HZ
      go_wp2
      refine wp_region_noPanic ?_
      refine wp_region_held_drew (S := (fun w' => Below wr.heap.size wr w' ∧ w'.rangeAt w.heap.size 0 (netL n) ∧ w'.rangeAt b (o + k * 18) (netL x))) (by kernel_rfl) HST.out (fun hHeld => ?_)
      refine wpAnyH_take (i := 0) rfl (by kernel_rfl) (by kernel_rfl) (by kernel_rfl) (fun _ _ _ h => h) (yieldsIf_load_mid (by rfl) 25 (.tmp 3) rfl w.heap.size 0 rfl (netL n) _ (fun w' h => h.2.1) u25 rfl z1) (by assumption) ?_
      (try simp only [Act.put, List.getElem_toArray, List.getElem_cons_succ, List.getElem_cons_zero, List.setIfInBounds_toArray, List.set_cons_zero, List.set_cons_succ])
      refine wpAnyH_take (i := 1) (v := ?va2) rfl (by kernel_rfl) (by kernel_rfl) (by kernel_rfl) (fun _ _ _ h => h) (Or.inl ⟨by rfl, ?hya2⟩) (by assumption) ?resta2
      case hya2 => (intro w hSw; (try dsimp only at hSw); go_simp; try with_reducible rfl)
      (try simp only [Act.put, List.getElem_toArray, List.getElem_cons_succ, List.getElem_cons_zero, List.setIfInBounds_toArray, List.set_cons_zero, List.set_cons_succ])
      refine wpAnyH_take (i := 2) (v := ?va3) rfl (by kernel_rfl) (by kernel_rfl) (by kernel_rfl) (fun _ _ _ h => h) (Or.inl ⟨by rfl, ?hya3⟩) (by assumption) ?resta3
      case hya3 => (intro w hSw; (try dsimp only at hSw); go_simp; try with_reducible rfl)
      (try simp only [Act.put, List.getElem_toArray, List.getElem_cons_succ, List.getElem_cons_zero, List.setIfInBounds_toArray, List.set_cons_zero, List.set_cons_succ])
      refine wpAnyH_take (i := 3) (v := ?va4) rfl (by kernel_rfl) (by kernel_rfl) (by kernel_rfl) (fun _ _ _ h => h) (Or.inl ⟨by rfl, ?hya4⟩) (by assumption) ?resta4
      case hya4 => (intro w hSw; (try dsimp only at hSw); go_simp; try with_reducible rfl)
      (try simp only [Act.put, List.getElem_toArray, List.getElem_cons_succ, List.getElem_cons_zero, List.setIfInBounds_toArray, List.set_cons_zero, List.set_cons_succ])
      refine wpAnyH_take (i := 4) rfl (by kernel_rfl) (by kernel_rfl) (by kernel_rfl) (fun _ _ _ h => h) (yieldsIf_load_mid (by rfl) 25 (.tmp 16) rfl b (o + k * 18) rfl (netL x) _ (fun w' h => h.2.2) u25 rfl z2) (by assumption) ?_
      (try simp only [Act.put, List.getElem_toArray, List.getElem_cons_succ, List.getElem_cons_zero, List.setIfInBounds_toArray, List.set_cons_zero, List.set_cons_succ])
      refine wpAnyH_ready (rs := [5]) (by kernel_rfl) (by simp) ?_
      refine AllReadyH.cons rfl (fun K hK => ?_) AllReadyH.nil
      go_simp
      go_wp2_with (go_at_call 22; refine (HWI.out _).mono ?_; rintro e wn1 ⟨rfl, hb1⟩)
      refine hK.out _ _ (has_keep (by assumption) hb1) (fun hHeld => ?_)
      clear hK K
      (try simp only [Act.put, List.getElem_toArray, List.getElem_cons_succ, List.getElem_cons_zero, List.setIfInBounds_toArray, List.set_cons_zero, List.set_cons_succ])
      refine wpAnyH_take (i := 6) (v := ?va7) rfl (by kernel_rfl) (by kernel_rfl) (by kernel_rfl) (fun _ _ _ h => h) (Or.inl ⟨by rfl, ?hya7⟩) (by assumption) ?resta7
      case hya7 => (intro w hSw; (try dsimp only at hSw); go_simp; try with_reducible rfl)
      (try simp only [Act.put, List.getElem_toArray, List.getElem_cons_succ, List.getElem_cons_zero, List.setIfInBounds_toArray, List.set_cons_zero, List.set_cons_succ])
      refine wpAnyH_done (by kernel_rfl) ?_ _
      refine NoPanic.normal ?_
      have HBF := Lib.hid (And.left (show Below wr.heap.size wr _ ∧ _ from (by assumption)))
      cases y with
      | true =>
        have HZ2 : Hid (R = true) := HZ.out
        go_wp2
        go_ret
        exact ⟨ret_bool HZ2.out.symm, HBW.out.trans (HBF.out.mono HBW.out.size)⟩
      | false =>
        have HZ2 : Hid (R = hasN (ns.drop (k + 1)) n) := HZ.out
        go_wp2
        go_roundw
        case rel => exact ⟨k + 1, by omega, by go_num, HAT.out.on HBF.out, HNT.out.on HBF.out, HBW.out.trans (HBF.out.mono HBW.out.size), HZ2.out⟩
        case measure => simp [intOf]; omega
    · have HZ2 : Hid (R = false) := by
        have := hz.out
        rw [List.drop_eq_nil_of_le (by omega)] at this
        exact this
      have HBW := Lib.hid hbw
      have i1 : ¬ (k : Int) < (ns.length : Int) := by omega
      clear hz hat hnets hbw
      go_wp2
      go_ret
      exact ⟨ret_bool HZ2.out.symm, HBW.out⟩
end Go.Proofs.YtdmajikhpacpfaaDoor.Cidr
/-
  CIDR, the given answers: are two lists of ranges the same?
-/
namespace Go.Proofs.YtdmajikhpacpfaaDoor.Cidr
open Go.RowKit Base
theorem drop_eq (ns ms : List NetM) (k : Nat) (x y : NetM) (hx : ns[k]? = some x) (hy : ms[k]? = some y) : decide (ns.drop k = ms.drop k) = (decide (x = y) && decide (ns.drop (k + 1) = ms.drop (k + 1))) := by
  have h1 := (List.getElem?_eq_some_iff.1 hx)
  have h2 := (List.getElem?_eq_some_iff.1 hy)
  obtain ⟨l1, e1⟩ := h1
  obtain ⟨l2, e2⟩ := h2
  rw [List.drop_eq_getElem_cons l1, List.drop_eq_getElem_cons l2, e1, e2, Bool.eq_iff_iff]
  simp
set_option maxHeartbeats 4000000 in
set_option maxRecDepth 100000 in
set_option linter.unusedSimpArgs false in
theorem rSame (A B : Option Addr) (c d : Nat) (ns ms : List NetM) (w : World) (hns : Nets w A ns) (hms : Nets w B ms) (hnl : ns.length ≤ 9223372036854775807) : Calls Tryd.prog 15 #[.slice A ns.length c, .slice B ms.length d] w (fun e w' => e = .returned (.bool (decide (ns = ms))) ∧ Below w.heap.size w w') := by
  obtain ⟨R, hR⟩ : ∃ R, R = decide (ns = ms) := ⟨_, rfl⟩
  rw [← hR]
  have HR := Lib.hid hR
  have HNS := Lib.hid hns
  have HMS := Lib.hid hms
  have HNL := Lib.hid hnl
  clear hns hms hnl hR
  by_cases hl : ns.length = ms.length
  · have e1 : ((ns.length : Int) == (ms.length : Int)) = true := by rw [hl]; simp
    go_enter Tryd.func15, Tryd.ntmps15
    go_wp2
    go_loopw [5] (fun x wr => ∃ k : Nat, k ≤ ns.length ∧ x = .int .i64 k ∧ Nets wr A ns ∧ Nets wr B ms ∧ Below w.heap.size w wr ∧ Hid (R = decide (ns.drop k = ms.drop k))) (fun x _ => ns.length - (intOf x).toNat)
    case atStart => exact ⟨0, Nat.zero_le _, rfl, HNS.out, HMS.out, Below.refl _ _, HR.out⟩
    case round =>
      obtain ⟨k, hk, rfl, hn, hm, hbw, hz⟩ := hrel
      have hnl := HNL.out
      by_cases hlt : k < ns.length
      · have hx := List.getElem?_eq_getElem hlt
        have hy := List.getElem?_eq_getElem (show k < ms.length by omega)
        obtain ⟨hxa, b1, o1, rfl, hr1⟩ := hn k _ hx
        obtain ⟨hya, b2, o2, rfl, hr2⟩ := hm k _ hy
        generalize ns[k] = x at hx hxa hr1
        generalize ms[k] = y at hy hya hr2
        have HST := Lib.hid (has_drew hr1 hr2)
        have HXA := Lib.hid hxa
        have HYA := Lib.hid hya
        have HZ := Lib.hid (hz.out.trans (drop_eq ns ms k x y hx hy))
        have HN2 := Lib.hid hn
        have HM2 := Lib.hid hm
        have HBW := Lib.hid hbw
        clear hz hn hm hbw hx hy hr1 hr2
        have i1 : (k : Int) < (ns.length : Int) := by omega
        have i0 : (0 : Int) ≤ (k : Int) := by omega
        have i2 : (k : Int) < (ms.length : Int) := by omega
        have u25 := Tryd.underlying25
        have z1 := size25_of hxa
        have z2 := size25_of hya
        go_wp2
        refine wp_region_noPanic ?_
        refine wp_region_held_drew (S := (fun w' => Below wr.heap.size wr w' ∧ w'.rangeAt b1 (o1 + k * 18) (netL x) ∧ w'.rangeAt b2 (o2 + k * 18) (netL y))) (by kernel_rfl) HST.out (fun hHeld => ?_)
        refine wpAnyH_take (i := 0) (v := ?va1) rfl (by kernel_rfl) (by kernel_rfl) (by kernel_rfl) (fun _ _ _ h => h) (Or.inl ⟨by rfl, ?hya1⟩) hHeld ?resta1
        case hya1 => (intro w hSw; (try dsimp only at hSw); go_simp; try with_reducible rfl)
        (try simp only [Act.put, List.getElem_toArray, List.getElem_cons_succ, List.getElem_cons_zero, List.setIfInBounds_toArray, List.set_cons_zero, List.set_cons_succ])
        refine wpAnyH_take (i := 1) (v := ?va2) rfl (by kernel_rfl) (by kernel_rfl) (by kernel_rfl) (fun _ _ _ h => h) (Or.inl ⟨by rfl, ?hya2⟩) hHeld ?resta2
        case hya2 => (intro w hSw; (try dsimp only at hSw); go_simp; try with_reducible rfl)
        (try simp only [Act.put, List.getElem_toArray, List.getElem_cons_succ, List.getElem_cons_zero, List.setIfInBounds_toArray, List.set_cons_zero, List.set_cons_succ])
        refine wpAnyH_take (i := 2) (v := ?va3) rfl (by kernel_rfl) (by kernel_rfl) (by kernel_rfl) (fun _ _ _ h => h) (Or.inl ⟨by rfl, ?hya3⟩) hHeld ?resta3
        case hya3 => (intro w hSw; (try dsimp only at hSw); go_simp; try with_reducible rfl)
        (try simp only [Act.put, List.getElem_toArray, List.getElem_cons_succ, List.getElem_cons_zero, List.setIfInBounds_toArray, List.set_cons_zero, List.set_cons_succ])
        refine wpAnyH_take (i := 3) rfl (by kernel_rfl) (by kernel_rfl) (by kernel_rfl) (fun _ _ _ h => h) (yieldsIf_load_mid (by rfl) 25 (.tmp 19) rfl b1 (o1 + k * 18) (by kernel_rfl) (netL x) _ (fun w' h => h.2.1) u25 rfl z1) hHeld ?_
        (try simp only [Act.put, List.getElem_toArray, List.getElem_cons_succ, List.getElem_cons_zero, List.setIfInBounds_toArray, List.set_cons_zero, List.set_cons_succ])
        refine wpAnyH_take (i := 4) (v := ?va5) rfl (by kernel_rfl) (by kernel_rfl) (by kernel_rfl) (fun _ _ _ h => h) (Or.inl ⟨by rfl, ?hya5⟩) hHeld ?resta5
        case hya5 => (intro w hSw; (try dsimp only at hSw); go_simp; try with_reducible rfl)
        (try simp only [Act.put, List.getElem_toArray, List.getElem_cons_succ, List.getElem_cons_zero, List.setIfInBounds_toArray, List.set_cons_zero, List.set_cons_succ])
        refine wpAnyH_take (i := 5) (v := ?va6) rfl (by kernel_rfl) (by kernel_rfl) (by kernel_rfl) (fun _ _ _ h => h) (Or.inl ⟨by rfl, ?hya6⟩) hHeld ?resta6
        case hya6 => (intro w hSw; (try dsimp only at hSw); go_simp; try with_reducible rfl)
        (try simp only [Act.put, List.getElem_toArray, List.getElem_cons_succ, List.getElem_cons_zero, List.setIfInBounds_toArray, List.set_cons_zero, List.set_cons_succ])
        refine wpAnyH_take (i := 6) (v := ?va7) rfl (by kernel_rfl) (by kernel_rfl) (by kernel_rfl) (fun _ _ _ h => h) (Or.inl ⟨by rfl, ?hya7⟩) hHeld ?resta7
        case hya7 => (intro w hSw; (try dsimp only at hSw); go_simp; try with_reducible rfl)
        (try simp only [Act.put, List.getElem_toArray, List.getElem_cons_succ, List.getElem_cons_zero, List.setIfInBounds_toArray, List.set_cons_zero, List.set_cons_succ])
        refine wpAnyH_take (i := 7) rfl (by kernel_rfl) (by kernel_rfl) (by kernel_rfl) (fun _ _ _ h => h) (yieldsIf_load_mid (by rfl) 25 (.tmp 23) rfl b2 (o2 + k * 18) (by kernel_rfl) (netL y) _ (fun w' h => h.2.2) u25 rfl z2) hHeld ?_
        (try simp only [Act.put, List.getElem_toArray, List.getElem_cons_succ, List.getElem_cons_zero, List.setIfInBounds_toArray, List.set_cons_zero, List.set_cons_succ])
        have HBF := Lib.hid hHeld.1
        refine wpAnyH_take (i := 8) (v := .bool (!decide (x = y))) rfl (by kernel_rfl) (by kernel_rfl) (by kernel_rfl) (fun _ _ _ h => h) (Or.inl ⟨by rfl, fun w' _ => exec_neqNet rfl (by kernel_rfl) (by kernel_rfl) HXA.out HYA.out w'⟩) hHeld ?_
        (try simp only [Act.put, List.getElem_toArray, List.getElem_cons_succ, List.getElem_cons_zero, List.setIfInBounds_toArray, List.set_cons_zero, List.set_cons_succ])
        refine wpAnyH_done (by kernel_rfl) ?_ _
        refine NoPanic.normal ?_
        clear z1 z2 u25 hHeld hxa hya
        generalize decide (x = y) = q at HZ
        cases q with
        | true =>
          have HZ2 : Hid (R = decide (ns.drop (k + 1) = ms.drop (k + 1))) := HZ.out
          go_wp2
          go_roundw
          case rel => exact ⟨k + 1, by omega, by go_num, HN2.out.on HBF.out, HM2.out.on HBF.out, HBW.out.trans (HBF.out.mono HBW.out.size), HZ2.out⟩
          case measure => simp [intOf]; omega
        | false =>
          have HZ2 : Hid (R = false) := HZ.out
          go_wp2
          go_ret
          exact ⟨ret_bool HZ2.out.symm, HBW.out.trans (HBF.out.mono HBW.out.size)⟩
      · have HZ2 : Hid (R = true) := by
          show R = true
          have := hz.out
          rw [List.drop_eq_nil_of_le (by omega), List.drop_eq_nil_of_le (by omega)] at this
          simpa using this
        have HBW := Lib.hid hbw
        have i1 : ¬ (k : Int) < (ns.length : Int) := by omega
        clear hz hn hm hbw
        go_wp2
        go_ret
        exact ⟨ret_bool HZ2.out.symm, HBW.out⟩
  · have e1 : ((ns.length : Int) == (ms.length : Int)) = false := by rw [beq_eq_false_iff_ne]; omega
    have HZ2 : Hid (R = false) := by
      have := HR.out
      rw [decide_eq_false (fun h => hl (by rw [h]))] at this
      exact this
    go_enter Tryd.func15, Tryd.ntmps15
    go_wp2
    go_ret
    exact ⟨ret_bool HZ2.out.symm, Below.refl _ _⟩
end Go.Proofs.YtdmajikhpacpfaaDoor.Cidr
