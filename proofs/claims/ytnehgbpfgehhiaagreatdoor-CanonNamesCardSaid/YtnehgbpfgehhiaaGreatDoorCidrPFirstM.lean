/-
  MERGED by mergefill.py: CidrPFirst, CidrPMath.
-/
import Derived.Test.YtnehgbpfgehhiaaGreatDoorCidrG2
/-
  CIDR, the program: how many bits there are; an address with its first bits alone.
-/
namespace Go.Proofs.YtnehgbpfgehhiaaGreatDoor.Cidr
open Go.RowKit Base
theorem pMost (six : Bool) (w : World) : Calls Tryz.prog 136 #[.bool six] w (fun e w' => e = .returned (.int .i64 (sizeN six)) ∧ w = w') := by
  cases six
  all_goals
    go_enter Tryz.func136, Tryz.ntmps136
    go_wp2
    go_ret
    exact ⟨rfl, rfl⟩
/-- A byte with its first bits alone. -/
def keepB (x : UInt8) (l : Int) : UInt8 := if l ≤ 0 then 0 else if l < 8 then UInt8.ofNat (x.toNat / 2 ^ (8 - l).toNat * 2 ^ (8 - l).toNat) else x
def AddrAt (w : World) (b : Nat) (a : List UInt8) : Prop := w.heap[b]? = some (.cells (a.map B8).toArray 70 (0, 0))
def cutA (a : List UInt8) (n : Int) : Nat → List UInt8
  | 0 => a
  | k + 1 => (cutA a n k).set k (keepB (a.getD k 0) (n - 8 * (k : Int)))
def firstA (a : List UInt8) (n : Int) : List UInt8 := cutA a n 16
theorem cutA_len (a : List UInt8) (n : Int) : ∀ k, (cutA a n k).length = a.length
  | 0 => rfl
  | k + 1 => by rw [cutA, List.length_set, cutA_len a n k]
theorem cutA_at (a : List UInt8) (n : Int) : ∀ (k j : Nat), k ≤ j → (cutA a n k).getD j 0 = a.getD j 0
  | 0, _, _ => rfl
  | k + 1, j, h => by
    rw [cutA, List.getD_eq_getElem?_getD, List.getElem?_set_ne (by omega), ← List.getD_eq_getElem?_getD, cutA_at a n k j (by omega)]
theorem AddrAt.new (w : World) (a : List UInt8) : AddrAt (w.alloc (.cells (a.map B8).toArray 70)) w.heap.size a := (MapKept.heap_alloc w _).1
theorem AddrAt.on {w w' : World} {b : Nat} {a : List UInt8} (h : AddrAt w b a) (hb : Below w.heap.size w w') : AddrAt w' b a := (hb.block b (heap_lt h)).trans h
theorem AddrAt.range {w : World} {b : Nat} {a : List UInt8} (h : AddrAt w b a) : w.rangeAt b 0 (a.map B8) := fun j v hv => by
  rw [Nat.zero_add, cell_of_row w b j _ _ _ h]; simpa using hv
theorem AddrAt.cell {w : World} {b : Nat} {a : List UInt8} (h : AddrAt w b a) {k : Nat} (hk : k < a.length) : w.cell? ⟨b, k, none⟩ = some (.int .u8 ((a.getD k 0).toNat : Int)) ∧ w.frozen? ⟨b, k, none⟩ = false := by
  refine ⟨?_, by simp [World.frozen?, show w.heap[b]? = _ from h]⟩
  have := h.range k (B8 (a.getD k 0)) (by simp [List.getElem?_eq_getElem hk])
  rwa [Nat.zero_add] at this
theorem AddrAt.set {w : World} {b : Nat} {a : List UInt8} (h : AddrAt w b a) (k : Nat) (x : UInt8) : AddrAt (w.setCell ⟨b, k, none⟩ (B8 x)) b (a.set k x) := by
  have h1 := heap_setCell_any w b k _ _ _ (B8 x) h
  unfold AddrAt
  rw [h1]
  congr 2
  apply Array.toList_inj.1
  simp [List.map_set]
theorem AddrAt.kept {w w' : World} {b g : Nat} {a : List UInt8} (h : AddrAt w b a) (hk : KeepX g w w') (hne : b ≠ g) : AddrAt w' b a := (hk.block b (heap_lt h) hne).trans h
theorem size23a {a : List UInt8} (ha : a.length = 16) : (Tryz.prog.info? 70).map (·.size) = some (a.map B8).toArray.size := by rw [size23]; simp [ha]
theorem and_keep (x : UInt8) (l : Nat) (h0 : 0 < l) (h8 : l < 8) : bits .and .u8 (x.toNat : Int) (255 * 2 ^ (8 - l) % 256) = ((keepB x l).toNat : Int) := by
  have e : ∀ (y : Fin 256) (k : Fin 8), 0 < k.val → bits .and .u8 (y.val : Int) (255 * 2 ^ (8 - k.val) % 256) = ((y.val / 2 ^ (8 - k.val) * 2 ^ (8 - k.val) % 256 : Nat) : Int) := by decide +kernel
  have hx := x.toNat_lt
  have := e ⟨x.toNat, hx⟩ ⟨l, h8⟩ h0
  simp only at this
  rw [this]
  unfold keepB
  rw [if_neg (by omega), if_pos (by omega), show (8 - (l : Int)).toNat = 8 - l by omega]
  simp
theorem addr_put {w w2 : World} {b : Nat} {cur : Array Value} (h : w.heap[b]? = some (.cells cur 70 (0, 0))) (hs : cur.size = 16) {c : List UInt8} (hc : c.length = 16) (hw : w.setCells b 0 (c.map B8).toArray.toList = w2) : AddrAt w2 b c ∧ KeepX b w w2 ∧ w2.heap.size = w.heap.size := by
  subst hw
  have h1 := heap_setCells b 70 (0, 0) (c.map B8).toArray.toList 0 w cur h
  rw [setL_whole _ _ (by rw [hs]; simp [hc])] at h1
  exact ⟨by simpa [AddrAt] using h1, (keep_setCells b _ 0 w).1, (keep_setCells b _ 0 w).2⟩
theorem results_addr {w : World} {fn : Func} {tmps : Array Value} {i b : Nat} {c : List UInt8} (hr : fn.results = #[ResultVar.cell i 70]) (h1 : tmps.getD i undef = .pointer (some ⟨b, 0, none⟩)) (hat : AddrAt w b c) (ha : c.length = 16) :
    (results fn tmps).run Tryz.prog w = .ok (.agg (c.map B8).toArray) w := by
  have hl := run_loadVar_mid w b 0 70 (c.map B8) _ hat.range Tryz.underlying70 rfl (size23_of ha)
  unfold results
  rw [hr]
  rw [Array.getD_eq_getD_getElem?] at h1
  simp [h1, hl, asAddr]
theorem results_addr2 {w : World} {fn : Func} {tmps : Array Value} {i j b : Nat} {c : List UInt8} {v : Value} (hr : fn.results = #[ResultVar.cell i 70, ResultVar.tmp j]) (h1 : tmps.getD i undef = .pointer (some ⟨b, 0, none⟩)) (h2 : tmps.getD j undef = v) (hat : AddrAt w b c) (ha : c.length = 16) :
    (results fn tmps).run Tryz.prog w = .ok (.tuple #[.agg (c.map B8).toArray, v]) w := by
  have hl := run_loadVar_mid w b 0 70 (c.map B8) _ hat.range Tryz.underlying70 rfl (size23_of ha)
  unfold results
  rw [hr]
  rw [Array.getD_eq_getD_getElem?] at h1 h2
  simp [h1, h2, hl, asAddr]
set_option maxHeartbeats 2000000 in
set_option maxRecDepth 100000 in
theorem pFirst (a : List UInt8) (ha : a.length = 16) (n : Nat) (hn : n ≤ 128) (w : World) : Calls Tryz.prog 181 #[.agg (a.map B8).toArray, .int .i64 (n : Int)] w (fun e w' => e = .returned (.agg ((firstA a n).map B8).toArray) ∧ Below w.heap.size w w') := by
  have HA := Lib.hid ha
  have H0 := Lib.hid (AddrAt.new w a)
  go_enter Tryz.func181, Tryz.ntmps181
  go_wp2
  go_loopw [7] (fun x wr => ∃ k : Nat, k ≤ 16 ∧ x = .int .i64 k ∧ AddrAt wr w.heap.size (cutA a n k) ∧ wr.heap[w.heap.size + 1]? = some (.cells (List.replicate 16 (Value.int .u8 0)).toArray 70 (0, 0)) ∧ Below w.heap.size w wr) (fun x _ => 16 - (intOf x).toNat)
  case atStart =>
    refine ⟨0, by omega, rfl, H0.out.on (Below.alloc1 _ _), ?_, (Below.alloc1 _ _).trans ((Below.alloc1 _ _).mono (by simp))⟩
    have := (MapKept.heap_alloc (w.alloc (.cells (a.map B8).toArray 70)) (.cells (List.replicate 16 (Value.int .u8 0)).toArray 70)).1
    simpa using this
  case round =>
    obtain ⟨k, hk, rfl, hat, hzb, hb⟩ := hrel
    by_cases hlt : k < 16
    · have hl : (cutA a n k).length = 16 := by rw [cutA_len, HA.out]
      obtain ⟨c1, c2⟩ := hat.cell (k := k) (by omega)
      rw [cutA_at a n k k (Nat.le_refl _)] at c1
      have hx := (a.getD k 0).toNat_lt
      have i1 : (k : Int) < 16 := by omega
      have i0 : (0 : Int) ≤ (k : Int) := by omega
      have HF : Hid (∀ v w2, B8 (keepB (a.getD k 0) ((n : Int) - 8 * (k : Int))) = v → (wr.setCell ⟨w.heap.size, k, none⟩ v = w2 ∨ (wr.setCell ⟨w.heap.size, k, none⟩ v).drew = w2) → ∃ k2 : Nat, k2 ≤ 16 ∧ (.int .i64 ((k : Int) + 1) : Value) = .int .i64 k2 ∧ AddrAt w2 w.heap.size (cutA a n k2) ∧ w2.heap[w.heap.size + 1]? = some (.cells (List.replicate 16 (Value.int .u8 0)).toArray 70 (0, 0)) ∧ Below w.heap.size w w2) := fun v w2 hv hw => by
        subst hv
        have h1 := hat.set k (keepB (a.getD k 0) ((n : Int) - 8 * (k : Int)))
        have h2 : (wr.setCell ⟨w.heap.size, k, none⟩ (B8 (keepB (a.getD k 0) ((n : Int) - 8 * (k : Int))))).heap[w.heap.size + 1]? = some (.cells (List.replicate 16 (Value.int .u8 0)).toArray 70 (0, 0)) := by rw [Below.heap_setCell _ _ _ _ (by simp)]; exact hzb
        have h3 := hb.setCell (p := ⟨w.heap.size, k, none⟩) (Nat.le_refl _) (B8 (keepB (a.getD k 0) ((n : Int) - 8 * (k : Int))))
        rcases hw with rfl | rfl
        · exact ⟨k + 1, by omega, by go_num, h1, h2, h3⟩
        · exact ⟨k + 1, by omega, by go_num, h1, h2, h3.trans (Below.refl _ _).drew⟩
      have HS : Hid (∀ v, (∃ k2 : Nat, k2 ≤ 16 ∧ (.int .i64 ((k : Int) + 1) : Value) = .int .i64 k2 ∧ AddrAt wr w.heap.size (cutA a n k2) ∧ wr.heap[w.heap.size + 1]? = some (.cells (List.replicate 16 (Value.int .u8 0)).toArray 70 (0, 0)) ∧ Below w.heap.size w wr) ∨ B8 (keepB (a.getD k 0) ((n : Int) - 8 * (k : Int))) ≠ v ∨ v ≠ B8 (a.getD k 0)) := fun v => by
        by_cases e1 : B8 (keepB (a.getD k 0) ((n : Int) - 8 * (k : Int))) = v
        · by_cases e2 : v = B8 (a.getD k 0)
          · refine Or.inl ⟨k + 1, by omega, by go_num, ?_, hzb, hb⟩
            have e3 : keepB (a.getD k 0) ((n : Int) - 8 * (k : Int)) = a.getD k 0 := by
              have := e1.trans e2
              injection this with _ h
              exact UInt8.toNat_inj.1 (by omega)
            rw [cutA, e3, ← cutA_at a n k k (Nat.le_refl _), List.getD_eq_getElem?_getD, List.getElem?_eq_getElem (by omega)]
            simpa using hat
          · exact Or.inr (Or.inr e2)
        · exact Or.inr (Or.inl e1)
      clear hat hzb hb
      generalize a.getD k 0 = y at c1 hx HF HS
      by_cases h1 : (n : Int) - 8 * (k : Int) ≤ 0
      · have HV : Hid (B8 (keepB y ((n : Int) - 8 * (k : Int))) = .int .u8 0) := by
          show _ = _
          unfold keepB; rw [if_pos h1]; rfl
        go_wp2
        go_roundw
        case rel => exact HF.out _ _ HV.out (Or.inl rfl)
        case measure => simp [intOf]; omega
      · obtain ⟨l, hl2⟩ : ∃ l : Nat, (n : Int) - 8 * (k : Int) = (l : Int) := ⟨((n : Int) - 8 * (k : Int)).toNat, by omega⟩
        have hl0 : ¬ (l : Int) ≤ 0 := by omega
        rw [hl2] at HF HS
        by_cases h8 : l < 8
        · have i8 : (l : Int) < 8 := by omega
          have HV : Hid (B8 (keepB y (l : Int)) = .int .u8 (bits .and .u8 (y.toNat : Int) (255 * 2 ^ (8 - l) % 256))) := by
            show _ = _
            rw [and_keep _ l (by omega) h8]
          clear h1
          go_wp2
          go_region
          go_wp2
          go_roundw
          case rel => exact HF.out _ _ HV.out (Or.inr rfl)
          case measure => simp [intOf]; omega
        · have i8 : ¬ (l : Int) < 8 := by omega
          have HV : Hid (B8 (keepB y (l : Int)) = B8 y) := by
            show _ = _
            unfold keepB; rw [if_neg (by omega), if_neg (by omega)]
          clear h1
          go_wp2
          go_roundw
          case rel => exact (HS.out (B8 y)).resolve_right (fun h => h.elim (fun h => h HV.out) (fun h => h rfl))
          case measure => simp [intOf]; omega
    · obtain rfl : k = 16 := by omega
      have i1 : ¬ ((16 : Nat) : Int) < 16 := by omega
      have hl : (firstA a n).length = 16 := by unfold firstA; rw [cutA_len, HA.out]
      rw [show cutA a n 16 = firstA a n from rfl] at hat
      obtain ⟨c, hc⟩ : ∃ c, firstA a n = c := ⟨_, rfl⟩
      rw [hc] at hl hat
      have HC9 := Lib.hid hc
      clear hc
      have HL := Lib.hid hl
      have HAT := Lib.hid hat
      have HB := Lib.hid hb
      have HSZ := Lib.hid (size23_of HL.out)
      have HTH := Lib.hid (there_of hzb (n := (c.map B8).toArray.size) (by simp [hl]))
      have HSC := Lib.hid (size23a HL.out)
      have HALL := Lib.hid (all_oneCell_toArray (cs := c.map B8) (fun v hv => by simp only [List.mem_map] at hv; obtain ⟨x, _, rfl⟩ := hv; rfl))
      have HZB := Lib.hid hzb
      clear hl hat hzb hb
      go_wp2_with (first | (refine wpList_load_mid rfl 70 (.tmp 2) rfl w.heap.size 0 rfl (c.map B8) _ HAT.out.range Tryz.underlying70 rfl HSZ.out ?_) | (refine wpList_store_mid rfl 70 (.tmp 4) (.tmp 31) rfl (w.heap.size + 1) 0 (c.map B8).toArray rfl rfl HTH.out HSC.out HALL.out ?_; generalize hw3 : World.setCells _ _ _ _ = w3; refine Hid.out ?_) | fail)
      refine Lib.hid ?_
      obtain ⟨hn3, hk3, _⟩ := addr_put HZB.out (by simp) HL.out hw3
      go_wp2
      exact bodyPost_ret (results_addr Tryz.results181 rfl hn3 HL.out) rfl ⟨by rw [HC9.out], HB.out.trans (hk3.below (by simp) (heap_lt HZB.out))⟩
end Go.Proofs.YtnehgbpfgehhiaaGreatDoor.Cidr
/-
  CIDR: bits of an address with its first bits alone (no program).
-/
namespace Go.Proofs.YtnehgbpfgehhiaaGreatDoor.Cidr
open Go.RowKit Base
theorem cutA_lt (a : List UInt8) (n : Int) : ∀ (k i : Nat), i < k → i < a.length → (cutA a n k).getD i 0 = keepB (a.getD i 0) (n - 8 * (i : Int))
  | 0, _, h, _ => by omega
  | k + 1, i, h, hl => by
    rw [cutA, List.getD_eq_getElem?_getD]
    by_cases e : k = i
    · subst e
      rw [List.getElem?_set_self (by rw [cutA_len]; exact hl)]; rfl
    · rw [List.getElem?_set_ne e, ← List.getD_eq_getElem?_getD, cutA_lt a n k i (by omega) hl]
theorem firstA_len (a : List UInt8) (n : Int) : (firstA a n).length = a.length := cutA_len a n 16
theorem byte_bits (x y : UInt8) (h : ∀ j, j < 8 → x.toNat / 2 ^ (7 - j) % 2 = y.toNat / 2 ^ (7 - j) % 2) : x = y := by
  have e : ∀ z : Fin 256, z.val = z.val / 2 ^ 7 % 2 * 128 + z.val / 2 ^ 6 % 2 * 64 + z.val / 2 ^ 5 % 2 * 32 + z.val / 2 ^ 4 % 2 * 16 + z.val / 2 ^ 3 % 2 * 8 + z.val / 2 ^ 2 % 2 * 4 + z.val / 2 ^ 1 % 2 * 2 + z.val / 2 ^ 0 % 2 := by decide +kernel
  have hx := e ⟨x.toNat, x.toNat_lt⟩
  have hy := e ⟨y.toNat, y.toNat_lt⟩
  have h0 := h 0 (by omega); have h1 := h 1 (by omega); have h2 := h 2 (by omega); have h3 := h 3 (by omega)
  have h4 := h 4 (by omega); have h5 := h 5 (by omega); have h6 := h 6 (by omega); have h7 := h 7 (by omega)
  simp only at hx hy h0 h1 h2 h3 h4 h5 h6 h7
  apply UInt8.toNat_inj.1
  rw [hx, hy, h0, h1, h2, h3, h4, h5, h6, h7]
theorem keep_bit (x : UInt8) (l : Int) (j : Nat) (hj : j < 8) : (keepB x l).toNat / 2 ^ (7 - j) % 2 = if (j : Int) < l then x.toNat / 2 ^ (7 - j) % 2 else 0 := by
  unfold keepB
  split
  · rw [if_neg (by omega)]; simp
  · split
    · obtain ⟨k, rfl⟩ := Int.eq_ofNat_of_zero_le (show 0 ≤ l by omega)
      have e : ∀ (z : Fin 256) (k : Fin 8) (j : Fin 8), (z.val / 2 ^ (8 - k.val) * 2 ^ (8 - k.val) % 256) / 2 ^ (7 - j.val) % 2 = if j.val < k.val then z.val / 2 ^ (7 - j.val) % 2 else 0 := by decide +kernel
      have := e ⟨x.toNat, x.toNat_lt⟩ ⟨k, by omega⟩ ⟨j, hj⟩
      simp only at this
      rw [show (8 - (k : Int)).toNat = 8 - k by omega]
      rw [show (UInt8.ofNat (x.toNat / 2 ^ (8 - k) * 2 ^ (8 - k))).toNat = x.toNat / 2 ^ (8 - k) * 2 ^ (8 - k) % 256 by simp, this]
      by_cases h : j < k
      · rw [if_pos h, if_pos (by omega)]
      · rw [if_neg h, if_neg (by omega)]
    · rw [if_pos (by omega)]
theorem bit_first (a : List UInt8) (ha : a.length = 16) (n j : Nat) (hj : j < 128) : bitA (firstA a n) j = if j < n then bitA a j else 0 := by
  unfold bitA firstA
  rw [cutA_lt a n 16 (j / 8) (by omega) (by omega), keep_bit _ _ _ (by omega)]
  by_cases h : j < n
  · rw [if_pos h, if_pos (by omega)]
  · rw [if_neg h, if_neg (by omega)]
theorem addr_ext {a b : List UInt8} (ha : a.length = 16) (hb : b.length = 16) : a = b ↔ ∀ j, j < 128 → bitA a j = bitA b j := by
  constructor
  · rintro rfl _ _; rfl
  · intro h
    apply List.ext_getElem (by omega)
    intro i h1 h2
    have e : a.getD i 0 = b.getD i 0 := byte_bits _ _ fun j hj => by
      have := h (8 * i + j) (by omega)
      unfold bitA at this
      rwa [show (8 * i + j) / 8 = i by omega, show (8 * i + j) % 8 = j by omega] at this
    simpa [List.getD, List.getElem?_eq_getElem h1, List.getElem?_eq_getElem h2] using e
theorem zeroF_iff (a : List UInt8) : ∀ (n k : Nat), zeroF a n k = true ↔ ∀ j, k ≤ j → j < k + n → bitA a j = 0
  | 0, k => by simp [zeroF]; omega
  | n + 1, k => by
    rw [zeroF, Bool.and_eq_true, zeroF_iff a n (k + 1), beq_iff_eq]
    constructor
    · rintro ⟨h1, h2⟩ j hj hk
      by_cases e : j = k
      · rw [e]; exact h1
      · exact h2 j (by omega) (by omega)
    · intro h
      exact ⟨h k (by omega) (by omega), fun j hj hk => h j (by omega) (by omega)⟩
theorem zeroFrom_iff (a : List UInt8) (k : Nat) : zeroFrom a k = true ↔ ∀ j, k ≤ j → j < 128 → bitA a j = 0 := by
  unfold zeroFrom
  rw [zeroF_iff]
  constructor
  · intro h j h1 h2; exact h j h1 (by omega)
  · intro h j h1 h2; exact h j h1 (by omega)
theorem eqF_iff (a b : List UInt8) : ∀ (n k : Nat), eqF a b n k = true ↔ ∀ j, k ≤ j → j < k + n → bitA a j = bitA b j
  | 0, k => by simp [eqF]; omega
  | n + 1, k => by
    rw [eqF, Bool.and_eq_true, eqF_iff a b n (k + 1), beq_iff_eq]
    constructor
    · rintro ⟨h1, h2⟩ j hj hk
      by_cases e : j = k
      · rw [e]; exact h1
      · exact h2 j (by omega) (by omega)
    · intro h
      exact ⟨h k (by omega) (by omega), fun j hj hk => h j (by omega) (by omega)⟩
theorem eqFrom_iff (a b : List UInt8) (m : Nat) : eqFrom a b m 0 = true ↔ ∀ j, j < m → bitA a j = bitA b j := by
  unfold eqFrom
  rw [eqF_iff]
  constructor
  · intro h j h1; exact h j (by omega) (by omega)
  · intro h j _ h2; exact h j (by omega)
/-- An address is the one that its first bits alone make just if the others are 0. -/
theorem first_right (a : List UInt8) (ha : a.length = 16) (n : Nat) : decide (firstA a n = a) = zeroFrom a n := by
  rw [Bool.eq_iff_iff, decide_eq_true_iff, addr_ext (by rw [firstA_len, ha]) ha, zeroFrom_iff]
  constructor
  · intro h j h1 h2
    have := h j h2
    rw [bit_first a ha n j h2, if_neg (by omega)] at this
    exact this.symm
  · intro h j hj
    rw [bit_first a ha n j hj]
    split
    · rfl
    · exact (h j (by omega) hj).symm
theorem first_within (a b : List UInt8) (ha : a.length = 16) (hb : b.length = 16) (m : Nat) (hm : m ≤ 128) (hz : zeroFrom b m = true) : decide (firstA a m = b) = eqFrom a b m 0 := by
  rw [Bool.eq_iff_iff, decide_eq_true_iff, addr_ext (by rw [firstA_len, ha]) hb, eqFrom_iff]
  have hz2 := (zeroFrom_iff b m).1 hz
  constructor
  · intro h j hj
    have := h j (by omega)
    rwa [bit_first a ha m j (by omega), if_pos hj] at this
  · intro h j hj
    rw [bit_first a ha m j hj]
    split
    · exact h j (by assumption)
    · exact (hz2 j (by omega) hj).symm
end Go.Proofs.YtnehgbpfgehhiaaGreatDoor.Cidr
