/-
  MERGED by mergefill.py: CidrPHexF, CidrShow, CidrPJoin.
-/
import Derived.Test.YtnehgbpfgehhiaaGreatDoorCidrAddrM
import Derived.Test.YtnehgbpfgehhiaaGreatDoorCidrG3M
import Derived.Test.YtnehgbpfgehhiaaGreatDoorCidrG2
import Derived.Laws.Bits64b
import Derived.Test.YtnehgbpfgehhiaaGreatDoorCidrForm2
import Derived.BigQuiet
import Derived.Deep.RegionHeld3
import Derived.Test.YtnehgbpfgehhiaaGreatDoorCidrPFirstM
import Derived.Lib.AppendIntMem
/-
  CIDR, the program: strconv.FormatUint at base 16, up to 65535.
-/
namespace Go.Proofs.YtnehgbpfgehhiaaGreatDoor.Cidr
open Go.RowKit Base
/-- What trailing zeros of 16 are read off. -/
def Tz (w : World) : Prop := w.cell? ⟨10, 15, none⟩ = some (.int .u8 4)
theorem Tz.on {w w' : World} (h : Tz w) (hb : Below w.heap.size w w') : Tz w' := (hb.cell (p := ⟨10, 15, none⟩) (cell_lt h)).trans h
theorem pow16 (w : World) : Calls Tryz.prog 255 #[.int .i64 16] w fun e w' => e = .returned (.bool true) ∧ w' = w := by
  go_enter Tryz.func255, Tryz.ntmps255
  go_wp2
  go_ret
  exact ⟨rfl, rfl⟩
set_option maxRecDepth 100000 in
theorem tz16 (w : World) (h : Tz w) : Calls Tryz.prog 256 #[.int .u64 16] w fun e w' => e = .returned (.int .i64 4) ∧ w' = w := by
  have h2 : w.cell? ⟨10, 15, none⟩ = some (.int .u8 4) := h
  have e2 : bits BinOp.and IntKind.u64 16 (IntKind.u64.wrap (-16)) = 16 := by decide +kernel
  have e3 : IntKind.u64.wrap (16 * 285870213051353865) = 4573923408821661840 := by decide +kernel
  go_enter Tryz.func256, Tryz.ntmps256
  go_wp2
  go_ret
  exact ⟨rfl, rfl⟩
theorem and15 (u : Nat) (h : u ≤ 65535) : bits .and .u64 (u : Int) 15 = ((u % 16 : Nat) : Int) := by
  have := bits_and_u64_nat u 15 (by omega) (by omega)
  rw [show ((15 : Nat) : Int) = 15 from rfl] at this
  rw [this]
  congr 1
  exact Nat.and_two_pow_sub_one_eq_mod u 4
/-- The box of 65 bytes: l stands at its end. -/
def HexAt (w : World) (b : Nat) (l : List UInt8) : Prop := w.heap[b]? = some (.cells ((List.replicate (65 - l.length) (0 : UInt8) ++ l).map B8).toArray 321 (0, 0))
theorem HexAt.new (w : World) : HexAt (w.alloc (.cells Tryz.zeroCells321 321)) w.heap.size [] := by
  have := (MapKept.heap_alloc w (.cells Tryz.zeroCells321 321)).1
  unfold HexAt
  rw [this]
  rfl
theorem HexAt.cell {w : World} {b : Nat} {l : List UInt8} (h : HexAt w b l) (hl : l.length ≤ 64) : (∃ z, w.cell? ⟨b, 64 - l.length, none⟩ = some (.int .u8 z)) ∧ w.frozen? ⟨b, 64 - l.length, none⟩ = false := by
  refine ⟨⟨0, ?_⟩, by simp [World.frozen?, show w.heap[b]? = _ from h]⟩
  rw [cell_of_row w b _ _ _ _ h]
  simp
  rw [List.getElem?_append_left (by simp; omega), List.getElem?_replicate, if_pos (by omega)]
  rfl
theorem HexAt.put {w : World} {b : Nat} {l : List UInt8} (h : HexAt w b l) (hl : l.length ≤ 64) (x : UInt8) : HexAt (w.setCell ⟨b, 64 - l.length, none⟩ (B8 x)) b (x :: l) := by
  have h1 := heap_setCell_any w b (64 - l.length) _ _ _ (B8 x) h
  unfold HexAt
  rw [h1]
  congr 2
  apply Array.toList_inj.1
  rw [List.length_cons, show 65 - l.length = 65 - (l.length + 1) + 1 by omega, List.replicate_succ']
  have e : (List.replicate (65 - (l.length + 1)) (B8 0)).length = 64 - l.length := by rw [List.length_replicate]; omega
  simp only [List.setIfInBounds_toArray, List.map_append, List.map_cons, List.map_replicate, List.append_assoc, List.cons_append, List.nil_append]
  rw [← e, List.set_append_right _ _ (Nat.le_refl _), Nat.sub_self, List.set_cons_zero]
theorem HexAt.reads {w : World} {b : Nat} {l : List UInt8} (h : HexAt w b l) (hl : l.length ≤ 64) (h0 : 0 < l.length) (c : Nat) (hc : l.length ≤ c) : Reads w (.slice (some ⟨b, 65 - l.length, none⟩) l.length c) l := by
  refine Or.inr ⟨b, 65 - l.length, c, rfl, hc, fun i hi => ?_⟩
  rw [cell_of_row w b _ _ _ _ h]
  simp
  rw [List.getElem?_append_right (by simp), List.length_replicate, show 65 - l.length + i - (65 - l.length) = i by omega]
  simp [List.getElem?_eq_getElem hi]
theorem dig_at (k : Nat) (h : k < 16) : (⟨#[48, 49, 50, 51, 52, 53, 54, 55, 56, 57, 97, 98, 99, 100, 101, 102, 103, 104, 105, 106, 107, 108, 109, 110, 111, 112, 113, 114, 115, 116, 117, 118, 119, 120, 121, 122]⟩ : ByteArray)[k]'(Nat.lt_of_lt_of_le h (by decide)) = hexDig k := by
  have e : ∀ i : Fin 16, (⟨#[48, 49, 50, 51, 52, 53, 54, 55, 56, 57, 97, 98, 99, 100, 101, 102, 103, 104, 105, 106, 107, 108, 109, 110, 111, 112, 113, 114, 115, 116, 117, 118, 119, 120, 121, 122]⟩ : ByteArray)[i.val]'(Nat.lt_of_lt_of_le i.isLt (by decide)) = hexDig i.val := by decide +kernel
  exact e ⟨k, h⟩
theorem slice65 (w : World) (b k : Nat) (h : k ≤ 3) : (Instr.sliceAt 321 (.pointer (some ⟨b, 0, none⟩)) (some (.int .i64 ((64 - k : Nat) : Int))) none none).run Tryz.prog w = .ok (.slice (some ⟨b, 64 - k, none⟩) (k + 1) (k + 1)) w := by
  rcases (by omega : k = 0 ∨ k = 1 ∨ k = 2 ∨ k = 3) with rfl | rfl | rfl | rfl
  all_goals kernel_rfl
set_option maxHeartbeats 4000000 in
set_option maxRecDepth 100000 in
theorem pBits (n : Nat) (hn : n ≤ 65535) (w : World) (htz : Tz w) : Calls Tryz.prog 241 #[.slice none 0 0, .int .u64 (n : Int), .int .i64 16, .bool false, .bool false] w fun e w' => e = .returned (.tuple #[.slice none 0 0, S (hexD n)]) ∧ Below w.heap.size w w' := by
  have HTZ := Lib.hid htz
  obtain ⟨out, hout⟩ : ∃ out, out = hexD n := ⟨_, rfl⟩
  have HO := Lib.hid hout
  rw [← hout]
  clear hout htz
  go_enter Tryz.func241, Tryz.ntmps241
  go_wp2_with (first | (go_at_call 255; refine (pow16 _).mono ?_; rintro e w' ⟨rfl, rfl⟩) | (go_at_call 256; refine (tz16 _ (HTZ.out.on (Below.alloc1 _ _))).mono ?_; rintro e w' ⟨rfl, rfl⟩) | fail)
  obtain ⟨R, hR⟩ : ∃ R : Value → Value → World → Prop, R = fun u i wr => ∃ (N : Nat) (l : List UInt8), u = .int .u64 (N : Int) ∧ i = .int .i64 (65 - (l.length : Int)) ∧ N * 16 ^ l.length ≤ 65535 ∧ l.length ≤ 3 ∧ HexAt wr w.heap.size l ∧ Below w.heap.size w wr ∧ Hid (out = hexD N ++ l) := ⟨_, rfl⟩
  have HR := Lib.hid hR
  clear hR
  have HN0 := Lib.hid (HexAt.new w)
  have HB0 := Lib.hid (Below.alloc1 w (.cells Tryz.zeroCells321 321))
  go_loopw [1, 13] (fun u i wr => R u i wr) (fun u _ _ => (intOf u).toNat)
  case atStart => rw [HR.out]; exact ⟨n, [], rfl, rfl, by simpa using hn, by simp, HN0.out, HB0.out, by unfold Hid; simp [HO.out]⟩
  case round =>
    rw [HR.out] at hrel
    obtain ⟨N, l, rfl, rfl, hNl, hl3, hat, hb, ho⟩ := hrel
    have hp : 1 ≤ 16 ^ l.length := Nat.one_le_pow _ _ (by omega)
    have hN : N ≤ 65535 := Nat.le_trans (Nat.le_mul_of_pos_right _ hp) hNl
    obtain ⟨⟨z, c1⟩, c2⟩ := hat.cell (by omega)
    have i0 : (65 - (l.length : Int)) - 1 = ((64 - l.length : Nat) : Int) := by omega
    by_cases h16 : 16 ≤ N
    · have i1 : (16 : Int) ≤ (N : Int) := by omega
      have hl2 : l.length + 1 ≤ 3 := by
        rcases (by omega : l.length ≤ 2 ∨ l.length = 3) with h | h
        · omega
        · rw [h] at hNl; omega
      have hand := and15 N hN
      have hdg := dig_at (N % 16) (Nat.mod_lt _ (by decide))
      have HFIN : Hid (R (.int .u64 ((N : Int) / 16)) (.int .i64 ((64 - l.length : Nat) : Int)) (wr.setCell ⟨w.heap.size, 64 - l.length, none⟩ (.int .u8 ((hexDig (N % 16)).toNat : Int)))) := by
        show R _ _ _
        rw [HR.out]
        refine ⟨N / 16, hexDig (N % 16) :: l, by push_cast; rfl, by congr 1; simp; omega, ?_, by simpa using hl2, hat.put (by omega) _, hb.setCell (p := ⟨w.heap.size, _, none⟩) (Nat.le_refl _) _, ?_⟩
        · rw [List.length_cons, Nat.pow_succ]
          refine Nat.le_trans ?_ hNl
          rw [Nat.mul_comm (16 ^ l.length) 16, ← Nat.mul_assoc]
          exact Nat.mul_le_mul_right _ (Nat.div_mul_le_self N 16)
        · show _ = _
          rw [ho.out, hexD, dif_neg (by omega)]; simp
      have hmod : N % 16 < 36 := by omega
      clear hat hb ho hNl hp
      go_wp2
      go_roundw
      case rel => exact HFIN.out
      case measure => simp [intOf]; omega
    · have i1 : ¬ (16 : Int) ≤ (N : Int) := by omega
      have hN16 : N < 16 := by omega
      have hN36 : N < 36 := by omega
      have hdg := dig_at N hN16
      have hat2 := hat.put (by omega) (hexDig N)
      have hb2 := hb.setCell (p := ⟨w.heap.size, 64 - l.length, none⟩) (Nat.le_refl _) (B8 (hexDig N))
      have HB5 := Lib.hid hb2
      have hrd := hat2.reads (by simp; omega) (by simp) (l.length + 1) (by simp)
      rw [List.length_cons, show 65 - (l.length + 1) = 64 - l.length by omega] at hrd
      have hcv := conv_reads hrd
      have hsl := slice65 (wr.setCell ⟨w.heap.size, 64 - l.length, none⟩ (.int .u8 ((hexDig N).toNat : Int))) w.heap.size l.length hl3
      have HOUT : Hid ((⟨(hexDig N :: l).toArray⟩ : ByteArray) = ⟨out.toArray⟩) := by
        show _ = _
        rw [ho.out, hexD, dif_pos hN16]; rfl
      clear hat hb ho hNl hp hat2 hb2 hrd
      go_wp2
      go_ret2
      exact ⟨by rw [HOUT.out]; rfl, HB5.out⟩
set_option maxRecDepth 100000 in
theorem pHexF (n : Nat) (hn : n ≤ 65535) (w : World) (htz : Tz w) : Calls Tryz.prog 207 #[.int .u64 (n : Int), .int .i64 16] w fun e w' => e = .returned (S (hexD n)) ∧ Below w.heap.size w w' := by
  have HB := Lib.hid (pBits n hn w htz)
  go_enter Tryz.func207, Tryz.ntmps207
  go_wp2_with (first | (go_at_call 241; refine HB.out.mono ?_; rintro e w' ⟨rfl, hb⟩) | go_in)
  go_ret
  exact ⟨rfl, hb⟩
end Go.Proofs.YtnehgbpfgehhiaaGreatDoor.Cidr
/-
  CIDR, the given answers: a range's form.
-/
namespace Go.Proofs.YtnehgbpfgehhiaaGreatDoor.Cidr
open Go.RowKit Base
def fourA (a : List UInt8) : Nat → List UInt8
  | 0 => []
  | k + 1 => (fourA a k ++ (if 0 < k then [46] else [])) ++ Lib.decDigits (a.getD k 0).toNat
def addrS (n : NetM) : List UInt8 := if n.six = true then form6 n.a else fourA n.a 4
def showN (n : NetM) : Option (List UInt8) := if rightN n = true then some (if n.bits = sizeN n.six then addrS n else (addrS n ++ [47]) ++ Lib.decDigits n.bits.toNat) else none
theorem dec_len0 : ∀ (k n : Nat), n < 10 ^ (k + 1) → (Lib.decDigits n).length ≤ k + 1
  | 0, n, h => by rw [Lib.decDigits, dif_pos (by omega)]; simp
  | k + 1, n, h => by
    rw [Lib.decDigits]
    split
    · simp
    · have := dec_len0 k (n / 10) (by rw [Nat.pow_succ] at h; omega)
      simp; omega
theorem outN_len {G : List Nat} (hG : ∀ j, G.getD j 0 ≤ 65535) (o : Option Nat) (m : Nat) : ∀ (f : Nat) (s : List UInt8) (i : Nat), (outN G o m f s i).length ≤ s.length + 5 * f
  | 0, s, i => by simp [outN]
  | f + 1, s, i => by
    rw [outN]
    split
    · split
      · have := outN_len hG o m f (s ++ [58, 58]) (i + m)
        simp at this; omega
      · have h1 := hexD_len _ (hG i)
        refine Nat.le_trans (outN_len hG o m f _ (i + 1)) ?_
        rw [List.length_append]
        have : (if s ≠ [] ∧ s.getLastD 0 ≠ 58 then s ++ [58] else s).length ≤ s.length + 1 := by split <;> simp
        omega
    · omega
theorem grpsA_le (a : List UInt8) (j : Nat) : (grpsA a).getD j 0 ≤ 65535 := by
  unfold grpsA
  rw [List.getD_eq_getElem?_getD, List.getElem?_map]
  cases (List.range 8)[j]? with
  | none => simp
  | some i => exact grpA_le a i
theorem form6_len (a : List UInt8) : (form6 a).length ≤ 40 := by
  have := outN_len (grpsA_le a) (bestN (grpsA a) 8).1 (bestN (grpsA a) 8).2 8 [] 0
  simpa [form6] using this
theorem fourA_len (a : List UInt8) : ∀ (k : Nat), (fourA a k).length ≤ 4 * k
  | 0 => by simp [fourA]
  | k + 1 => by
    have h1 := fourA_len a k
    have h2 := dec_len0 2 (a.getD k 0).toNat (by have := (a.getD k 0).toNat_lt; omega)
    unfold fourA
    rw [List.length_append, List.length_append]
    have : (if 0 < k then [(46 : UInt8)] else []).length ≤ 1 := by split <;> simp
    omega
theorem addrS_len (n : NetM) : (addrS n).length ≤ 40 := by
  unfold addrS
  split
  · exact form6_len _
  · have := fourA_len n.a 4; omega
def ShowEnd (o : Option (List UInt8)) (w : World) (e : Ending) (w' : World) : Prop :=
  Below w.heap.size w w' ∧ ((o = none ∧ e = .returned (.tuple #[.string ⟨#[]⟩, .int .i64 70])) ∨ ∃ l, o = some l ∧ e = .returned (.tuple #[S l, .int .i64 0]))
set_option maxHeartbeats 4000000 in
set_option maxRecDepth 100000 in
theorem rShow (n : NetM) (ha : n.a.length = 16) (w : World) : Calls Tryz.prog 28 #[netV n] w (ShowEnd (showN n) w) := by
  obtain ⟨o, ho⟩ : ∃ o, o = showN n := ⟨_, rfl⟩
  rw [← ho]
  unfold showN at ho
  have hnb := fun h => rightN_bits (n := n) h
  have HRI := Lib.hid (fun wx => rRight n ha wx)
  have HA := Lib.hid ha
  have HN0 := Lib.hid (NetAt.new w n)
  have HB0 := Lib.hid (Below.alloc1 w (.cells (netC n) 72))
  have HS := Lib.hid (size25_of ha)
  generalize rightN n = r at ho hnb HRI
  have HO := Lib.hid ho
  clear ho ha
  go_enter Tryz.func28, Tryz.ntmps28
  go_wp2_with (first | (refine wpList_load_mid rfl 72 (.tmp 1) rfl w.heap.size 0 rfl (netL n) _ HN0.out.range0 Tryz.underlying72 rfl HS.out ?_) | (go_at_call 60; refine (HRI.out _).mono ?_; rintro e w1 ⟨rfl, b1⟩; refine Hid.out ?_) | fail)
  refine Lib.hid ?_
  have HN1 := Lib.hid (HN0.out.on b1)
  have HB1 : Hid (Below w.heap.size w w1) := HB0.out.trans (b1.mono HB0.out.size)
  clear b1
  cases r with
  | false =>
    have HNO : Hid (o = none) := HO.out
    go_wp2
    go_ret2
    exact ⟨HB1.out, Or.inl ⟨HNO.out, rfl⟩⟩
  | true =>
    obtain ⟨hb0, hb1⟩ := hnb rfl
    have HYES : Hid (o = some (if n.bits = sizeN n.six then addrS n else (addrS n ++ [47]) ++ Lib.decDigits n.bits.toNat)) := HO.out
    clear hnb HO
    have hsix := HN1.out.six
    obtain ⟨T, hT⟩ : ∃ T : ByteArray, T = ⟨(addrS n).toArray⟩ := ⟨_, rfl⟩
    have HT := Lib.hid hT
    clear hT
    go_upto_if 12 with fail
    go_cut [5] (fun s wx => s = .string T ∧ Below w1.heap.size w1 wx ∧ T.size ≤ 100)
    case first =>
      cases h6 : n.six with
      | true =>
        have HF := Lib.hid (rForm6 n.a HA.out w1)
        have HRG := Lib.hid HN1.out.range
        have HS23 := Lib.hid (size23_of HA.out)
        rw [h6] at hsix
        have HE : Hid ((⟨(form6 n.a).toArray⟩ : ByteArray) = T) := by
          show _ = _
          rw [HT.out]; unfold addrS; rw [if_pos h6]
        have HL : Hid (T.size ≤ 100) := by
          have := form6_len n.a
          show T.size ≤ 100
          rw [← HE.out, arr_size]; omega
        clear h6
        go_wp2_with (first | (refine wpList_load_mid rfl 70 (.tmp 13) rfl w.heap.size 2 rfl (n.a.map B8) _ HRG.out Tryz.underlying70 rfl HS23.out ?_) | (go_at_call 61; refine HF.out.mono ?_; rintro e w2 ⟨rfl, b2⟩; refine Hid.out ?_) | fail)
        refine Lib.hid ?_
        have B2 := Lib.hid b2
        clear b2
        go_wp2
        go_meet
        exact ⟨by rw [← HE.out], B2.out, HL.out⟩
      | false =>
        rw [h6] at hsix
        have HE : Hid ((⟨(fourA n.a 4).toArray⟩ : ByteArray) = T) := by
          show _ = _
          rw [HT.out]; unfold addrS; rw [if_neg (by rw [h6]; simp)]
        have HL : Hid (T.size ≤ 100) := by
          have := fourA_len n.a 4
          show T.size ≤ 100
          rw [← HE.out, arr_size]; omega
        clear h6
        obtain ⟨R, hR⟩ : ∃ R : Value → Value → World → Prop, R = fun s i wr => ∃ (k : Nat) (U : ByteArray), k ≤ 4 ∧ i = .int .i64 (k : Int) ∧ s = .string U ∧ U.data.toList = fourA n.a k ∧ NetAt wr w.heap.size n ∧ Below w1.heap.size w1 wr := ⟨_, rfl⟩
        have HR := Lib.hid hR
        clear hR
        go_wp2
        go_loopw [5, 6] (fun s i wr => R s i wr) (fun _ i _ => 4 - (intOf i).toNat)
        case atStart => rw [HR.out]; exact ⟨0, ⟨#[]⟩, by omega, rfl, rfl, rfl, HN1.out, Below.refl _ _⟩
        case round =>
          rw [HR.out] at hrel
          obtain ⟨k, U, hk, rfl, rfl, hU, hat, hbw⟩ := hrel
          by_cases hlt : k < 4
          · obtain ⟨c1, _⟩ := hat.cellA (k := k) (by rw [HA.out]; omega)
            have hx := (n.a.getD k 0).toNat_lt
            have hul : U.size ≤ 16 := by rw [← str_len, hU]; have := fourA_len n.a k; omega
            obtain ⟨x, hx1⟩ : ∃ x, x = (n.a.getD k 0).toNat := ⟨_, rfl⟩
            rw [← hx1] at c1 hx
            have HX := Lib.hid hx1
            have HD := Lib.hid (rDigits_any x (by omega) wr)
            have hdl := dec_len0 2 x (by omega)
            have HUU := Lib.hid hU
            have HAT := Lib.hid hat
            have HBR := Lib.hid hbw
            have i1 : (k : Int) < 4 := by omega
            have i0 : (0 : Int) ≤ (k : Int) := by omega
            have i2 : IntKind.i64.wrap (x : Int) = (x : Int) := IntWalk.i64_in _ (by omega)
            clear hx1 hU hat hbw
            by_cases hk0 : k = 0
            · have i3 : ¬ (0 : Int) < (k : Int) := by omega
              have HO5 : Hid ((U ++ (⟨(Lib.decDigits x).toArray⟩ : ByteArray)).data.toList = fourA n.a (k + 1)) := by
                show _ = _
                rw [Joins.data_append, fourA, ← HX.out]
                rw [HUU.out, if_neg (by omega), List.append_nil]
              have hds : (⟨(Lib.decDigits x).toArray⟩ : ByteArray).size ≤ 3 := by rw [arr_size]; exact hdl
              generalize (⟨(Lib.decDigits x).toArray⟩ : ByteArray) = DX at HD HO5 hds
              clear hk0
              go_wp2_with (go_at_call 62; refine HD.out.mono ?_; rintro e w5 ⟨rfl, b5⟩; refine Hid.out ?_)
              refine Lib.hid ?_
              have HRR : Hid (R (.string (U ++ DX)) (.int .i64 ((k : Int) + 1)) w5) := by
                show R _ _ _
                rw [HR.out]
                exact ⟨k + 1, _, by omega, by simp, rfl, HO5.out, HAT.out.on b5, HBR.out.trans (b5.mono HBR.out.size)⟩
              clear b5
              go_wp2
              go_roundw
              case rel => exact HRR.out
              case measure => simp [intOf]; omega
            · have i3 : (0 : Int) < (k : Int) := by omega
              have hus : (U ++ (⟨#[46]⟩ : ByteArray)).size = U.size + 1 := by rw [ByteArray.size_append]; rfl
              have HO5 : Hid ((U ++ ⟨#[46]⟩ ++ (⟨(Lib.decDigits x).toArray⟩ : ByteArray)).data.toList = fourA n.a (k + 1)) := by
                show _ = _
                rw [Joins.data_append, fourA, ← HX.out]
                rw [Joins.data_append, HUU.out, if_pos (by omega)]
              have hds : (⟨(Lib.decDigits x).toArray⟩ : ByteArray).size ≤ 3 := by rw [arr_size]; exact hdl
              generalize (⟨(Lib.decDigits x).toArray⟩ : ByteArray) = DX at HD HO5 hds
              clear hk0
              go_wp2_with (go_at_call 62; refine HD.out.mono ?_; rintro e w5 ⟨rfl, b5⟩; refine Hid.out ?_)
              refine Lib.hid ?_
              have HRR : Hid (R (.string (U ++ ⟨#[46]⟩ ++ DX)) (.int .i64 ((k : Int) + 1)) w5) := by
                show R _ _ _
                rw [HR.out]
                exact ⟨k + 1, _, by omega, by simp, rfl, HO5.out, HAT.out.on b5, HBR.out.trans (b5.mono HBR.out.size)⟩
              clear b5
              go_wp2
              go_roundw
              case rel => exact HRR.out
              case measure => simp [intOf]; omega
          · obtain rfl : k = 4 := by omega
            have HBR := Lib.hid hbw
            have HU4 : Hid (U = T) := by
              show _ = _
              rw [← HE.out, ← hU]
            have i1 : ¬ ((4 : Nat) : Int) < 4 := by omega
            clear hU hat hbw
            go_wp2
            go_meet
            exact ⟨by rw [HU4.out], HBR.out, HL.out⟩
    case rest =>
      obtain ⟨rfl, hbc, hTl⟩ := hcut
      have hn := HN1.out.on hbc
      have hs0 := hn.six
      have hb := hn.bits
      have HBC : Hid (Below w.heap.size w wc) := HB1.out.trans (hbc.mono HB1.out.size)
      have HSZ := Lib.hid (fun wx => rSize n.six wx)
      rw [show (if n.six = true then (128 : Int) else 32) = sizeN n.six from rfl] at HSZ
      generalize sizeN n.six = sz at HSZ HYES
      have HNN := Lib.hid hn
      clear hn hbc hsix
      by_cases he : n.bits = sz
      · have e1 : (n.bits == sz) = true := by rw [he]; simp
        have HY2 : Hid (o = some (addrS n)) := by have := HYES.out; rw [if_pos he] at this; exact this
        clear he
        have HST : Hid (Below wc.heap.size wc wc.drew ∧ wc.drew.cell? ⟨w.heap.size, 0, none⟩ = some (.bool n.six) ∧ wc.drew.cell? ⟨w.heap.size, 1, none⟩ = some (.int .i64 n.bits)) := ⟨⟨rfl, rfl, rfl, Nat.le_refl _, fun _ _ => rfl⟩, hs0, hb⟩
        go_wp2
        go_region_held3 (fun w' => Below wc.heap.size wc w' ∧ w'.cell? ⟨w.heap.size, 0, none⟩ = some (.bool n.six) ∧ w'.cell? ⟨w.heap.size, 1, none⟩ = some (.int .i64 n.bits))
          (first | exact HST.out | assumption | fail)
          (first | (go_at_call 63; refine (HSZ.out _).mono ?_; rintro e wn ⟨rfl, rfl⟩) | fail)
        go_wp2
        go_ret2
        exact ⟨⟨HBC.out.os, HBC.out.tape, HBC.out.output, HBC.out.size, HBC.out.block⟩, Or.inr ⟨_, HY2.out, by rw [HT.out]; rfl⟩⟩
      · have e1 : (n.bits == sz) = false := by rw [beq_eq_false_iff_ne]; exact he
        have HY2 : Hid (o = some ((addrS n ++ [47]) ++ Lib.decDigits n.bits.toNat)) := by have := HYES.out; rw [if_neg he] at this; exact this
        obtain ⟨m, hm⟩ := Int.eq_ofNat_of_zero_le hb0
        have HD := Lib.hid (fun wx => rDigits_any m (by omega) wx)
        have hdl := dec_len0 2 m (by omega)
        have hds : (⟨(Lib.decDigits m).toArray⟩ : ByteArray).size ≤ 3 := by rw [arr_size]; exact hdl
        have hts : (T ++ (⟨#[47]⟩ : ByteArray)).size = T.size + 1 := by rw [ByteArray.size_append]; rfl
        have HFIN : Hid ((T ++ ⟨#[47]⟩) ++ (⟨(Lib.decDigits m).toArray⟩ : ByteArray) = ⟨((addrS n ++ [47]) ++ Lib.decDigits n.bits.toNat).toArray⟩) := by
          show _ = _
          apply ByteArray.ext
          apply Array.toList_inj.1
          rw [Joins.data_append, Joins.data_append, HT.out, hm]
          simp
        rw [hm] at hb e1
        generalize (⟨(Lib.decDigits m).toArray⟩ : ByteArray) = DX at HD hds HFIN
        clear he hdl hm
        have HST : Hid (Below wc.heap.size wc wc.drew ∧ wc.drew.cell? ⟨w.heap.size, 0, none⟩ = some (.bool n.six) ∧ wc.drew.cell? ⟨w.heap.size, 1, none⟩ = some (.int .i64 (m : Int))) := ⟨⟨rfl, rfl, rfl, Nat.le_refl _, fun _ _ => rfl⟩, hs0, hb⟩
        go_wp2
        go_region_held3 (fun w' => Below wc.heap.size wc w' ∧ w'.cell? ⟨w.heap.size, 0, none⟩ = some (.bool n.six) ∧ w'.cell? ⟨w.heap.size, 1, none⟩ = some (.int .i64 (m : Int)))
          (first | exact HST.out | assumption | fail)
          (first | (go_at_call 63; refine (HSZ.out _).mono ?_; rintro e wn ⟨rfl, rfl⟩) | fail)
        go_wp2_with (go_at_call 62; refine (HD.out _).mono ?_; rintro e w5 ⟨rfl, b5⟩; refine Hid.out ?_)
        refine Lib.hid ?_
        have HB5 := Lib.hid (HBC.out.trans (Below.mono (show Below wc.heap.size wc w5 from (show Below wc.heap.size wc wc.drew from ⟨rfl, rfl, rfl, Nat.le_refl _, fun _ _ => rfl⟩).trans b5) HBC.out.size))
        clear b5
        go_wp2
        go_ret2
        exact ⟨HB5.out, Or.inr ⟨_, HY2.out, by rw [HFIN.out]; rfl⟩⟩
end Go.Proofs.YtnehgbpfgehhiaaGreatDoor.Cidr
/-
  CIDR, the program: texts put together; the form of an address of IPv4, of groups.
-/
namespace Go.Proofs.YtnehgbpfgehhiaaGreatDoor.Cidr
open Go.RowKit Base
/-- The library's variables, with what the form of a group reads. -/
structure EnvS (w : World) : Prop where
  env : Env w
  tz : Tz w
theorem EnvS.on {w w' : World} (h : EnvS w) (hb : Below w.heap.size w w') : EnvS w' := ⟨h.env.on hb, h.tz.on hb⟩
theorem wp_append_s {w0 : World} {ops : Array Oper} {rest : List Oper} {o : Oper} {a : Act} {Q : Exit → Act → World → Prop} (hgd : o.guard = none) (s y : Operand)
    (ho : o.op = .call { callee := .builtin .append, args := #[s, y], argTypes := #[22, 22] })
    (B : Nat) (v : Value) (ls : List (List UInt8)) (l : List UInt8) (hs : a.eval s = v) (hx : a.eval y = .slice (some ⟨w0.heap.size, 0, none⟩) 1 1) (hown : OwnsS w0 B v ls) (hl : ls.length ≤ 1000) (hB : B ≤ w0.heap.size)
    (h : ∀ v' w', OwnsS w' B v' (ls ++ [l]) → Below B w0 w' → wpList Tryz.prog ops Q rest (a.put o.dst v') w') : wpList Tryz.prog ops Q (o :: rest) a (w0.alloc (.cells #[S l] 9)) := by
  obtain ⟨i0, hi0, hz0, hz1, hz2⟩ := info_parts info9
  refine wpList_append_row _ hgd s y 22 ho B 9 i0 (.string ⟨#[]⟩) 16 Tryz.underlying22 hi0 hz0 hz1 hz2 rfl v _ ls.length (ls.map S) [S l] hs hx (World.ownsRow.alloc hown _) (vreads_one _ _ _) (one_str _) (by rw [List.length_singleton]; omega) (by rw [List.length_singleton]; omega) (Nat.le_trans hB (Below.alloc1 w0 _).size) (fun v' w' o2 g2 a2 => ?_)
  refine h v' w' ?_ (((Below.refl B w0).alloc hB _).grown g2 (Nat.le_trans hB (Below.alloc1 w0 _).size) (fun j hj => (World.ownsRow.lt hown j hj).1))
  unfold OwnsS
  rw [List.map_append, List.length_append]
  exact o2
/-- strings.Join of a row of the call's own. -/
theorem pJoin (B : Nat) (v : Value) (ls : List (List UInt8)) (c : UInt8) (w : World) (h : OwnsS w B v ls) (hl : ls.length ≤ 1000) (hlen : (Lib.join ls [c]).length ≤ 100000) : Calls Tryz.prog 183 #[v, .string ⟨#[c]⟩] w fun e w' => e = .returned (S (Lib.join ls [c])) ∧ Below w.heap.size w w' := by
  rcases h.2 with ⟨rfl, hn⟩ | ⟨g, cap, cur, rfl, h1, h2, h3, h4, h5, h6⟩
  · have : ls = [] := List.eq_nil_of_length_eq_zero hn
    subst this
    refine (Tryz.strings_Join_none none 0 ⟨#[c]⟩ w).mono ?_
    rintro e w' ⟨rfl, rfl⟩
    exact ⟨rfl, Below.refl _ _⟩
  · obtain ⟨xs, rfl⟩ : ∃ xs : List ByteArray, ls = xs.map (·.data.toList) := ⟨ls.map fun l => ⟨l.toArray⟩, by rw [List.map_map]; exact (List.map_id ls).symm⟩
    have hc := fun (j : Nat) (x : List UInt8) hx => OwnsS.cell (ls := xs.map (·.data.toList)) (i := j) (x := x) h hx
    have := Tryz.strings_Join g 0 cap xs ⟨#[c]⟩ w (fun j x hx => by
      obtain ⟨b, hb, hcell⟩ := hc j x.data.toList (by rw [List.getElem?_map, hx]; rfl)
      cases hb
      rw [Nat.zero_add, hcell]) (heap_lt h2) (by simp at hl; omega) (by simpa using h3) (by
        have e : (⟨#[c]⟩ : ByteArray).data.toList = [c] := rfl
        rw [e]; omega)
    rw [show (xs.map (·.data.toList)).length = xs.length by simp]
    exact this
theorem dec_len3 (x : UInt8) : (Lib.decDigits x.toNat).length ≤ 3 := dec_len0 2 _ (by have := x.toNat_lt; omega)
theorem four_join (a : List UInt8) : Lib.join ((List.range 4).map fun i => Lib.decDigits (a.getD i 0).toNat) [46] = fourA a 4 := by
  rw [show List.range 4 = [0, 1, 2, 3] from rfl]
  simp only [List.map_cons, List.map_nil, fourA]
  rw [Lib.join_cons]
  simp [Lib.joinTail]
theorem itoa_nat (n : Nat) : Lib.itoa (n : Int) = Lib.decDigits n := by unfold Lib.itoa; rw [if_neg (by omega), Int.toNat_natCast]
theorem pItoa (n : Nat) (hn : n ≤ 9223372036854775807) (w : World) (he : Env w) : Calls Tryz.prog 182 #[.int .i64 (n : Int)] w fun e w' => e = .returned (S (Lib.decDigits n)) ∧ Below w.heap.size w w' := by
  refine (Tryz.strconv_Itoa (n : Int) (by omega) (by omega) w he.pow).mono ?_
  rintro e w' ⟨rfl, k, os, rfl⟩
  exact ⟨by rw [itoa_nat], Lib.below_grow _ w (Nat.le_refl _) k os⟩
set_option maxHeartbeats 4000000 in
set_option maxRecDepth 100000 in
theorem pFormFour (a : List UInt8) (ha : a.length = 16) (w : World) (he : Env w) : Calls Tryz.prog 138 #[.agg (a.map B8).toArray] w fun e w' => e = .returned (S (fourA a 4)) ∧ Below w.heap.size w w' := by
  have HA := Lib.hid ha
  have H0 := Lib.hid (AddrAt.new w a)
  have HB0 := Lib.hid (Below.alloc1 w (.cells (a.map B8).toArray 70))
  have HE0 := Lib.hid (he.on HB0.out)
  have hs4 : (Instr.sliceAt 70 (.pointer (some ⟨w.heap.size, 0, none⟩)) none (some (.int .i64 4)) none).run Tryz.prog (w.alloc (.cells (a.map B8).toArray 70)) = .ok (.slice (some ⟨w.heap.size, 0, none⟩) 4 16) (w.alloc (.cells (a.map B8).toArray 70)) := by kernel_rfl
  obtain ⟨w0, hw0⟩ : ∃ w0, w0 = w.alloc (.cells (a.map B8).toArray 70) := ⟨_, rfl⟩
  rw [← hw0] at H0 HB0 HE0
  obtain ⟨R, hR⟩ : ∃ R : Value → Value → World → Prop, R = fun v i wr => ∃ k : Nat, k ≤ 4 ∧ i = .int .i64 (k : Int) ∧ OwnsS wr w0.heap.size v ((List.range k).map fun i => Lib.decDigits (a.getD i 0).toNat) ∧ Below w0.heap.size w0 wr := ⟨_, rfl⟩
  have HR := Lib.hid hR
  have HW0 := Lib.hid hw0
  clear hR hw0 he ha
  go_enter Tryz.func138, Tryz.ntmps138
  go_wp2
  go_loopw [3, 8] (fun v i wr => R v i wr) (fun _ i _ => 4 - (intOf i).toNat)
  case atStart =>
    rw [HR.out]
    exact ⟨0, by omega, rfl, World.ownsRow_nil _ _ _ _, by rw [HW0.out]; exact Below.refl _ _⟩
  case round =>
    rw [HR.out] at hrel
    obtain ⟨k, hk, rfl, hown, hbw⟩ := hrel
    have HOW := Lib.hid hown
    have HBW := Lib.hid hbw
    by_cases hlt : k < 4
    · have i1 : (k : Int) < 4 := by omega
      have i0 : (0 : Int) ≤ (k : Int) := by omega
      obtain ⟨c1, _⟩ := (H0.out.on hbw).cell (k := k) (by rw [HA.out]; omega)
      have hx := (a.getD k 0).toNat_lt
      have HDL := Lib.hid (dec_len3 (a.getD k 0))
      have HNX : Hid ((List.range (k + 1)).map (fun i => Lib.decDigits (a.getD i 0).toNat) = (List.range k).map (fun i => Lib.decDigits (a.getD i 0).toNat) ++ [Lib.decDigits (a.getD k 0).toNat]) := by
        show _ = _
        rw [List.range_succ, List.map_append]; rfl
      have HE1 := Lib.hid (HE0.out.on hbw)
      obtain ⟨z, hz⟩ : ∃ z, z = (a.getD k 0).toNat := ⟨_, rfl⟩
      rw [← hz] at c1 hx HDL HNX
      have HI := Lib.hid (pItoa z (by omega) wr HE1.out)
      have HLS : Hid (((List.range k).map (fun i => Lib.decDigits (a.getD i 0).toNat)).length ≤ 1000) := by show _ ≤ _; simp; omega
      generalize (List.range k).map (fun i => Lib.decDigits (a.getD i 0).toNat) = ls at hown HOW HNX HLS
      obtain ⟨oa, oc, rfl, hoc⟩ := hown.form
      clear hown hbw hz
      go_wp2_with (first | (go_at_call 182; refine HI.out.mono ?_; rintro e w2 ⟨rfl, b2⟩; refine Hid.out ?_) | fail)
      refine Lib.hid ?_
      have HO2 := Lib.hid (HOW.out.on b2)
      have HB2 := Lib.hid (HBW.out.trans (b2.mono HBW.out.size))
      clear b2
      go_wp2_with (at_builtin; go_must (refine wp_append_s rfl _ _ rfl w0.heap.size (.slice oa ls.length oc) ls (Lib.decDigits z) rfl rfl HO2.out HLS.out HB2.out.size ?_); intro v3 w3 o3 b3; refine Hid.out ?_)
      refine Lib.hid ?_
      have HFIN : Hid (R v3 (.int .i64 ((k : Int) + 1)) w3) := by
        show R _ _ _
        rw [HR.out]
        exact ⟨k + 1, by omega, by simp, by rw [HNX.out]; exact o3, HB2.out.trans b3⟩
      clear o3 b3
      go_wp2
      go_roundw
      case rel => exact HFIN.out
      case measure => simp [intOf]; omega
    · obtain rfl : k = 4 := by omega
      have i1 : ¬ ((4 : Nat) : Int) < 4 := by omega
      have hjl : (Lib.join ((List.range 4).map fun i => Lib.decDigits (a.getD i 0).toNat) [46]).length ≤ 100000 := by rw [four_join]; have := fourA_len a 4; omega
      have HJ := Lib.hid (pJoin w0.heap.size _ _ 46 wr hown (by simp) hjl)
      rw [four_join] at HJ
      have HBF : Hid (Below w.heap.size w wr) := HB0.out.trans (hbw.mono HB0.out.size)
      clear hown hbw hjl HOW
      go_wp2_with (first | (go_at_call 183; refine HJ.out.mono ?_; rintro e w2 ⟨rfl, b2⟩; refine Hid.out ?_) | fail)
      refine Lib.hid ?_
      go_wp2
      go_ret
      exact ⟨rfl, HBF.out.trans (b2.mono HBF.out.size)⟩
end Go.Proofs.YtnehgbpfgehhiaaGreatDoor.Cidr
