/-
  CIDR, the program: strconv.FormatUint at base 16, up to 65535.
-/
import Derived.Test.YtdmajikhpacpfaaDoorCidrPLib
import Derived.Test.YtdmajikhpacpfaaDoorCidrG3
import Derived.Test.YtdmajikhpacpfaaDoorCidrG2
import Derived.Laws.Bits64b
namespace Go.Proofs.YtdmajikhpacpfaaDoor.Cidr
open Go.RowKit Base
/-- What trailing zeros of 16 are read off. -/
def Tz (w : World) : Prop := w.cell? ⟨7, 15, none⟩ = some (.int .u8 4)
theorem Tz.on {w w' : World} (h : Tz w) (hb : Below w.heap.size w w') : Tz w' := (hb.cell (p := ⟨7, 15, none⟩) (cell_lt h)).trans h
theorem pow16 (w : World) : Calls Tryd.prog 103 #[.int .i64 16] w fun e w' => e = .returned (.bool true) ∧ w' = w := by
  go_enter Tryd.func103, Tryd.ntmps103
  go_wp2
  go_ret
  exact ⟨rfl, rfl⟩
set_option maxRecDepth 100000 in
theorem tz16 (w : World) (h : Tz w) : Calls Tryd.prog 104 #[.int .u64 16] w fun e w' => e = .returned (.int .i64 4) ∧ w' = w := by
  have h2 : w.cell? ⟨7, 15, none⟩ = some (.int .u8 4) := h
  have e2 : bits BinOp.and IntKind.u64 16 (IntKind.u64.wrap (-16)) = 16 := by decide +kernel
  have e3 : IntKind.u64.wrap (16 * 285870213051353865) = 4573923408821661840 := by decide +kernel
  go_enter Tryd.func104, Tryd.ntmps104
  go_wp2
  go_ret
  exact ⟨rfl, rfl⟩
theorem and15 (u : Nat) (h : u ≤ 65535) : bits .and .u64 (u : Int) 15 = ((u % 16 : Nat) : Int) := by
  have := bits_and_u64_nat u 15 (by omega) (by omega)
  rw [show ((15 : Nat) : Int) = 15 from rfl] at this
  rw [this]
  congr 1
  exact Nat.and_two_pow_sub_one_eq_mod u 4
/-- The box of 65 bytes: l stands at its end. -/
def HexAt (w : World) (b : Nat) (l : List UInt8) : Prop := w.heap[b]? = some (.cells ((List.replicate (65 - l.length) (0 : UInt8) ++ l).map B8).toArray 132 (0, 0))
theorem HexAt.new (w : World) : HexAt (w.alloc (.cells Tryd.zeroCells132 132)) w.heap.size [] := by
  have := (MapKept.heap_alloc w (.cells Tryd.zeroCells132 132)).1
  unfold HexAt
  rw [this]
  rfl
theorem HexAt.cell {w : World} {b : Nat} {l : List UInt8} (h : HexAt w b l) (hl : l.length ≤ 64) : (∃ z, w.cell? ⟨b, 64 - l.length, none⟩ = some (.int .u8 z)) ∧ w.frozen? ⟨b, 64 - l.length, none⟩ = false := by
  refine ⟨⟨0, ?_⟩, by simp [World.frozen?, show w.heap[b]? = _ from h]⟩
  rw [cell_of_row w b _ _ _ _ h]
  simp
  rw [List.getElem?_append_left (by simp; omega), List.getElem?_replicate, if_pos (by omega)]
  rfl
theorem HexAt.put {w : World} {b : Nat} {l : List UInt8} (h : HexAt w b l) (hl : l.length ≤ 64) (x : UInt8) : HexAt (w.setCell ⟨b, 64 - l.length, none⟩ (B8 x)) b (x :: l) := by
  have h1 := heap_setCell_any w b (64 - l.length) _ _ _ (B8 x) h
  unfold HexAt
  rw [h1]
  congr 2
  apply Array.toList_inj.1
  rw [List.length_cons, show 65 - l.length = 65 - (l.length + 1) + 1 by omega, List.replicate_succ']
  have e : (List.replicate (65 - (l.length + 1)) (B8 0)).length = 64 - l.length := by rw [List.length_replicate]; omega
  simp only [List.setIfInBounds_toArray, List.map_append, List.map_cons, List.map_replicate, List.append_assoc, List.cons_append, List.nil_append]
  rw [← e, List.set_append_right _ _ (Nat.le_refl _), Nat.sub_self, List.set_cons_zero]
theorem HexAt.reads {w : World} {b : Nat} {l : List UInt8} (h : HexAt w b l) (hl : l.length ≤ 64) (h0 : 0 < l.length) (c : Nat) (hc : l.length ≤ c) : Reads w (.slice (some ⟨b, 65 - l.length, none⟩) l.length c) l := by
  refine Or.inr ⟨b, 65 - l.length, c, rfl, hc, fun i hi => ?_⟩
  rw [cell_of_row w b _ _ _ _ h]
  simp
  rw [List.getElem?_append_right (by simp), List.length_replicate, show 65 - l.length + i - (65 - l.length) = i by omega]
  simp [List.getElem?_eq_getElem hi]
theorem dig_at (k : Nat) (h : k < 16) : (⟨#[48, 49, 50, 51, 52, 53, 54, 55, 56, 57, 97, 98, 99, 100, 101, 102, 103, 104, 105, 106, 107, 108, 109, 110, 111, 112, 113, 114, 115, 116, 117, 118, 119, 120, 121, 122]⟩ : ByteArray)[k]'(Nat.lt_of_lt_of_le h (by decide)) = hexDig k := by
  have e : ∀ i : Fin 16, (⟨#[48, 49, 50, 51, 52, 53, 54, 55, 56, 57, 97, 98, 99, 100, 101, 102, 103, 104, 105, 106, 107, 108, 109, 110, 111, 112, 113, 114, 115, 116, 117, 118, 119, 120, 121, 122]⟩ : ByteArray)[i.val]'(Nat.lt_of_lt_of_le i.isLt (by decide)) = hexDig i.val := by decide +kernel
  exact e ⟨k, h⟩
theorem slice65 (w : World) (b k : Nat) (h : k ≤ 3) : (Instr.sliceAt 132 (.pointer (some ⟨b, 0, none⟩)) (some (.int .i64 ((64 - k : Nat) : Int))) none none).run Tryd.prog w = .ok (.slice (some ⟨b, 64 - k, none⟩) (k + 1) (k + 1)) w := by
  rcases (by omega : k = 0 ∨ k = 1 ∨ k = 2 ∨ k = 3) with rfl | rfl | rfl | rfl
  all_goals kernel_rfl
set_option maxHeartbeats 4000000 in
set_option maxRecDepth 100000 in
theorem pBits (n : Nat) (hn : n ≤ 65535) (w : World) (htz : Tz w) : Calls Tryd.prog 97 #[.slice none 0 0, .int .u64 (n : Int), .int .i64 16, .bool false, .bool false] w fun e w' => e = .returned (.tuple #[.slice none 0 0, S (hexD n)]) ∧ Below w.heap.size w w' := by
  have HTZ := Lib.hid htz
  obtain ⟨out, hout⟩ : ∃ out, out = hexD n := ⟨_, rfl⟩
  have HO := Lib.hid hout
  rw [← hout]
  clear hout htz
  go_enter Tryd.func97, Tryd.ntmps97
  go_wp2_with (first | (go_at_call 103; refine (pow16 _).mono ?_; rintro e w' ⟨rfl, rfl⟩) | (go_at_call 104; refine (tz16 _ (HTZ.out.on (Below.alloc1 _ _))).mono ?_; rintro e w' ⟨rfl, rfl⟩) | fail)
  obtain ⟨R, hR⟩ : ∃ R : Value → Value → World → Prop, R = fun u i wr => ∃ (N : Nat) (l : List UInt8), u = .int .u64 (N : Int) ∧ i = .int .i64 (65 - (l.length : Int)) ∧ N * 16 ^ l.length ≤ 65535 ∧ l.length ≤ 3 ∧ HexAt wr w.heap.size l ∧ Below w.heap.size w wr ∧ Hid (out = hexD N ++ l) := ⟨_, rfl⟩
  have HR := Lib.hid hR
  clear hR
  have HN0 := Lib.hid (HexAt.new w)
  have HB0 := Lib.hid (Below.alloc1 w (.cells Tryd.zeroCells132 132))
  go_loopw [1, 13] (fun u i wr => R u i wr) (fun u _ _ => (intOf u).toNat)
  case atStart => rw [HR.out]; exact ⟨n, [], rfl, rfl, by simpa using hn, by simp, HN0.out, HB0.out, by unfold Hid; simp [HO.out]⟩
  case round =>
    rw [HR.out] at hrel
    obtain ⟨N, l, rfl, rfl, hNl, hl3, hat, hb, ho⟩ := hrel
    have hp : 1 ≤ 16 ^ l.length := Nat.one_le_pow _ _ (by omega)
    have hN : N ≤ 65535 := Nat.le_trans (Nat.le_mul_of_pos_right _ hp) hNl
    obtain ⟨⟨z, c1⟩, c2⟩ := hat.cell (by omega)
    have i0 : (65 - (l.length : Int)) - 1 = ((64 - l.length : Nat) : Int) := by omega
    by_cases h16 : 16 ≤ N
    · have i1 : (16 : Int) ≤ (N : Int) := by omega
      have hl2 : l.length + 1 ≤ 3 := by
        rcases (by omega : l.length ≤ 2 ∨ l.length = 3) with h | h
        · omega
        · rw [h] at hNl; omega
      have hand := and15 N hN
      have hdg := dig_at (N % 16) (Nat.mod_lt _ (by decide))
      have HFIN : Hid (R (.int .u64 ((N : Int) / 16)) (.int .i64 ((64 - l.length : Nat) : Int)) (wr.setCell ⟨w.heap.size, 64 - l.length, none⟩ (.int .u8 ((hexDig (N % 16)).toNat : Int)))) := by
        show R _ _ _
        rw [HR.out]
        refine ⟨N / 16, hexDig (N % 16) :: l, by push_cast; rfl, by congr 1; simp; omega, ?_, by simpa using hl2, hat.put (by omega) _, hb.setCell (p := ⟨w.heap.size, _, none⟩) (Nat.le_refl _) _, ?_⟩
        · rw [List.length_cons, Nat.pow_succ]
          refine Nat.le_trans ?_ hNl
          rw [Nat.mul_comm (16 ^ l.length) 16, ← Nat.mul_assoc]
          exact Nat.mul_le_mul_right _ (Nat.div_mul_le_self N 16)
        · show _ = _
          rw [ho.out, hexD, dif_neg (by omega)]; simp
      have hmod : N % 16 < 36 := by omega
      clear hat hb ho hNl hp
      go_wp2
      go_roundw
      case rel => exact HFIN.out
      case measure => simp [intOf]; omega
    · have i1 : ¬ (16 : Int) ≤ (N : Int) := by omega
      have hN16 : N < 16 := by omega
      have hN36 : N < 36 := by omega
      have hdg := dig_at N hN16
      have hat2 := hat.put (by omega) (hexDig N)
      have hb2 := hb.setCell (p := ⟨w.heap.size, 64 - l.length, none⟩) (Nat.le_refl _) (B8 (hexDig N))
      have HB5 := Lib.hid hb2
      have hrd := hat2.reads (by simp; omega) (by simp) (l.length + 1) (by simp)
      rw [List.length_cons, show 65 - (l.length + 1) = 64 - l.length by omega] at hrd
      have hcv := conv_reads hrd
      have hsl := slice65 (wr.setCell ⟨w.heap.size, 64 - l.length, none⟩ (.int .u8 ((hexDig N).toNat : Int))) w.heap.size l.length hl3
      have HOUT : Hid ((⟨(hexDig N :: l).toArray⟩ : ByteArray) = ⟨out.toArray⟩) := by
        show _ = _
        rw [ho.out, hexD, dif_pos hN16]; rfl
      clear hat hb ho hNl hp hat2 hb2 hrd
      go_wp2
      go_ret2
      exact ⟨by rw [HOUT.out]; rfl, HB5.out⟩
set_option maxRecDepth 100000 in
theorem pHexF (n : Nat) (hn : n ≤ 65535) (w : World) (htz : Tz w) : Calls Tryd.prog 71 #[.int .u64 (n : Int), .int .i64 16] w fun e w' => e = .returned (S (hexD n)) ∧ Below w.heap.size w w' := by
  have HB := Lib.hid (pBits n hn w htz)
  go_enter Tryd.func71, Tryd.ntmps71
  go_wp2_with (first | (go_at_call 97; refine HB.out.mono ?_; rintro e w' ⟨rfl, hb⟩) | go_in)
  go_ret
  exact ⟨rfl, hb⟩
end Go.Proofs.YtdmajikhpacpfaaDoor.Cidr
