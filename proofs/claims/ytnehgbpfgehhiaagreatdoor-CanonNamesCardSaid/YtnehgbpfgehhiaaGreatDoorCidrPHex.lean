/-
  MERGED by mergefill.py: CidrPHex.
-/
import Derived.Test.YtnehgbpfgehhiaaGreatDoorCidrAddrM
import Derived.Lib.ParseIntBMem
/-
  CIDR, the program: strconv.ParseUint at base 16 and 16 bits.
-/
namespace Go.Proofs.YtnehgbpfgehhiaaGreatDoor.Cidr
open Go.RowKit Base
def hexM (acc : Nat) : List UInt8 → Lib.NumEnd Nat
  | [] => .ok acc
  | c :: r => if isHex c = true then (if 65535 < acc * 16 + hexV c then .range else hexM (acc * 16 + hexV c) r) else .syntax
theorem hexM_hex {acc : Nat} {c : UInt8} {r : List UInt8} (h : isHex c = true) : hexM acc (c :: r) = if 65535 < acc * 16 + hexV c then .range else hexM (acc * 16 + hexV c) r := by rw [hexM, if_pos h]
theorem hexM_no {acc : Nat} {c : UInt8} {r : List UInt8} (h : isHex c = false) : hexM acc (c :: r) = .syntax := by rw [hexM, h]; rfl
theorem hexM_small : ∀ (l : List UInt8) (a : Nat), (a + 1) * 16 ^ l.length ≤ 65536 → hexM a l = if l.all isHex = true then .ok (l.foldl (fun n c => 16 * n + hexV c) a) else .syntax
  | [], a, _ => by simp [hexM]
  | c :: r, a, h => by
    rw [List.length_cons, Nat.pow_succ] at h
    have h0 : 1 ≤ 16 ^ r.length := Nat.one_le_pow _ _ (by omega)
    have h1 : (a + 1) * 16 ≤ 65536 := Nat.le_trans (by rw [show (a + 1) * (16 ^ r.length * 16) = (a + 1) * 16 * 16 ^ r.length by rw [Nat.mul_comm (16 ^ r.length) 16, ← Nat.mul_assoc]]; exact Nat.le_mul_of_pos_right _ (by omega)) h
    rw [List.all_cons, List.foldl_cons]
    cases hd : isHex c with
    | true =>
      have hv := hexV_lt hd
      rw [hexM_hex hd, if_neg (by omega)]
      have ih := hexM_small r (a * 16 + hexV c) (Nat.le_trans (by rw [show (a + 1) * (16 ^ r.length * 16) = (a * 16 + 16) * 16 ^ r.length by rw [Nat.mul_comm (16 ^ r.length) 16, ← Nat.mul_assoc]; congr 1; omega]; exact Nat.mul_le_mul_right _ (by omega)) h)
      rw [ih, Bool.true_and, Nat.mul_comm a 16]
    | false => rw [hexM_no hd, Bool.false_and, if_neg (by simp)]
/-- What a letter is with bit 5 set. -/
theorem low_of (c : UInt8) (h : ¬ (48 ≤ c.toNat ∧ c.toNat ≤ 57)) : ∃ lo : Nat, bits .or .u8 (c.toNat : Int) 32 = (lo : Int) ∧ lo < 256 ∧ ((isHex c = true ∧ 97 ≤ lo ∧ lo ≤ 102 ∧ hexV c = lo - 87 ∧ c.toNat ≠ 95) ∨ (isHex c = false ∧ 103 ≤ lo ∧ lo ≤ 122 ∧ c.toNat ≠ 95) ∨ (isHex c = false ∧ lo < 97 ∧ c.toNat ≠ 95) ∨ (isHex c = false ∧ 122 < lo)) := by
  have e : ∀ y : Fin 256, ¬ (48 ≤ y.val ∧ y.val ≤ 57) → ∃ lo : Fin 256, bits .or .u8 (y.val : Int) 32 = (lo.val : Int) ∧ ((decide (48 ≤ y.val ∧ y.val ≤ 57 ∨ 97 ≤ y.val ∧ y.val ≤ 102 ∨ 65 ≤ y.val ∧ y.val ≤ 70) = true ∧ 97 ≤ lo.val ∧ lo.val ≤ 102 ∧ (if y.val ≤ 57 then y.val - 48 else if 97 ≤ y.val then y.val - 87 else y.val - 55) = lo.val - 87 ∧ y.val ≠ 95) ∨ (decide (48 ≤ y.val ∧ y.val ≤ 57 ∨ 97 ≤ y.val ∧ y.val ≤ 102 ∨ 65 ≤ y.val ∧ y.val ≤ 70) = false ∧ 103 ≤ lo.val ∧ lo.val ≤ 122 ∧ y.val ≠ 95) ∨ (decide (48 ≤ y.val ∧ y.val ≤ 57 ∨ 97 ≤ y.val ∧ y.val ≤ 102 ∨ 65 ≤ y.val ∧ y.val ≤ 70) = false ∧ lo.val < 97 ∧ y.val ≠ 95) ∨ (decide (48 ≤ y.val ∧ y.val ≤ 57 ∨ 97 ≤ y.val ∧ y.val ≤ 102 ∨ 65 ≤ y.val ∧ y.val ≤ 70) = false ∧ 122 < lo.val)) := by
    intro y hy
    refine ⟨⟨y.val ||| 32, ?_⟩, ?_⟩
    · exact Nat.or_lt_two_pow (n := 8) y.isLt (by decide)
    · revert hy; revert y; decide +kernel
  obtain ⟨lo, h1, h2⟩ := e ⟨c.toNat, c.toNat_lt⟩ h
  exact ⟨lo.val, h1, lo.isLt, h2⟩
set_option maxHeartbeats 32000000 in
set_option maxRecDepth 100000 in
theorem pUint16 (t : ByteArray) (hne : t.size ≠ 0) (hmax : t.size ≤ 9223372036854775806) (w : World) :
    Calls Tryz.prog 221 #[.string t, .int .i64 16, .int .i64 16] w fun e w' => e = .returned (Lib.uintTupleM 299 65535 (hexM 0 t.data.toList)) ∧ w' = Lib.bytesWorld w 5 t := by
  have hemp : t.toList.isEmpty = false := by
    rw [← decide_eq_emptyBytes]
    exact decide_eq_false (fun h => hne (by rw [h]; rfl))
  have hcv := Lib.run_convert_string_bytes (P := Tryz.prog) w 9 87 5 t (u := .string) Tryz.underlying9 Tryz.underlying87 Tryz.underlying5
  have hB : ∀ j, j < t.size → (Lib.bytesWorld w 5 t).cell? ⟨w.heap.size, j, none⟩ = some (.int .u8 (t.data.toList.getD j 0).toNat) := fun j hj => Lib.bytesWorld_cell w 5 t j hj
  obtain ⟨W1, hW1⟩ : ∃ W1, W1 = Lib.bytesWorld w 5 t := ⟨_, rfl⟩
  rw [← hW1] at hcv hB ⊢
  clear hW1
  obtain ⟨bs, hL⟩ : ∃ bs, bs = t.data.toList := ⟨_, rfl⟩
  have hLn : bs.length = t.size := by rw [hL, Lib.size_eq]
  rw [← hL] at hB ⊢
  clear hL
  have hmv : IntKind.u64.wrap (IntKind.u64.wrap 65536 - 1) = 65535 := by
    rw [IntKind.wrap_u64, IntKind.wrap_u64]
    decide
  go_enter Tryz.func221, Tryz.ntmps221
  go_wp2
  go_loop [12, 13, 101] (fun vu vn vi => ∃ (k acc : Nat) (a : Int), vu = .bool false ∧ vn = .int .u64 a ∧ vi = .int .i64 k ∧ k ≤ t.size ∧ Hid (a = (acc : Int) ∧ acc ≤ 65535 ∧ hexM 0 bs = hexM acc (bs.drop k)))
    (fun _ _ vi => t.size - (intOf vi).toNat)
  case atStart => exact ⟨0, 0, 0, rfl, rfl, rfl, by omega, rfl, by omega, rfl⟩
  case round =>
    obtain ⟨k, acc, a, rfl, rfl, rfl, hk, hh⟩ := hrel
    obtain ⟨ha, hacc, hdec⟩ := hh.out
    clear hh
    have a0 : 0 ≤ a := by omega
    have a1 : a ≤ 65535 := by omega
    by_cases hkn : k < t.size
    · have hc := hB k hkn
      have hdrop : bs.drop k = bs[k]'(by omega) :: bs.drop (k + 1) := List.drop_eq_getElem_cons (by omega)
      have hget : bs.getD k 0 = bs[k]'(by omega) := by simp [List.getD, List.getElem?_eq_getElem (show k < bs.length by omega)]
      rw [hdrop] at hdec
      rw [hget] at hc
      generalize bs[k]'(by omega) = c at hc hdec
      have hc256 : c.toNat < 256 := c.toNat_lt
      clear hB hdrop hget
      by_cases hdig : 48 ≤ c.toNat ∧ c.toNat ≤ 57
      · obtain ⟨hd0, hd1⟩ := hdig
        have hx : isHex c = true := (hex_iff c).2 (Or.inl ⟨hd0, hd1⟩)
        have hv : hexV c = c.toNat - 48 := by unfold hexV; rw [if_pos hd1]
        rw [hexM_hex hx, hv] at hdec
        by_cases hov : 65535 < acc * 16 + (c.toNat - 48)
        · rw [if_pos hov] at hdec
          have iov : 65535 < a * 16 + ((c.toNat : Int) - 48) := by omega
          clear hacc hov ha hx hv
          go_wp2
          go_ret2
          first | exact ⟨rfl, rfl⟩ | exact ⟨by rw [hdec]; rfl, rfl⟩
        · rw [if_neg hov] at hdec
          have HN : Hid (a * 16 + ((c.toNat : Int) - 48) = ((acc * 16 + (c.toNat - 48) : Nat) : Int) ∧ acc * 16 + (c.toNat - 48) ≤ 65535 ∧ hexM 0 bs = hexM (acc * 16 + (c.toNat - 48)) (bs.drop (k + 1))) := Lib.hid ⟨by omega, by omega, hdec⟩
          have iov : a * 16 + ((c.toNat : Int) - 48) ≤ 65535 := by omega
          clear hacc hov hdec ha hx hv
          go_wp2
          refine ⟨⟨k + 1, acc * 16 + (c.toNat - 48), a * 16 + ((c.toNat : Int) - 48), rfl, (by first | rfl | (congr 1; omega)), (by first | rfl | (congr 1; omega)), by omega, HN⟩, by simp [intOf]; omega⟩
      · obtain ⟨lo, hlo, hl256, hcase⟩ := low_of c hdig
        have HLOW : Hid (∀ w, Calls Tryz.prog 232 #[.int .u8 (c.toNat : Int)] w fun e w' => e = .returned (.int .u8 (lo : Int)) ∧ w' = w) := fun w => by
          have := Tryz.internal_strconv_lower (c.toNat : Int) w
          rwa [hlo] at this
        clear hlo
        rcases hcase with ⟨hx, l1, l2, hv, l3⟩ | ⟨hx, l1, l2, l3⟩ | ⟨hx, l1, l3⟩ | ⟨hx, l1⟩
        · rw [hexM_hex hx, hv] at hdec
          have l4 : ((c.toNat : Int) == 95) = false := by rw [beq_eq_false_iff_ne]; omega
          by_cases hov : 65535 < acc * 16 + (lo - 87)
          · rw [if_pos hov] at hdec
            have iov : 65535 < a * 16 + ((lo : Int) - 97 + 10) := by omega
            clear hacc hov ha hx hv l3
            go_wp2_with (first | (go_at_call 232; refine (HLOW.out _).mono ?_; rintro e w' ⟨rfl, rfl⟩) | fail)
            all_goals go_ret2
            all_goals first | exact ⟨rfl, rfl⟩ | exact ⟨by rw [hdec]; rfl, rfl⟩
          · rw [if_neg hov] at hdec
            have HN : Hid (a * 16 + ((lo : Int) - 97 + 10) = ((acc * 16 + (lo - 87) : Nat) : Int) ∧ acc * 16 + (lo - 87) ≤ 65535 ∧ hexM 0 bs = hexM (acc * 16 + (lo - 87)) (bs.drop (k + 1))) := Lib.hid ⟨by omega, by omega, hdec⟩
            have iov : a * 16 + ((lo : Int) - 97 + 10) ≤ 65535 := by omega
            clear hacc hov hdec ha hx hv l3
            go_wp2_with (first | (go_at_call 232; refine (HLOW.out _).mono ?_; rintro e w' ⟨rfl, rfl⟩) | fail)
            all_goals refine ⟨⟨k + 1, acc * 16 + (lo - 87), a * 16 + ((lo : Int) - 97 + 10), rfl, (by first | rfl | (congr 1; omega)), (by first | rfl | (congr 1; omega)), by omega, HN⟩, by simp [intOf]; omega⟩
        · rw [hexM_no hx] at hdec
          have l4 : ((c.toNat : Int) == 95) = false := by rw [beq_eq_false_iff_ne]; omega
          clear hacc ha hx l3
          go_wp2_with (first | (go_at_call 232; refine (HLOW.out _).mono ?_; rintro e w' ⟨rfl, rfl⟩) | fail)
          all_goals go_ret2
          all_goals first | exact ⟨rfl, rfl⟩ | exact ⟨by rw [hdec]; rfl, rfl⟩
        · rw [hexM_no hx] at hdec
          have l4 : ((c.toNat : Int) == 95) = false := by rw [beq_eq_false_iff_ne]; omega
          clear hacc ha hx l3
          go_wp2_with (first | (go_at_call 232; refine (HLOW.out _).mono ?_; rintro e w' ⟨rfl, rfl⟩) | fail)
          all_goals go_ret2
          all_goals first | exact ⟨rfl, rfl⟩ | exact ⟨by rw [hdec]; rfl, rfl⟩
        · rw [hexM_no hx] at hdec
          rcases (show ((c.toNat : Int) == 95) = true ∨ ((c.toNat : Int) == 95) = false by cases ((c.toNat : Int) == 95) <;> simp) with l4 | l4
          all_goals
            clear hacc ha hx
            go_wp2_with (first | (go_at_call 232; refine (HLOW.out _).mono ?_; rintro e w' ⟨rfl, rfl⟩) | fail)
            all_goals go_ret2
            all_goals first | exact ⟨rfl, rfl⟩ | exact ⟨by rw [hdec]; rfl, rfl⟩
    · have hkk : k = t.size := by omega
      subst hkk
      have hF : hexM acc (bs.drop t.size) = .ok acc := by rw [List.drop_eq_nil_of_le (by omega)]; rfl
      rw [hF] at hdec
      subst ha
      clear hacc hF a0 a1
      go_wp2
      go_ret2
      first | exact ⟨rfl, rfl⟩ | exact ⟨by rw [hdec]; rfl, rfl⟩
theorem var_err {w : World} {n : String} {tp : TypeId} {p : Value} (g : Nat) (hg : Tryz.prog.globalNamed n = some g) (h : w.var? Tryz.prog n = some #[.iface tp p]) : w.cell? ⟨g, 0, none⟩ = some (.iface tp p) := var_cell hg h
def hexO (l : List UInt8) : Option Nat := if l = [] then none else match hexM 0 l with | .ok n => some n | _ => none
theorem hexM_le : ∀ (l : List UInt8) (a n : Nat), a ≤ 65535 → hexM a l = .ok n → n ≤ 65535
  | [], a, n, h, e => by rw [hexM] at e; cases e; exact h
  | c :: r, a, n, h, e => by
    cases hd : isHex c with
    | false => rw [hexM_no hd] at e; cases e
    | true =>
      rw [hexM_hex hd] at e
      split at e
      · cases e
      · exact hexM_le r _ n (by omega) e
theorem hexO_le {l : List UInt8} {n : Nat} (h : hexO l = some n) : n ≤ 65535 := by
  unfold hexO at h
  split at h
  · cases h
  · split at h
    · rename_i m hm; cases h; exact hexM_le l 0 _ (by omega) hm
    · cases h
theorem hexO_grp (l : List UInt8) (h : l.length ≤ 4) : grpN l = hexO l := by
  unfold grpN hexO
  by_cases h0 : l = []
  · subst h0; simp
  · have hp : 16 ^ l.length ≤ 16 ^ 4 := Nat.pow_le_pow_right (by decide) h
    have h1 : 1 ≤ l.length := by cases l with | nil => exact absurd rfl h0 | cons => simp
    rw [if_neg h0, hexM_small l 0 (by omega)]
    by_cases hd : l.all isHex = true
    · rw [if_pos hd, if_pos ⟨h1, h, hd⟩]; rfl
    · rw [if_neg hd, if_neg (fun h => hd h.2.2)]
set_option maxHeartbeats 2000000 in
set_option maxRecDepth 100000 in
theorem pParse16 (s : ByteArray) (w : World) (hs : s.size ≤ 100) (he : Env w) : Calls Tryz.prog 204 #[.string s, .int .i64 16, .int .i64 16] w (ParseEnd (hexO s.data.toList) w) := by
  obtain ⟨tp, p, hv⟩ := he.syn
  obtain ⟨tp2, p2, hv2⟩ := he.rng
  have hc1 := var_err 6 gSyn hv
  have hc2 := var_err 7 gRng hv2
  clear hv hv2 he
  by_cases h0 : s.size = 0
  · obtain rfl := str_empty h0
    have HO : Hid (hexO (⟨#[]⟩ : ByteArray).data.toList = none) := rfl
    have HI := Lib.hid (Tryz.internal_strconv_ParseUint_empty 16 16 w)
    have HE := Lib.hid (Tryz.strconv_toError_syntax ⟨#[80, 97, 114, 115, 101, 85, 105, 110, 116]⟩ ⟨#[]⟩ 16 16 _ w (by decide) hc1 (Or.inr ⟨_, _, rfl⟩))
    go_enter Tryz.func204, Tryz.ntmps204
    go_wp2_with (first | (go_at_call 221; refine HI.out.mono ?_; rintro e w' ⟨rfl, rfl⟩; refine Hid.out ?_) | fail)
    refine Lib.hid ?_
    go_wp2_with (first | (go_at_call 222; refine HE.out.mono ?_; rintro e w' ⟨N, rfl, _, _, hb⟩; refine Hid.out ?_) | fail)
    refine Lib.hid ?_
    go_wp2
    go_ret2
    exact ⟨hb, Or.inr ⟨HO.out, _, _, _, rfl⟩⟩
  · have hl0 : s.data.toList ≠ [] := fun h => h0 (by rw [← str_len, h]; rfl)
    have HI := Lib.hid (pUint16 s h0 (by omega) w)
    have HB := Lib.hid (bytesWorld_below w s)
    have hb1 := bytesWorld_below w s
    have HO : Hid (hexO s.data.toList = match hexM 0 s.data.toList with | .ok n => some n | _ => none) := by show _ = _; unfold hexO; rw [if_neg hl0]
    have HC1 : Hid ((Lib.bytesWorld w 5 s).cell? ⟨6, 0, none⟩ = some (.iface tp p)) := (hb1.cell (p := ⟨6, 0, none⟩) (cell_lt hc1)).trans hc1
    have HC2 : Hid ((Lib.bytesWorld w 5 s).cell? ⟨7, 0, none⟩ = some (.iface tp2 p2)) := (hb1.cell (p := ⟨7, 0, none⟩) (cell_lt hc2)).trans hc2
    obtain ⟨W1, hW1⟩ : ∃ W1, W1 = Lib.bytesWorld w 5 s := ⟨_, rfl⟩
    rw [← hW1] at HB HC1 HC2
    have HI2 : Hid (Calls Tryz.prog 221 #[.string s, .int .i64 16, .int .i64 16] w fun e w' => e = .returned (Lib.uintTupleM 299 65535 (hexM 0 s.data.toList)) ∧ w' = W1) := by rw [hW1]; exact HI
    clear hb1 hc1 hc2 HI hW1
    cases hm : hexM 0 s.data.toList with
    | ok n =>
      rw [hm] at HI2 HO
      have HI3 : Hid (Calls Tryz.prog 221 #[.string s, .int .i64 16, .int .i64 16] w fun e w' => e = .returned (.tuple #[.int .u64 (n : Int), .nilIface]) ∧ w' = W1) := HI2.out
      clear hm HI2
      go_enter Tryz.func204, Tryz.ntmps204
      go_wp2_with (first | (go_at_call 221; refine HI3.out.mono ?_; rintro e w' ⟨rfl, rfl⟩; refine Hid.out ?_) | fail)
      refine Lib.hid ?_
      go_wp2
      go_ret2
      exact ⟨HB.out, Or.inl ⟨n, HO.out, rfl⟩⟩
    | «syntax» =>
      rw [hm] at HI2 HO
      have HI3 : Hid (Calls Tryz.prog 221 #[.string s, .int .i64 16, .int .i64 16] w fun e w' => e = .returned (.tuple #[.int .u64 0, .iface 299 (.int .i64 2)]) ∧ w' = W1) := HI2.out
      clear hm HI2
      have HE := Lib.hid (Tryz.strconv_toError_syntax ⟨#[80, 97, 114, 115, 101, 85, 105, 110, 116]⟩ s 16 16 _ W1 (by omega) HC1.out (Or.inr ⟨_, _, rfl⟩))
      go_enter Tryz.func204, Tryz.ntmps204
      go_wp2_with (first | (go_at_call 221; refine HI3.out.mono ?_; rintro e w' ⟨rfl, rfl⟩; refine Hid.out ?_) | fail)
      refine Lib.hid ?_
      go_wp2_with (first | (go_at_call 222; refine HE.out.mono ?_; rintro e w' ⟨N, rfl, _, _, hb⟩; refine Hid.out ?_) | fail)
      refine Lib.hid ?_
      go_wp2
      go_ret2
      exact ⟨HB.out.trans (hb.mono HB.out.size), Or.inr ⟨HO.out, _, _, _, rfl⟩⟩
    | range =>
      rw [hm] at HI2 HO
      have HI3 : Hid (Calls Tryz.prog 221 #[.string s, .int .i64 16, .int .i64 16] w fun e w' => e = .returned (.tuple #[.int .u64 65535, .iface 299 (.int .i64 1)]) ∧ w' = W1) := HI2.out
      clear hm HI2
      have HE := Lib.hid (Tryz.strconv_toError_range ⟨#[80, 97, 114, 115, 101, 85, 105, 110, 116]⟩ s 16 16 _ W1 (by omega) HC2.out (Or.inr ⟨_, _, rfl⟩))
      go_enter Tryz.func204, Tryz.ntmps204
      go_wp2_with (first | (go_at_call 221; refine HI3.out.mono ?_; rintro e w' ⟨rfl, rfl⟩; refine Hid.out ?_) | fail)
      refine Lib.hid ?_
      go_wp2_with (first | (go_at_call 222; refine HE.out.mono ?_; rintro e w' ⟨N, rfl, _, _, hb⟩; refine Hid.out ?_) | fail)
      refine Lib.hid ?_
      go_wp2
      go_ret2
      exact ⟨HB.out.trans (hb.mono HB.out.size), Or.inr ⟨HO.out, _, _, _, rfl⟩⟩
end Go.Proofs.YtnehgbpfgehhiaaGreatDoor.Cidr
