/-
  CODEC: the readers of eight digits.
-/
import Derived.Test.YthoeicidilnleaaDoorCodecHex
import Derived.Test.YthoeicidilnleaaDoorShelf
namespace Go.Proofs.YthoeicidilnleaaDoor.Codec
open Go.RowKit

/-- A digit's number. -/
def hexVal (c : Nat) : Option Nat := if 48 ≤ c ∧ c ≤ 57 then some (c - 48) else if 97 ≤ c ∧ c ≤ 102 then some (c - 87) else none
def hexFrom : List UInt8 → Nat → Option Nat
  | [], n => some n
  | c :: r, n => match hexVal c.toNat with
    | none => none
    | some d => hexFrom r (16 * n + d)
def takeHex (l : List UInt8) : Nat × Int := if l.length < 8 then (0, 20) else match hexFrom (l.take 8) 0 with
  | none => (0, 21)
  | some n => (n, 0)
theorem index_hex_fin : ∀ c, c < 256 → Lib.indexByte [48, 49, 50, 51, 52, 53, 54, 55, 56, 57, 97, 98, 99, 100, 101, 102] (UInt8.ofNat c) = (match hexVal c with | none => -1 | some d => (d : Int)) := by decide +kernel
theorem hexVal_lt {c d : Nat} (h : hexVal c = some d) : d < 16 := by
  unfold hexVal at h; split at h
  · simp at h; omega
  · split at h
    · simp at h; omega
    · simp at h
theorem or16 {N D : Nat} (hN : N < 268435456) (hD : D < 16) : bits .or .u32 ((N : Int) * 16) (D : Int) = ((16 * N + D : Nat) : Int) := by
  have := u32_or_nat (N * 16) D (by omega) (by omega)
  have e : N * 16 ||| D = 16 * N + D := by
    have := Nat.shiftLeft_add_eq_or_of_lt (i := 4) (b := D) (by omega) N
    rw [Nat.shiftLeft_eq, show (2 : Nat) ^ 4 = 16 from rfl] at this
    omega
  rw [e] at this
  exact this
def HexEnd (r : Nat × Int) (w : World) (e : Ending) (w' : World) : Prop := e = .returned (.tuple #[.int .u32 (r.1 : Int), .int .i64 r.2]) ∧ w = w'
theorem hex_round {l : List UInt8} {k : Nat} (hk : k < l.length) (h8 : k < 8) (N : Nat) :
    hexFrom ((l.take 8).drop k) N = match hexVal (l.getD k 0).toNat with | none => none | some d => hexFrom ((l.take 8).drop (k + 1)) (16 * N + d) := by
  have h : k < (l.take 8).length := by simp; omega
  have hx : (l.take 8)[k] = l.getD k 0 := by simp [List.getD, List.getElem?_eq_getElem hk]
  rw [List.drop_eq_getElem_cons h, hexFrom, hx]

set_option maxHeartbeats 400000 in
set_option maxRecDepth 100000 in
theorem cTakeHex_any (b o cap : Nat) (l : List UInt8) (w : World) (h8 : 8 ≤ l.length) (hcap : l.length ≤ cap) (hl : l.length ≤ 200000000000000)
    (hc : ∀ i, i < l.length → w.cell? ⟨b, o + i, none⟩ = some (.int .u8 ((l.getD i 0).toNat : Int))) :
    Calls Tryd.prog 57 #[.slice (some ⟨b, o, none⟩) l.length cap] w (HexEnd (takeHex l) w) := by
  obtain ⟨out, hout⟩ : ∃ out, out = takeHex l := ⟨_, rfl⟩
  have hres : out = match hexFrom (l.take 8) 0 with | none => (0, 21) | some n => (n, 0) := by rw [hout, takeHex, if_neg (by omega)]
  have HO := Lib.hid hres
  rw [← hout]
  clear hout hres
  go_enter Tryd.func57, Tryd.ntmps57
  go_wp2
  go_loop [4, 14] (fun n i => ∃ (k N : Nat), k ≤ 8 ∧ i = .int .i64 k ∧ n = .int .u32 N ∧ N < 16 ^ k ∧ Hid (hexFrom (l.take 8) 0 = hexFrom ((l.take 8).drop k) N)) (fun _ i => 8 - (intOf i).toNat)
  case atStart => exact ⟨0, 0, by omega, rfl, rfl, by omega, rfl⟩
  case round =>
    obtain ⟨k, N, hk, rfl, rfl, hN, hrun⟩ := hrel
    by_cases hlt : k < 8
    · have hcell := hc k (by omega)
      have hr := hex_round (l := l) (k := k) (by omega) hlt N
      obtain ⟨c, hce⟩ : ∃ c : Nat, c = (l.getD k 0).toNat := ⟨_, rfl⟩
      rw [← hce] at hcell hr
      have hcb : c < 256 := by rw [hce]; have := (l.getD k 0).toNat_lt; omega
      have hix := index_hex_fin c hcb
      have hNb : N < 268435456 := by
        have : (16 : Nat) ^ k ≤ 16 ^ 7 := Nat.pow_le_pow_right (by omega) (by omega)
        have e2 : (16 : Nat) ^ 7 = 268435456 := by decide
        omega
      clear hc hce
      have hcall := Tryd.strings_IndexByte ⟨#[48, 49, 50, 51, 52, 53, 54, 55, 56, 57, 97, 98, 99, 100, 101, 102]⟩ c w
      have ec : ((c : Int).toNat).toUInt8 = UInt8.ofNat c := by simp
      rw [ec] at hcall
      cases hv : hexVal c with
      | none =>
        rw [hv] at hix hr
        dsimp only at hix hr
        have hcall2 : Calls Tryd.prog 66 #[.string ⟨#[48, 49, 50, 51, 52, 53, 54, 55, 56, 57, 97, 98, 99, 100, 101, 102]⟩, .int .u8 c] w fun e w' => e = .returned (.int .i64 (-1)) ∧ w = w' := hcall.mono fun e w' h => ⟨by rw [h.1, hix], h.2.symm⟩
        have HC := Lib.hid hcall2
        have HF : Hid (out = (0, 21)) := by unfold Hid; rw [HO.out, hrun.out, hr]
        clear hcall hcall2 hix hr hv ec hN hrun
        go_wp2_with (go_at_call 66; refine HC.out.mono ?_; rintro e w' ⟨rfl, rfl⟩)
        go_ret2
        rw [HF.out]
        exact ⟨rfl, rfl⟩
      | some d =>
        have hd := hexVal_lt hv
        rw [hv] at hix hr
        dsimp only at hix hr
        have hcall2 : Calls Tryd.prog 66 #[.string ⟨#[48, 49, 50, 51, 52, 53, 54, 55, 56, 57, 97, 98, 99, 100, 101, 102]⟩, .int .u8 c] w fun e w' => e = .returned (.int .i64 d) ∧ w = w' := hcall.mono fun e w' h => ⟨by rw [h.1, hix], h.2.symm⟩
        have HC := Lib.hid hcall2
        have hor := or16 hNb hd
        have HF : Hid (hexFrom (l.take 8) 0 = hexFrom ((l.take 8).drop (k + 1)) (16 * N + d)) := by unfold Hid; rw [hrun.out, hr]
        have HP : Hid (16 * N + d < 16 ^ (k + 1)) := by unfold Hid; rw [Nat.pow_succ]; omega
        clear hcall hcall2 hix hr hv ec hN hrun
        go_wp2_with (go_at_call 66; refine HC.out.mono ?_; rintro e w' ⟨rfl, rfl⟩)
        go_round
        case rel => exact ⟨k + 1, 16 * N + d, by omega, by go_num, by go_num, HP.out, HF.out⟩
        case measure => simp [intOf]; omega
    · obtain rfl : k = 8 := by omega
      have HF : Hid (out = (N, 0)) := by unfold Hid; rw [HO.out, hrun.out, List.drop_eq_nil_of_le (by simp; omega)]; rfl
      clear hN hrun hc
      go_wp2
      go_ret2
      rw [HF.out]
      exact ⟨rfl, rfl⟩

set_option maxHeartbeats 400000 in
set_option maxRecDepth 100000 in
theorem rTakeHex_any (b o cap : Nat) (l : List UInt8) (w : World) (h8 : 8 ≤ l.length) (hl : l.length ≤ 200000000000000)
    (hc : ∀ i, i < l.length → w.cell? ⟨b, o + i, none⟩ = some (.int .u8 ((l.getD i 0).toNat : Int))) :
    Calls Tryd.prog 39 #[.slice (some ⟨b, o, none⟩) l.length cap] w (HexEnd (takeHex l) w) := by
  obtain ⟨out, hout⟩ : ∃ out, out = takeHex l := ⟨_, rfl⟩
  have hres : out = match hexFrom (l.take 8) 0 with | none => (0, 21) | some n => (n, 0) := by rw [hout, takeHex, if_neg (by omega)]
  have HO := Lib.hid hres
  rw [← hout]
  clear hout hres
  go_enter Tryd.func39, Tryd.ntmps39
  go_wp2
  go_loop [4, 5] (fun n i => ∃ (k N : Nat), k ≤ 8 ∧ i = .int .i64 k ∧ n = .int .u32 N ∧ N < 16 ^ k ∧ Hid (hexFrom (l.take 8) 0 = hexFrom ((l.take 8).drop k) N)) (fun _ i => 8 - (intOf i).toNat)
  case atStart => exact ⟨0, 0, by omega, rfl, rfl, by omega, rfl⟩
  case round =>
    obtain ⟨k, N, hk, rfl, rfl, hN, hrun⟩ := hrel
    by_cases hlt : k < 8
    · have hcell := hc k (by omega)
      have hr := hex_round (l := l) (k := k) (by omega) hlt N
      obtain ⟨c, hce⟩ : ∃ c : Nat, c = (l.getD k 0).toNat := ⟨_, rfl⟩
      rw [← hce] at hcell hr
      have hcb : c < 256 := by rw [hce]; have := (l.getD k 0).toNat_lt; omega
      have hNb : N < 268435456 := by
        have : (16 : Nat) ^ k ≤ 16 ^ 7 := Nat.pow_le_pow_right (by omega) (by omega)
        have e2 : (16 : Nat) ^ 7 = 268435456 := by decide
        omega
      clear hc hce
      by_cases hA : 48 ≤ c ∧ c ≤ 57
      · have hv : hexVal c = some (c - 48) := by unfold hexVal; rw [if_pos hA]
        rw [hv] at hr
        have HF : Hid (hexFrom (l.take 8) 0 = hexFrom ((l.take 8).drop (k + 1)) (16 * N + (c - 48))) := by unfold Hid; rw [hrun.out, hr]
        have HP : Hid (16 * N + (c - 48) < 16 ^ (k + 1)) := by unfold Hid; rw [Nat.pow_succ]; omega
        obtain ⟨hA1, hA2⟩ := hA
        clear hr hv hN hrun
        go_wp2
        go_round
        case rel => exact ⟨k + 1, 16 * N + (c - 48), by omega, by go_num, by congr 1; omega, HP.out, HF.out⟩
        case measure => simp [intOf]; omega
      · by_cases hB : 97 ≤ c ∧ c ≤ 102
        · have hv : hexVal c = some (c - 87) := by unfold hexVal; rw [if_neg hA, if_pos hB]
          rw [hv] at hr
          have HF : Hid (hexFrom (l.take 8) 0 = hexFrom ((l.take 8).drop (k + 1)) (16 * N + (c - 87))) := by unfold Hid; rw [hrun.out, hr]
          have HP : Hid (16 * N + (c - 87) < 16 ^ (k + 1)) := by unfold Hid; rw [Nat.pow_succ]; omega
          obtain ⟨hA1, hA2⟩ := hB
          clear hr hv hN hrun hA
          go_wp2
          go_round
          case rel => exact ⟨k + 1, 16 * N + (c - 87), by omega, by go_num, by congr 1; omega, HP.out, HF.out⟩
          case measure => simp [intOf]; omega
        · have hv : hexVal c = none := by unfold hexVal; rw [if_neg hA, if_neg hB]
          rw [hv] at hr
          have HF : Hid (out = (0, 21)) := by unfold Hid; rw [HO.out, hrun.out, hr]
          clear hr hv hN hrun
          rcases (show c < 48 ∨ (57 < c ∧ c < 97) ∨ 102 < c by omega) with h | ⟨h, h'⟩ | h
          all_goals
            clear hA hB
            go_wp2
            go_ret2
            rw [HF.out]
            exact ⟨rfl, rfl⟩
    · obtain rfl : k = 8 := by omega
      have HF : Hid (out = (N, 0)) := by unfold Hid; rw [HO.out, hrun.out, List.drop_eq_nil_of_le (by simp; omega)]; rfl
      clear hN hrun hc
      go_wp2
      go_ret2
      rw [HF.out]
      exact ⟨rfl, rfl⟩
theorem cTakeHex_short (a : Option Addr) (n cap : Nat) (w : World) (h : n < 8) : Calls Tryd.prog 57 #[.slice a n cap] w (HexEnd (0, 20) w) := by
  go_enter Tryd.func57, Tryd.ntmps57
  go_wp2
  go_ret2
  exact ⟨rfl, rfl⟩
theorem rTakeHex_short (a : Option Addr) (n cap : Nat) (w : World) (h : n < 8) : Calls Tryd.prog 39 #[.slice a n cap] w (HexEnd (0, 20) w) := by
  go_enter Tryd.func39, Tryd.ntmps39
  go_wp2
  go_ret2
  exact ⟨rfl, rfl⟩
theorem cTakeHex (v : Value) (l : List UInt8) (w : World) (h : Reads w v l) (hl : l.length ≤ 200000000000000) : Calls Tryd.prog 57 #[v] w (HexEnd (takeHex l) w) := by
  by_cases h8 : l.length < 8
  · have e : takeHex l = (0, 20) := by unfold takeHex; rw [if_pos h8]
    rw [e]
    rcases h with ⟨rfl, a, c, rfl, _⟩ | ⟨b, o, c, rfl, _, _⟩
    · exact cTakeHex_short a 0 c w (by omega)
    · exact cTakeHex_short _ _ c w h8
  · rcases h with ⟨rfl, a, c, rfl, _⟩ | ⟨b, o, c, rfl, hcap, hc⟩
    · simp at h8
    · exact cTakeHex_any b o c l w (by omega) hcap hl hc
theorem rTakeHex (v : Value) (l : List UInt8) (w : World) (h : Reads w v l) (hl : l.length ≤ 200000000000000) : Calls Tryd.prog 39 #[v] w (HexEnd (takeHex l) w) := by
  by_cases h8 : l.length < 8
  · have e : takeHex l = (0, 20) := by unfold takeHex; rw [if_pos h8]
    rw [e]
    rcases h with ⟨rfl, a, c, rfl, _⟩ | ⟨b, o, c, rfl, _, _⟩
    · exact rTakeHex_short a 0 c w (by omega)
    · exact rTakeHex_short _ _ c w h8
  · rcases h with ⟨rfl, a, c, rfl, _⟩ | ⟨b, o, c, rfl, hcap, hc⟩
    · simp at h8
    · exact rTakeHex_any b o c l w (by omega) hl hc
end Go.Proofs.YthoeicidilnleaaDoor.Codec
