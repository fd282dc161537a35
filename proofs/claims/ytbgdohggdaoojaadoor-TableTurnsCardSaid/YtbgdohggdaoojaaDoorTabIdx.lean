/-
  TABLE, the program: strings.IndexRune, at a rune above 127, in blanks.
-/
import Derived.Test.YtbgdohggdaoojaaDoorTabPLib
import Derived.Laws.Runes
import Derived.Laws.RangeAny
import Derived.Lib.QuoteLoop
import Derived.Deep.CutBlock
import Derived.Deep.DeepCutAuto
import Derived.BigQuiet
import Derived.Deep.LoopGhost
namespace Go.Proofs.YtbgdohggdaoojaaDoor.Table
open Go.RowKit Base
theorem below_drew (w : World) (n : Nat) : Below w.heap.size w (w.drewN n) := ⟨rfl, rfl, rfl, Nat.le_refl _, fun _ _ => rfl⟩
def MinusEnd (w : World) (e : Ending) (w' : World) : Prop := e = .returned (.int .i64 (-1)) ∧ Below w.heap.size w w'
theorem idx_no {c : UInt8} (hc : 128 ≤ c.toNat) : ∀ (l : List UInt8), (∀ x ∈ l, x.toNat < 128) → Lib.indexByte l c = -1
  | [], _ => rfl
  | x :: r, h => by
    have h1 := h x List.mem_cons_self
    have h2 := idx_no hc r fun y hy => h y (List.mem_cons_of_mem _ hy)
    have h3 : (x == c) = false := beq_eq_false_iff_ne.2 (fun e => by subst e; omega)
    unfold Lib.indexByte
    rw [h3, h2]
    simp
set_option maxHeartbeats 4000000 in
set_option maxRecDepth 100000 in
theorem pHighV (s : ByteArray) (hs : s = ⟨#[32, 9]⟩) (r : Int) (w : World) (h1 : 128 ≤ r) (h2 : r ≠ 65533) (hv : Lib.validRune r = true) : Calls Tryd.prog 63 #[.string s, .int .i32 r] w (MinusEnd w) := by
  have hs3 : 2 ≤ s.size := by rw [hs]; exact Nat.le_refl 2
  have hs4 : s.size ≤ 2 := by rw [hs]; exact Nat.le_refl 2
  have hv2 : Utf8.valid r = true := by
    unfold Lib.validRune at hv
    have := of_decide_eq_true hv
    unfold Utf8.valid
    simp
    omega
  obtain ⟨es, hes⟩ : ∃ es, es = Utf8.encode r := ⟨_, rfl⟩
  have hcv : ∀ w1, (convert 21 9 (.int .i32 r)).run Tryd.prog w1 = .ok (.string es) w1 := fun w1 => by rw [hes]; exact run_convert_int_string w1 21 9 .i32 r (by rw [Tryd.underlying21]; rfl) Tryd.underlying9
  have HE : Hid (2 ≤ es.size ∧ es.size ≤ 4 ∧ ∀ h : es.size - 1 < es.size, 128 ≤ (es[es.size - 1]'h).toNat) := by rw [hes]; exact encode_facts r hv2 h1
  clear hes
  have i1 : ¬ r < 128 := by omega
  have i2 : (r == 65533) = false := by simp [h2]
  have HVR : Hid (∀ w1, Calls Tryd.prog 78 #[.int .i32 r] w1 fun e w' => e = .returned (.bool true) ∧ w' = w1) := fun w1 => by have := Tryd.utf8_ValidRune r w1; rw [hv] at this; exact this
  clear hv hv2
  obtain ⟨e1, e2, e3⟩ := HE.out
  obtain ⟨c, hc, hc0⟩ : ∃ c : UInt8, 128 ≤ c.toNat ∧ es[es.size - 1]'(by omega) = c := ⟨_, e3 (by omega), rfl⟩
  clear HE e3
  have hlst : es[((es.size : Int) - 1).toNat]'(by omega) = c := by
    have : ((es.size : Int) - 1).toNat = es.size - 1 := by omega
    simp only [this]; exact hc0
  clear hc0
  have HIB : Hid (∀ (a b : Nat) w1, Calls Tryd.prog 77 #[.string (s.extract a b), .int .u8 (c.toNat : Int)] w1 fun e w' => e = .returned (.int .i64 (-1)) ∧ w' = w1) := fun a b w1 => (Tryd.strings_IndexByte _ _ w1).mono fun e w' ⟨he, hw⟩ => ⟨by
    rw [he]
    have hh := idx_no (c := c) hc ((s.extract a b).data.toList) (fun x hx => by
      have hx2 := mem_extract hx
      rw [hs] at hx2
      simp at hx2
      rcases hx2 with rfl | rfl <;> decide)
    have hb : ((c.toNat : Int)).toNat.toUInt8 = c := by simp
    rw [hb, hh], hw⟩
  have HS := Lib.hid hs
  clear hs h1 h2
  go_enter Tryd.func63, Tryd.ntmps63
  go_upto_region 2 with (first | (go_at_call 78; refine (HVR.out _).mono ?_; rintro e w1 ⟨rfl, rfl⟩) | fail)
  refine wp_scope_fwd fun F hF => ?_
  clear hF
  go_wp2
  refine wp_loop_once ?_
  by_cases hz : es.size = 2
  · have i5 : decide ((es.size : Int) - 1 < (s.size : Int)) = true := decide_eq_true (by omega)
    have e3 : es.size ≤ 2 := by omega
    clear hz
    have i6 : (s[((es.size : Int) - 1).toNat]'(by omega)) = 9 := by
      have : ((es.size : Int) - 1).toNat = 1 := by omega
      have hs := HS.out
      subst hs
      simp only [this]; rfl
    have i7 : ¬ ((9 : Int) = (c.toNat : Int)) := by omega
    have i8 : (0 : Int) ≤ (es.size : Int) - 1 := by omega
    have i9 : ((es.size : Int) - 1).toNat < es.size := by omega
    have i10 : ((es.size : Int) - 1).toNat < s.size := by omega
    have i11 : (0 : Int) ≤ (es.size : Int) - 1 + 1 := by omega
    have i12 : (es.size : Int) - 1 + 1 ≤ (s.size : Int) := by omega
    clear HS
    have j1 : ∀ w1 : World, (Instr.index 9 (.string s) (.int .i64 ((es.size : Int) - 1))).run Tryd.prog w1 = .ok (.int .u8 9) w1 := fun w1 => by
      rw [run_index_string w1 9 s .i64 _ Tryd.underlying9, dif_pos ⟨i8, by omega⟩, i6]; rfl
    have j2 : ∀ w1 : World, (Instr.index 9 (.string es) (.int .i64 ((es.size : Int) - 1))).run Tryd.prog w1 = .ok (.int .u8 (c.toNat : Int)) w1 := fun w1 => by
      rw [run_index_string w1 9 es .i64 _ Tryd.underlying9, dif_pos ⟨i8, by omega⟩, hlst]
    have j3 : (1 : Int) ≤ (es.size : Int) := by omega
    have j4 : (es.size : Int) - 1 < (s.size : Int) := by omega
    have j5 : (es.size : Int) - 1 < (es.size : Int) := by omega
    have j6 : IntKind.i64.wrap (es.size : Int) = (es.size : Int) := wrap_small _ (by omega) (by omega)
    have j7 : (es.size : Int) ≤ (s.size : Int) := by omega
    have j8 : es.size ≤ s.size := by omega
    clear i6 hlst
    go_wp2
    refine wp_scope_fwd fun F2 hF2 => ?_
    clear hF2
    go_wp2
    go_quiet (fail)
    go_wp2
    go_quiet ((exact (HIB.out _ _ _).mono fun _ _ h => ⟨h.1, _, h.2⟩))
    go_wp2
    rw [Exit.fwd_ret]
    exact bodyPost_ret (v := .int .i64 (-1)) (by simp [results, Tryd.results63, go_sem]) rfl ⟨rfl, below_drew _ _⟩
  · have i5 : decide ((es.size : Int) - 1 < (s.size : Int)) = false := decide_eq_false (by omega)
    clear hlst HIB
    go_wp2
    rw [Exit.fwd_ret]
    exact bodyPost_ret (v := .int .i64 (-1)) (by simp [results, Tryd.results63, go_sem]) rfl ⟨rfl, Below.refl _ _⟩
set_option maxHeartbeats 4000000 in
set_option maxRecDepth 100000 in
theorem pHighI (s : ByteArray) (r : Int) (w : World) (h1 : 128 ≤ r) (h2 : r ≠ 65533) (hv : Lib.validRune r = false) : Calls Tryd.prog 63 #[.string s, .int .i32 r] w (MinusEnd w) := by
  have i1 : ¬ r < 128 := by omega
  have i2 : (r == 65533) = false := by simp [h2]
  have HVR : Hid (∀ w1, Calls Tryd.prog 78 #[.int .i32 r] w1 fun e w' => e = .returned (.bool false) ∧ w' = w1) := fun w1 => by have := Tryd.utf8_ValidRune r w1; rw [hv] at this; exact this
  clear hv h1 h2
  go_enter Tryd.func63, Tryd.ntmps63
  go_wp2_with (first | (go_at_call 78; refine (HVR.out _).mono ?_; rintro e w1 ⟨rfl, rfl⟩) | fail)
  go_ret
  exact ⟨rfl, Below.refl _ _⟩
set_option maxHeartbeats 4000000 in
set_option maxRecDepth 100000 in
theorem pHighE (s : ByteArray) (w : World) (hascii : ∀ (j : Nat) b, s.data.toList[j]? = some b → b.toNat < 128) : Calls Tryd.prog 63 #[.string s, .int .i32 65533] w (MinusEnd w) := by
  have HA : Hid (∀ (j : Nat) b, s.data.toList[j]? = some b → b.toNat < 128) := hascii
  clear hascii
  go_enter Tryd.func63, Tryd.ntmps63
  go_wp2
  go_loopg [5, 6] s.size (fun g _ _ wx => ∃ i : Nat, i + g = s.size ∧ wx = w.iter s i)
  case atStart => exact ⟨0, by omega, rfl⟩
  case round =>
    obtain ⟨i, hig, rfl⟩ := hrel
    cases gk with
    | zero =>
      obtain rfl : i = s.size := by omega
      have hnx := run_next_end (P := Tryd.prog) w s s.size
      go_wp2
      go_ret
      exact ⟨rfl, Below.alloc1 _ _⟩
    | succ g =>
      have hi : i < s.size := by omega
      obtain ⟨x, hx⟩ : ∃ x : UInt8, s[i]'hi = x := ⟨_, rfl⟩
      have hxl : s.data.toList[i]? = some x := by rw [← hx]; exact Lib.data_getElem? s i hi
      have hx128 : x.toNat < 128 := HA.out i x hxl
      have hnx := fun ty => run_next_ascii (P := Tryd.prog) w s i ty hi (by rw [hx]; exact hx128)
      rw [hx] at hnx
      clear hxl hx
      have hne : ((x.toNat : Int) == 65533) = false := beq_eq_false_iff_ne.2 (by omega)
      go_wp2
      go_roundg g
      case measure => omega
      case rel => exact ⟨i + 1, by omega, rfl⟩
/-- A rune above 127 is no blank. -/
theorem pHigh (r : Int) (w : World) (h1 : 128 ≤ r) : Calls Tryd.prog 63 #[.string ⟨#[32, 9]⟩, .int .i32 r] w (MinusEnd w) := by
  by_cases h2 : r = 65533
  · rw [h2]; exact pHighE _ w asc
  · cases hv : Lib.validRune r
    · exact pHighI _ r w h1 h2 hv
    · exact pHighV _ rfl r w h1 h2 hv
end Go.Proofs.YtbgdohggdaoojaaDoor.Table
