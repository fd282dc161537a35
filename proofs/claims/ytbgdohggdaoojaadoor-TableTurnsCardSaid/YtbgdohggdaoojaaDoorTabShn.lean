/-
  TABLE, the statement's own: what a table of three answers.
-/
import Derived.Test.YtbgdohggdaoojaaDoorTabSm
namespace Go.Proofs.YtbgdohggdaoojaaDoor.Table
open Go.RowKit Base
def lit1 : List UInt8 := [97, 32, 98, 10, 32, 32, 99, 10, 35, 32, 120, 10, 46, 69, 120, 97, 109, 112, 108, 101, 46, 111, 114, 103, 32, 32, 32, 115, 109, 116, 112, 58, 91, 104, 93, 10, 64, 120, 32, 121]
def kDot : List UInt8 := [46, 101, 120, 97, 109, 112, 108, 101, 46, 111, 114, 103]
def vSm : List UInt8 := [115, 109, 116, 112, 58, 91, 104, 93]
def T3 : List KV := [(kDot, vSm), ([64, 120], [121]), ([97], [98, 32, 99])]
theorem f_lit1 : (parseOf lit1).1 = T3 ∧ (parseOf lit1).2.1 = 0 := by decide
theorem f_lit2 : (parseOf [32, 97, 32, 98]).2 = (61, 0) := by decide
theorem f_lit3 : (parseOf [97, 32, 98, 10, 97, 32, 99]).2 = (63, 4) := by decide
theorem f_a1 : domA T3 [109, 97, 105, 108, 46, 69, 88, 65, 77, 80, 76, 69, 46, 111, 114, 103] = (vSm, true) := by decide
theorem f_a2 : (domA T3 [101, 120, 97, 109, 112, 108, 101, 46, 111, 114, 103]).2 = false := by decide
theorem f_a3 : addrA T3 [113] [120] = ([121], true) := by decide
theorem f_a4 : exactA T3 [65] = ([98, 32, 99], true) := by decide
/-- What the reader answers, where there is a table. -/
theorem pParseYes (s : ByteArray) (T : List KV) (w : World) (hm : MaxOk w) (h : (parseOf s.data.toList).1 = T ∧ (parseOf s.data.toList).2.1 = 0) :
    Calls Tryd.prog 8 #[.string s] w fun e w' => ∃ b, e = .returned (.tuple #[.pointer (some ⟨b, 0, none⟩), .agg #[.int .i64 0, .int .i64 0]]) ∧ TabAt 82 w' b T ∧ Below w.heap.size w w' := by
  refine (pParse idxOk s w hm).mono fun e w' hh => ?_
  rcases hh with ⟨h1, ⟨h2, b, h3, h4⟩ | ⟨h2, _⟩⟩
  · exact ⟨b, h3, h.1 ▸ h4.at, h1⟩
  · exact absurd h.2 h2
theorem pParseNo (s : ByteArray) (f : Nat × Nat) (w : World) (hm : MaxOk w) (h : (parseOf s.data.toList).2 = f) (h0 : f.1 ≠ 0) :
    Calls Tryd.prog 8 #[.string s] w fun e w' => e = .returned (.tuple #[.pointer none, .agg #[.int .i64 (f.1 : Int), .int .i64 (f.2 : Int)]]) ∧ Below w.heap.size w w' := by
  refine (pParse idxOk s w hm).mono fun e w' hh => ?_
  rcases hh with ⟨h1, ⟨h2, _⟩ | ⟨h2, h3⟩⟩
  · rw [h] at h2; exact absurd h2 h0
  · rw [h] at h3; exact ⟨h3, h1⟩
set_option maxHeartbeats 8000000 in
set_option maxRecDepth 100000 in
theorem pShown (w : World) (hm : MaxOk w) : Calls Tryd.prog 6 #[] w fun e w' => e = .returned (.bool true) ∧ Below w.heap.size w w' := by
  have HP1 := Lib.hid (pParseYes ⟨lit1.toArray⟩ T3 w hm f_lit1)
  unfold lit1 at HP1
  have HAL : Hid (∀ w1 b, TabAt 82 w1 b T3 → Calls Tryd.prog 9 #[.pointer (some ⟨b, 0, none⟩)] w1 (fun e w' => e = .returned (.int .i64 3) ∧ w1 = w')) := fun w1 b h => pLen b T3 w1 h
  have HAS : Hid (∀ w1 b, TabAt 82 w1 b T3 → Asks 21 b T3 w1) := fun w1 b h => pAsks h (parse_good lit1 f_lit1.2 |>.rise |> (f_lit1.1 ▸ ·)) (parse_good lit1 f_lit1.2 |>.short |> (f_lit1.1 ▸ ·)) (by decide)
  have HA1 : Hid (∀ w1 b, TabAt 82 w1 b T3 → Calls Tryd.prog 19 #[.pointer (some ⟨b, 0, none⟩), .string ⟨#[109, 97, 105, 108, 46, 69, 88, 65, 77, 80, 76, 69, 46, 111, 114, 103]⟩] w1 fun e w' => e = .returned (.tuple #[.string ⟨#[115, 109, 116, 112, 58, 91, 104, 93]⟩, .bool true]) ∧ Below w1.heap.size w1 w') := fun w1 b h => by
    have := pDomain b T3 ⟨#[109, 97, 105, 108, 46, 69, 88, 65, 77, 80, 76, 69, 46, 111, 114, 103]⟩ w1 (HAS.out w1 b h) (by decide)
    rw [show domA T3 (⟨#[109, 97, 105, 108, 46, 69, 88, 65, 77, 80, 76, 69, 46, 111, 114, 103]⟩ : ByteArray).data.toList = (vSm, true) from f_a1] at this
    exact this
  have HA2 : Hid (∀ w1 b, TabAt 82 w1 b T3 → Calls Tryd.prog 19 #[.pointer (some ⟨b, 0, none⟩), .string ⟨#[101, 120, 97, 109, 112, 108, 101, 46, 111, 114, 103]⟩] w1 fun e w' => e = .returned (.tuple #[S (domA T3 [101, 120, 97, 109, 112, 108, 101, 46, 111, 114, 103]).1, .bool false]) ∧ Below w1.heap.size w1 w') := fun w1 b h => by
    have := pDomain b T3 ⟨#[101, 120, 97, 109, 112, 108, 101, 46, 111, 114, 103]⟩ w1 (HAS.out w1 b h) (by decide)
    exact ans_form this f_a2
  have HA3 : Hid (∀ w1 b, TabAt 82 w1 b T3 → Calls Tryd.prog 20 #[.pointer (some ⟨b, 0, none⟩), .string ⟨#[113]⟩, .string ⟨#[120]⟩] w1 fun e w' => e = .returned (.tuple #[.string ⟨#[121]⟩, .bool true]) ∧ Below w1.heap.size w1 w') := fun w1 b h => by
    have := pAddress b T3 ⟨#[113]⟩ ⟨#[120]⟩ w1 (HAS.out w1 b h) (by decide) (by decide)
    rw [show addrA T3 (⟨#[113]⟩ : ByteArray).data.toList (⟨#[120]⟩ : ByteArray).data.toList = ([121], true) from f_a3] at this
    exact this
  have HA4 : Hid (∀ w1 b, TabAt 82 w1 b T3 → Calls Tryd.prog 21 #[.pointer (some ⟨b, 0, none⟩), .string ⟨#[65]⟩] w1 fun e w' => e = .returned (.tuple #[.string ⟨#[98, 32, 99]⟩, .bool true]) ∧ Below w1.heap.size w1 w') := fun w1 b h => by
    have := HAS.out w1 b h w1 ⟨#[65]⟩ (Below.refl _ _) (by decide)
    rw [show exactA T3 (⟨#[65]⟩ : ByteArray).data.toList = ([98, 32, 99], true) from f_a4] at this
    exact this
  have HA5 : Hid (∀ w1 b, TabAt 82 w1 b T3 → Calls Tryd.prog 10 #[.pointer (some ⟨b, 0, none⟩), .int .i64 0] w1 fun e w' => e = .returned (.tuple #[.string ⟨#[46, 101, 120, 97, 109, 112, 108, 101, 46, 111, 114, 103]⟩, .string ⟨#[115, 109, 116, 112, 58, 91, 104, 93]⟩, .bool true]) ∧ Below w1.heap.size w1 w') := fun w1 b h => pAt b T3 0 (kDot, vSm) w1 h rfl (by decide)
  have HN1 : Hid (∀ w1, Below w.heap.size w w1 → Calls Tryd.prog 8 #[.string ⟨#[32, 97, 32, 98]⟩] w1 fun e w' => e = .returned (.tuple #[.pointer none, .agg #[.int .i64 61, .int .i64 0]]) ∧ Below w1.heap.size w1 w') := fun w1 h => pParseNo ⟨#[32, 97, 32, 98]⟩ (61, 0) w1 (hm.on h) f_lit2 (by decide)
  have HN2 : Hid (∀ w1, Below w.heap.size w w1 → Calls Tryd.prog 8 #[.string ⟨#[97, 32, 98, 10, 97, 32, 99]⟩] w1 fun e w' => e = .returned (.tuple #[.pointer none, .agg #[.int .i64 63, .int .i64 4]]) ∧ Below w1.heap.size w1 w') := fun w1 h => pParseNo ⟨#[97, 32, 98, 10, 97, 32, 99]⟩ (63, 4) w1 (hm.on h) f_lit3 (by decide)
  generalize (domA T3 [101, 120, 97, 109, 112, 108, 101, 46, 111, 114, 103]).1 = other at HA2
  clear hm HAS
  go_enter Tryd.func6, Tryd.ntmps6
  go_wp2_with (first | (go_at_call 8; refine HP1.out.mono ?_; rintro e w1 ⟨b, rfl, ht1, hb1⟩; refine Hid.out ?_) | fail)
  refine Lib.hid ?_
  have HT := Lib.hid (show TabAt 82 (w1.alloc (.cells #[.int .i64 0, .int .i64 0] 27)) b T3 from ht1.on (Below.alloc1 _ _))
  have HB := Lib.hid (show Below w.heap.size w (w1.alloc (.cells #[.int .i64 0, .int .i64 0] 27)) from hb1.trans ((Below.alloc1 w1 _).mono hb1.size))
  clear ht1 hb1 HP1
  go_wp2_with (first | (go_at_call 9; refine (HAL.out _ _ HT.out).mono ?_; rintro e w2 ⟨rfl, rfl⟩; refine Hid.out ?_) | fail)
  refine Lib.hid ?_
  revert HT HB
  generalize w1.alloc (.cells #[.int .i64 0, .int .i64 0] 27) = w2
  intro HT HB
  go_wp2_with (first | (go_at_call 19; refine (HA1.out _ _ HT.out).mono ?_; rintro e w3 ⟨rfl, hb3⟩; refine Hid.out ?_) | fail)
  refine Lib.hid ?_
  have HT3 := Lib.hid (HT.out.on hb3)
  have HB3 := Lib.hid (HB.out.trans (hb3.mono HB.out.size))
  clear hb3 HT HB HA1
  go_wp2_with (first | (go_at_call 19; refine (HA2.out _ _ HT3.out).mono ?_; rintro e w4 ⟨rfl, hb4⟩; refine Hid.out ?_) | fail)
  refine Lib.hid ?_
  have HT4 := Lib.hid (HT3.out.on hb4)
  have HB4 := Lib.hid (HB3.out.trans (hb4.mono HB3.out.size))
  clear hb4 HT3 HB3 HA2
  go_wp2_with (first | (go_at_call 20; refine (HA3.out _ _ HT4.out).mono ?_; rintro e w5 ⟨rfl, hb5⟩; refine Hid.out ?_) | fail)
  refine Lib.hid ?_
  have HT5 := Lib.hid (HT4.out.on hb5)
  have HB5 := Lib.hid (HB4.out.trans (hb5.mono HB4.out.size))
  clear hb5 HT4 HB4 HA3
  go_wp2_with (first | (go_at_call 21; refine (HA4.out _ _ HT5.out).mono ?_; rintro e w6 ⟨rfl, hb6⟩; refine Hid.out ?_) | fail)
  refine Lib.hid ?_
  have HT6 := Lib.hid (HT5.out.on hb6)
  have HB6 := Lib.hid (HB5.out.trans (hb6.mono HB5.out.size))
  clear hb6 HT5 HB5 HA4
  go_wp2_with (first | (go_at_call 10; refine (HA5.out _ _ HT6.out).mono ?_; rintro e w7 ⟨rfl, hb7⟩; refine Hid.out ?_) | fail)
  refine Lib.hid ?_
  have HB7 := Lib.hid (HB6.out.trans (hb7.mono HB6.out.size))
  clear hb7 HT6 HB6 HA5
  go_wp2_with (first | (go_at_call 8; refine (HN1.out _ HB7.out).mono ?_; rintro e w8 ⟨rfl, hb8⟩; refine Hid.out ?_) | fail)
  refine Lib.hid ?_
  have HB8 := Lib.hid (HB7.out.trans (hb8.mono HB7.out.size))
  clear hb8 HB7 HN1
  have HB9 : Hid (Below w.heap.size w (w8.alloc (.cells #[.int .i64 61, .int .i64 0] 27))) := HB8.out.trans ((Below.alloc1 w8 _).mono HB8.out.size)
  go_wp2_with (first | (go_at_call 8; refine (HN2.out _ HB9.out).mono ?_; rintro e w10 ⟨rfl, hb10⟩; refine Hid.out ?_) | fail)
  refine Lib.hid ?_
  have HB10 := Lib.hid (HB9.out.trans (hb10.mono HB9.out.size))
  have HX : Hid (box27 w10 w8.heap.size (61, 0)) := box27.on (w := w8.alloc (.cells #[.int .i64 61, .int .i64 0] 27)) (by show (w8.heap.push _)[w8.heap.size]? = _; simp) hb10
  have HY : box27 (w10.alloc (.cells #[.int .i64 63, .int .i64 4] 27)) w8.heap.size (61, 0) := HX.out.on (Below.alloc1 _ _)
  have x0 : (w10.alloc (.cells #[.int .i64 63, .int .i64 4] 27)).cell? ⟨w8.heap.size, 0, none⟩ = some (.int .i64 61) := cell_of_row _ _ 0 _ _ _ HY
  have x1 : (w10.alloc (.cells #[.int .i64 63, .int .i64 4] 27)).cell? ⟨w8.heap.size, 1, none⟩ = some (.int .i64 0) := cell_of_row _ _ 1 _ _ _ HY
  clear hb10 HB9 HB8 HN2 HY HX
  go_wp2
  go_ret
  exact ⟨rfl, HB10.out.trans ((Below.alloc1 w10 _).mono HB10.out.size)⟩
end Go.Proofs.YtbgdohggdaoojaaDoor.Table
