/-
  CIDR: the document's examples, at the head of all statements.
-/
import Derived.Test.YtdmajikhpacpfaaDoorCidrPShow
import Derived.Test.YtdmajikhpacpfaaDoorCidrPParse
import Derived.Test.YtdmajikhpacpfaaDoorCidrPWithin
namespace Go.Proofs.YtdmajikhpacpfaaDoor.Cidr
open Go.RowKit Base
def x1 : NetM := ⟨false, 8, 10 :: List.replicate 15 0⟩
def x2 : NetM := ⟨true, 128, [0x20, 1, 0x0d, 0xb8, 0, 0, 0, 0, 0, 0, 0, 0, 0, 0, 0, 1]⟩
def x3 : NetM := ⟨true, 128, [0, 1, 0, 0, 0, 0, 0, 2, 0, 0, 0, 0, 0, 0, 0, 3]⟩
def x4 : NetM := ⟨false, 32, [10, 1, 2, 3] ++ List.replicate 12 0⟩
theorem e1 : parseN ⟨#[49, 48, 46, 48, 46, 48, 46, 48, 47, 56]⟩ = some x1 := by decide +kernel
theorem e2 : addrN ⟨#[50, 48, 48, 49, 58, 68, 66, 56, 58, 58, 48, 58, 49]⟩ = some x2 := by decide +kernel
theorem e3 : parseN ⟨#[49, 58, 48, 58, 48, 58, 50, 58, 48, 58, 48, 58, 48, 58, 51]⟩ = some x3 := by decide +kernel
theorem e4 : parseN ⟨#[49, 48, 46, 48, 46, 48, 46, 49, 47, 56]⟩ = none := by decide +kernel
theorem e5 : addrN ⟨#[49, 48, 46, 49, 46, 50, 46, 51]⟩ = some x4 := by decide +kernel
theorem s1 : showN x1 = some [49, 48, 46, 48, 46, 48, 46, 48, 47, 56] := by decide +kernel
theorem s2 : showN x2 = some [50, 48, 48, 49, 58, 100, 98, 56, 58, 58, 49] := by decide +kernel
theorem s3 : showN x3 = some [49, 58, 48, 58, 48, 58, 50, 58, 58, 51] := by decide +kernel
theorem i1 : withinN x4 x1 = true := by decide +kernel
theorem i2 : withinN x1 x4 = false := by decide +kernel
set_option maxHeartbeats 4000000 in
set_option maxRecDepth 100000 in
theorem shown_any (w : World) (he : EnvS w) : Calls Tryd.prog 8 #[] w fun e w' => e = .returned (.bool true) ∧ Below w.heap.size w w' := by
  have K1 : Hid (∀ wx, EnvS wx → Calls Tryd.prog 11 #[.string ⟨#[49, 48, 46, 48, 46, 48, 46, 48, 47, 56]⟩] wx fun e w' => e = .returned (.tuple #[netV x1, .int .i64 0]) ∧ Below wx.heap.size wx w') := fun wx hx => (addr_yes (n := x1) (by have := pParse ⟨#[49, 48, 46, 48, 46, 48, 46, 48, 47, 56]⟩ wx (by decide) hx.env; rw [e1] at this; exact this)).mono fun e w' h => h.2
  have K2 : Hid (∀ wx, EnvS wx → Calls Tryd.prog 9 #[.string ⟨#[50, 48, 48, 49, 58, 68, 66, 56, 58, 58, 48, 58, 49]⟩] wx fun e w' => e = .returned (.tuple #[netV x2, .int .i64 0]) ∧ Below wx.heap.size wx w') := fun wx hx => (addr_yes (n := x2) (by have := pAddr ⟨#[50, 48, 48, 49, 58, 68, 66, 56, 58, 58, 48, 58, 49]⟩ wx hx.env; rw [e2] at this; exact this)).mono fun e w' h => h.2
  have K3 : Hid (∀ wx, EnvS wx → Calls Tryd.prog 11 #[.string ⟨#[49, 58, 48, 58, 48, 58, 50, 58, 48, 58, 48, 58, 48, 58, 51]⟩] wx fun e w' => e = .returned (.tuple #[netV x3, .int .i64 0]) ∧ Below wx.heap.size wx w') := fun wx hx => (addr_yes (n := x3) (by have := pParse ⟨#[49, 58, 48, 58, 48, 58, 50, 58, 48, 58, 48, 58, 48, 58, 51]⟩ wx (by decide) hx.env; rw [e3] at this; exact this)).mono fun e w' h => h.2
  have K4 : Hid (∀ wx, EnvS wx → Calls Tryd.prog 11 #[.string ⟨#[49, 48, 46, 48, 46, 48, 46, 49, 47, 56]⟩] wx fun e w' => e = .returned (.tuple #[netV zeroN, .int .i64 70]) ∧ Below wx.heap.size wx w') := fun wx hx => addr_no (by have := pParse ⟨#[49, 48, 46, 48, 46, 48, 46, 49, 47, 56]⟩ wx (by decide) hx.env; rw [e4] at this; exact this)
  have K5 : Hid (∀ wx, EnvS wx → Calls Tryd.prog 9 #[.string ⟨#[49, 48, 46, 49, 46, 50, 46, 51]⟩] wx fun e w' => e = .returned (.tuple #[netV x4, .int .i64 0]) ∧ Below wx.heap.size wx w') := fun wx hx => (addr_yes (n := x4) (by have := pAddr ⟨#[49, 48, 46, 49, 46, 50, 46, 51]⟩ wx hx.env; rw [e5] at this; exact this)).mono fun e w' h => h.2
  have S1 : Hid (∀ wx, EnvS wx → Calls Tryd.prog 17 #[netV x1] wx fun e w' => e = .returned (.tuple #[.string ⟨#[49, 48, 46, 48, 46, 48, 46, 48, 47, 56]⟩, .int .i64 0]) ∧ Below wx.heap.size wx w') := fun wx hx => (pShow x1 rfl wx hx).mono fun e w' h => by
    rw [s1] at h
    rcases h with ⟨hb, ⟨h1, _⟩ | ⟨l, h1, h2⟩⟩
    · cases h1
    · cases h1; exact ⟨h2, hb⟩
  have S2 : Hid (∀ wx, EnvS wx → Calls Tryd.prog 17 #[netV x2] wx fun e w' => e = .returned (.tuple #[.string ⟨#[50, 48, 48, 49, 58, 100, 98, 56, 58, 58, 49]⟩, .int .i64 0]) ∧ Below wx.heap.size wx w') := fun wx hx => (pShow x2 rfl wx hx).mono fun e w' h => by
    rw [s2] at h
    rcases h with ⟨hb, ⟨h1, _⟩ | ⟨l, h1, h2⟩⟩
    · cases h1
    · cases h1; exact ⟨h2, hb⟩
  have S3 : Hid (∀ wx, EnvS wx → Calls Tryd.prog 17 #[netV x3] wx fun e w' => e = .returned (.tuple #[.string ⟨#[49, 58, 48, 58, 48, 58, 50, 58, 58, 51]⟩, .int .i64 0]) ∧ Below wx.heap.size wx w') := fun wx hx => (pShow x3 rfl wx hx).mono fun e w' h => by
    rw [s3] at h
    rcases h with ⟨hb, ⟨h1, _⟩ | ⟨l, h1, h2⟩⟩
    · cases h1
    · cases h1; exact ⟨h2, hb⟩
  have W1 : Hid (∀ wx, Calls Tryd.prog 20 #[netV x4, netV x1] wx fun e w' => e = .returned (.bool true) ∧ Below wx.heap.size wx w') := fun wx => by have := pWithin x4 x1 rfl rfl wx; rw [i1] at this; exact this
  have W2 : Hid (∀ wx, Calls Tryd.prog 20 #[netV x1, netV x4] wx fun e w' => e = .returned (.bool false) ∧ Below wx.heap.size wx w') := fun wx => by have := pWithin x1 x4 rfl rfl wx; rw [i2] at this; exact this
  have HA1 : Hid (x1.a.length = 16) := rfl
  have HA2 : Hid (x2.a.length = 16) := rfl
  have HA3 : Hid (x3.a.length = 16) := rfl
  have HA4 : Hid (zeroN.a.length = 16) := rfl
  have HA5 : Hid (x4.a.length = 16) := rfl
  have HC1 := Lib.hid (size25c HA1.out)
  have HS1 := Lib.hid (size25_of HA1.out)
  have HC2 := Lib.hid (size25c HA2.out)
  have HS2 := Lib.hid (size25_of HA2.out)
  have HC3 := Lib.hid (size25c HA3.out)
  have HS3 := Lib.hid (size25_of HA3.out)
  have HC4 := Lib.hid (size25c HA4.out)
  have HS4 := Lib.hid (size25_of HA4.out)
  have HC5 := Lib.hid (size25c HA5.out)
  have HS5 := Lib.hid (size25_of HA5.out)
  generalize x1 = n1 at K1 HA1 HC1 HS1 S1 W1 W2
  generalize x2 = n2 at K2 HA2 HC2 HS2 S2
  generalize x3 = n3 at K3 HA3 HC3 HS3 S3
  generalize x4 = n5 at K5 HA5 HC5 HS5 W1 W2
  obtain ⟨n4, hn4⟩ : ∃ n, n = zeroN := ⟨_, rfl⟩
  rw [← hn4] at K4 HA4 HC4 HS4
  clear hn4
  have HE0 := Lib.hid he
  have HB0 : Hid (Below w.heap.size w w) := Below.refl _ _
  clear he
  go_enter Tryd.func8, Tryd.ntmps8
  go_wp2_with (go_at_call 11; refine (K1.out _ HE0.out).mono ?_; rintro e wa1 ⟨rfl, b1⟩; refine Hid.out ?_)
  refine Lib.hid ?_
  have HB1 : Hid (Below w.heap.size w wa1) := HB0.out.trans (b1.mono HB0.out.size)
  have HE1 := Lib.hid (HE0.out.on HB1.out)
  clear b1
  have HT1 := Lib.hid (there_net (NetAt.new wa1 zeroN) rfl HA1.out)
  go_wp2_with (first | (refine wpList_store_mid rfl 25 (.tmp 1) (.tmp 21) rfl wa1.heap.size 0 (netC n1) rfl rfl HT1.out HC1.out (netC_all _) ?_; generalize hw3 : World.setCells _ _ _ _ = wb1; refine Hid.out ?_) | fail)
  refine Lib.hid ?_
  obtain ⟨hn3, b2⟩ := net_new HA1.out hw3
  clear hw3 HT1
  have HB2 : Hid (Below w.heap.size w wb1) := HB1.out.trans (b2.mono HB1.out.size)
  have HE2 := Lib.hid (HE0.out.on HB2.out)
  clear b2
  have HN1 := Lib.hid hn3
  clear hn3
  go_wp2_with (first | (refine wpList_load_mid rfl 25 (.tmp 1) rfl wa1.heap.size 0 rfl (netL n1) _ HN1.out.range0 Tryd.underlying25 rfl HS1.out ?_) | (go_at_call 17; refine (S1.out _ HE2.out).mono ?_; rintro e ws1 ⟨rfl, b1⟩; refine Hid.out ?_) | fail)
  refine Lib.hid ?_
  have HB3 : Hid (Below w.heap.size w ws1) := HB2.out.trans (b1.mono HB2.out.size)
  have HE3 := Lib.hid (HE0.out.on HB3.out)
  replace HN1 := Lib.hid (HN1.out.on b1)
  clear b1
  go_wp2_with (go_at_call 9; refine (K2.out _ HE3.out).mono ?_; rintro e wa2 ⟨rfl, b1⟩; refine Hid.out ?_)
  refine Lib.hid ?_
  have HB4 : Hid (Below w.heap.size w wa2) := HB3.out.trans (b1.mono HB3.out.size)
  have HE4 := Lib.hid (HE0.out.on HB4.out)
  replace HN1 := Lib.hid (HN1.out.on b1)
  clear b1
  have HT2 := Lib.hid (there_net (NetAt.new wa2 zeroN) rfl HA2.out)
  go_wp2_with (first | (refine wpList_store_mid rfl 25 (.tmp 5) (.tmp 30) rfl wa2.heap.size 0 (netC n2) rfl rfl HT2.out HC2.out (netC_all _) ?_; generalize hw3 : World.setCells _ _ _ _ = wb2; refine Hid.out ?_) | fail)
  refine Lib.hid ?_
  obtain ⟨hn3, b2⟩ := net_new HA2.out hw3
  clear hw3 HT2
  have HB5 : Hid (Below w.heap.size w wb2) := HB4.out.trans (b2.mono HB4.out.size)
  have HE5 := Lib.hid (HE0.out.on HB5.out)
  replace HN1 := Lib.hid (HN1.out.on b2)
  clear b2
  have HN2 := Lib.hid hn3
  clear hn3
  go_wp2_with (first | (refine wpList_load_mid rfl 25 (.tmp 5) rfl wa2.heap.size 0 rfl (netL n2) _ HN2.out.range0 Tryd.underlying25 rfl HS2.out ?_) | (go_at_call 17; refine (S2.out _ HE5.out).mono ?_; rintro e ws2 ⟨rfl, b1⟩; refine Hid.out ?_) | fail)
  refine Lib.hid ?_
  have HB6 : Hid (Below w.heap.size w ws2) := HB5.out.trans (b1.mono HB5.out.size)
  have HE6 := Lib.hid (HE0.out.on HB6.out)
  replace HN1 := Lib.hid (HN1.out.on b1)
  replace HN2 := Lib.hid (HN2.out.on b1)
  clear b1
  go_wp2_with (go_at_call 11; refine (K3.out _ HE6.out).mono ?_; rintro e wa3 ⟨rfl, b1⟩; refine Hid.out ?_)
  refine Lib.hid ?_
  have HB7 : Hid (Below w.heap.size w wa3) := HB6.out.trans (b1.mono HB6.out.size)
  have HE7 := Lib.hid (HE0.out.on HB7.out)
  replace HN1 := Lib.hid (HN1.out.on b1)
  replace HN2 := Lib.hid (HN2.out.on b1)
  clear b1
  have HT3 := Lib.hid (there_net (NetAt.new wa3 zeroN) rfl HA3.out)
  go_wp2_with (first | (refine wpList_store_mid rfl 25 (.tmp 9) (.tmp 39) rfl wa3.heap.size 0 (netC n3) rfl rfl HT3.out HC3.out (netC_all _) ?_; generalize hw3 : World.setCells _ _ _ _ = wb3; refine Hid.out ?_) | fail)
  refine Lib.hid ?_
  obtain ⟨hn3, b2⟩ := net_new HA3.out hw3
  clear hw3 HT3
  have HB8 : Hid (Below w.heap.size w wb3) := HB7.out.trans (b2.mono HB7.out.size)
  have HE8 := Lib.hid (HE0.out.on HB8.out)
  replace HN1 := Lib.hid (HN1.out.on b2)
  replace HN2 := Lib.hid (HN2.out.on b2)
  clear b2
  have HN3 := Lib.hid hn3
  clear hn3
  go_wp2_with (first | (refine wpList_load_mid rfl 25 (.tmp 9) rfl wa3.heap.size 0 rfl (netL n3) _ HN3.out.range0 Tryd.underlying25 rfl HS3.out ?_) | (go_at_call 17; refine (S3.out _ HE8.out).mono ?_; rintro e ws3 ⟨rfl, b1⟩; refine Hid.out ?_) | fail)
  refine Lib.hid ?_
  have HB9 : Hid (Below w.heap.size w ws3) := HB8.out.trans (b1.mono HB8.out.size)
  have HE9 := Lib.hid (HE0.out.on HB9.out)
  replace HN1 := Lib.hid (HN1.out.on b1)
  replace HN2 := Lib.hid (HN2.out.on b1)
  replace HN3 := Lib.hid (HN3.out.on b1)
  clear b1
  go_wp2_with (go_at_call 11; refine (K4.out _ HE9.out).mono ?_; rintro e wa4 ⟨rfl, b1⟩; refine Hid.out ?_)
  refine Lib.hid ?_
  have HB10 : Hid (Below w.heap.size w wa4) := HB9.out.trans (b1.mono HB9.out.size)
  have HE10 := Lib.hid (HE0.out.on HB10.out)
  replace HN1 := Lib.hid (HN1.out.on b1)
  replace HN2 := Lib.hid (HN2.out.on b1)
  replace HN3 := Lib.hid (HN3.out.on b1)
  clear b1
  have HT4 := Lib.hid (there_net (NetAt.new wa4 zeroN) rfl HA4.out)
  go_wp2_with (first | (refine wpList_store_mid rfl 25 (.tmp 13) (.tmp 48) rfl wa4.heap.size 0 (netC n4) rfl rfl HT4.out HC4.out (netC_all _) ?_; generalize hw3 : World.setCells _ _ _ _ = wb4; refine Hid.out ?_) | fail)
  refine Lib.hid ?_
  obtain ⟨hn3, b2⟩ := net_new HA4.out hw3
  clear hw3 HT4
  have HB11 : Hid (Below w.heap.size w wb4) := HB10.out.trans (b2.mono HB10.out.size)
  have HE11 := Lib.hid (HE0.out.on HB11.out)
  replace HN1 := Lib.hid (HN1.out.on b2)
  replace HN2 := Lib.hid (HN2.out.on b2)
  replace HN3 := Lib.hid (HN3.out.on b2)
  clear b2
  have HN4 := Lib.hid hn3
  clear hn3
  go_wp2_with (go_at_call 9; refine (K5.out _ HE11.out).mono ?_; rintro e wa5 ⟨rfl, b1⟩; refine Hid.out ?_)
  refine Lib.hid ?_
  have HB12 : Hid (Below w.heap.size w wa5) := HB11.out.trans (b1.mono HB11.out.size)
  have HE12 := Lib.hid (HE0.out.on HB12.out)
  replace HN1 := Lib.hid (HN1.out.on b1)
  replace HN2 := Lib.hid (HN2.out.on b1)
  replace HN3 := Lib.hid (HN3.out.on b1)
  replace HN4 := Lib.hid (HN4.out.on b1)
  clear b1
  have HT5 := Lib.hid (there_net (NetAt.new wa5 zeroN) rfl HA5.out)
  go_wp2_with (first | (refine wpList_store_mid rfl 25 (.tmp 15) (.tmp 52) rfl wa5.heap.size 0 (netC n5) rfl rfl HT5.out HC5.out (netC_all _) ?_; generalize hw3 : World.setCells _ _ _ _ = wb5; refine Hid.out ?_) | fail)
  refine Lib.hid ?_
  obtain ⟨hn3, b2⟩ := net_new HA5.out hw3
  clear hw3 HT5
  have HB13 : Hid (Below w.heap.size w wb5) := HB12.out.trans (b2.mono HB12.out.size)
  have HE13 := Lib.hid (HE0.out.on HB13.out)
  replace HN1 := Lib.hid (HN1.out.on b2)
  replace HN2 := Lib.hid (HN2.out.on b2)
  replace HN3 := Lib.hid (HN3.out.on b2)
  replace HN4 := Lib.hid (HN4.out.on b2)
  clear b2
  have HN5 := Lib.hid hn3
  clear hn3
  go_wp2_with (first | (refine wpList_load_mid rfl 25 (.tmp 15) rfl wa5.heap.size 0 rfl (netL n5) _ HN5.out.range0 Tryd.underlying25 rfl HS5.out ?_) | (refine wpList_load_mid rfl 25 (.tmp 1) rfl wa1.heap.size 0 rfl (netL n1) _ HN1.out.range0 Tryd.underlying25 rfl HS1.out ?_) | (go_at_call 20; refine (W1.out _).mono ?_; rintro e wi1 ⟨rfl, b1⟩; refine Hid.out ?_) | fail)
  refine Lib.hid ?_
  have HB14 : Hid (Below w.heap.size w wi1) := HB13.out.trans (b1.mono HB13.out.size)
  have HE14 := Lib.hid (HE0.out.on HB14.out)
  replace HN1 := Lib.hid (HN1.out.on b1)
  replace HN2 := Lib.hid (HN2.out.on b1)
  replace HN3 := Lib.hid (HN3.out.on b1)
  replace HN4 := Lib.hid (HN4.out.on b1)
  replace HN5 := Lib.hid (HN5.out.on b1)
  clear b1
  go_wp2_with (first | (refine wpList_load_mid rfl 25 (.tmp 1) rfl wa1.heap.size 0 rfl (netL n1) _ HN1.out.range0 Tryd.underlying25 rfl HS1.out ?_) | (refine wpList_load_mid rfl 25 (.tmp 15) rfl wa5.heap.size 0 rfl (netL n5) _ HN5.out.range0 Tryd.underlying25 rfl HS5.out ?_) | (go_at_call 20; refine (W2.out _).mono ?_; rintro e wi2 ⟨rfl, b1⟩; refine Hid.out ?_) | fail)
  refine Lib.hid ?_
  have HB15 : Hid (Below w.heap.size w wi2) := HB14.out.trans (b1.mono HB14.out.size)
  have HE15 := Lib.hid (HE0.out.on HB15.out)
  replace HN1 := Lib.hid (HN1.out.on b1)
  replace HN2 := Lib.hid (HN2.out.on b1)
  replace HN3 := Lib.hid (HN3.out.on b1)
  replace HN4 := Lib.hid (HN4.out.on b1)
  replace HN5 := Lib.hid (HN5.out.on b1)
  clear b1
  go_wp2
  go_ret
  exact ⟨rfl, HB15.out⟩
end Go.Proofs.YtdmajikhpacpfaaDoor.Cidr
