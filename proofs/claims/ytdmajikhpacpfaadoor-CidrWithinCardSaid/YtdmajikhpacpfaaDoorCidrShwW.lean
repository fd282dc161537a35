/-
  CIDR: any range's form: the statement's walk.
-/
import Derived.Test.YtdmajikhpacpfaaDoorCidrOrdW
import Derived.Deep.RegionHeld3
namespace Go.Proofs.YtdmajikhpacpfaaDoor.Cidr
open Go.RowKit Base
theorem beq_self_b (b : Bool) : (b == b) = true := by cases b <;> rfl
set_option maxHeartbeats 4000000 in
set_option maxRecDepth 100000 in
theorem shows_law (n : NetM) (ha : n.a.length = 16) (w : World) (he : EnvS w) : Calls Tryd.prog 4 #[netV n] w fun e w' => e = .returned (.bool true) ∧ Below w.heap.size w w' := by
  have HS := Lib.hid (size25_of ha)
  have HSH := Lib.hid (fun wx hx => shown_any wx hx)
  have HRS := Lib.hid (fun wx => rShow n ha wx)
  have HPS := Lib.hid (fun wx hx => pShow n ha wx hx)
  have HPR := Lib.hid (fun wx => pRight n ha wx)
  have HRR := Lib.hid (fun wx => rRight n ha wx)
  have HN0 := Lib.hid (NetAt.new w n)
  have HB0 := Lib.hid (Below.alloc1 w (.cells (netC n) 25))
  have HE := Lib.hid he
  generalize rightN n = r at HPR HRR
  clear he ha
  cases ho : showN n with
  | none =>
    rw [ho] at HRS HPS
    have K1 : Hid (∀ wx, Calls Tryd.prog 16 #[netV n] wx fun e w' => e = .returned (.tuple #[.string ⟨#[]⟩, .int .i64 70]) ∧ Below wx.heap.size wx w') := fun wx => (HRS.out wx).mono fun e w' h => by
      rcases h with ⟨hb, ⟨_, h2⟩ | ⟨l, h1, _⟩⟩
      · exact ⟨h2, hb⟩
      · cases h1
    have K2 : Hid (∀ wx, EnvS wx → Calls Tryd.prog 17 #[netV n] wx fun e w' => e = .returned (.tuple #[.string ⟨#[]⟩, .int .i64 70]) ∧ Below wx.heap.size wx w') := fun wx hx => (HPS.out wx hx).mono fun e w' h => by
      rcases h with ⟨hb, ⟨_, h2⟩ | ⟨l, h1, _⟩⟩
      · exact ⟨h2, hb⟩
      · cases h1
    clear ho HRS HPS
    go_enter Tryd.func4, Tryd.ntmps4
    go_wp2_with (first | (go_at_call 8; refine (HSH.out _ (HE.out.on HB0.out)).mono ?_; rintro e w1 ⟨rfl, b1⟩; refine Hid.out ?_) | fail)
    refine Lib.hid ?_
    replace HN0 := Lib.hid (HN0.out.on b1)
    have HB1 : Hid (Below w.heap.size w w1) := HB0.out.trans (b1.mono HB0.out.size)
    clear b1
    go_wp2_with (first | (refine wpList_load_mid rfl 25 (.tmp 1) rfl w.heap.size 0 rfl (netL n) _ HN0.out.range0 Tryd.underlying25 rfl HS.out ?_) | (go_at_call 16; refine (K1.out _).mono ?_; rintro e w2 ⟨rfl, b1⟩; refine Hid.out ?_) | fail)
    refine Lib.hid ?_
    replace HN0 := Lib.hid (HN0.out.on b1)
    have HB2 : Hid (Below w.heap.size w w2) := HB1.out.trans (b1.mono HB1.out.size)
    clear b1
    go_wp2_with (first | (refine wpList_load_mid rfl 25 (.tmp 1) rfl w.heap.size 0 rfl (netL n) _ HN0.out.range0 Tryd.underlying25 rfl HS.out ?_) | (go_at_call 17; refine (K2.out _ (HE.out.on HB2.out)).mono ?_; rintro e w3 ⟨rfl, b1⟩; refine Hid.out ?_) | fail)
    refine Lib.hid ?_
    replace HN0 := Lib.hid (HN0.out.on b1)
    have HB3 : Hid (Below w.heap.size w w3) := HB2.out.trans (b1.mono HB2.out.size)
    clear b1
    go_wp2_with (first | (refine wpList_load_mid rfl 25 (.tmp 1) rfl w.heap.size 0 rfl (netL n) _ HN0.out.range0 Tryd.underlying25 rfl HS.out ?_) | (go_at_call 18; refine (HPR.out _).mono ?_; rintro e w4 ⟨rfl, b1⟩; refine Hid.out ?_) | fail)
    refine Lib.hid ?_
    replace HN0 := Lib.hid (HN0.out.on b1)
    have HB4 : Hid (Below w.heap.size w w4) := HB3.out.trans (b1.mono HB3.out.size)
    clear b1
    have hrr := beq_self_b r
    go_wp2_with (first | (refine wpList_load_g (by rfl) 25 (.tmp 1) rfl w.heap.size 0 rfl (netL n) _ HN0.out.range0 Tryd.underlying25 rfl HS.out ?_) | (go_at_call 19; refine (HRR.out _).mono ?_; rintro e w5 ⟨rfl, b1⟩; refine Hid.out ?_) | fail)
    refine Lib.hid ?_
    replace HN0 := Lib.hid (HN0.out.on b1)
    have HB5 : Hid (Below w.heap.size w w5) := HB4.out.trans (b1.mono HB4.out.size)
    clear b1
    go_wp2
    go_ret
    exact ⟨by simp, HB5.out⟩
  | some l =>
    rw [ho] at HRS HPS
    have K1 : Hid (∀ wx, Calls Tryd.prog 16 #[netV n] wx fun e w' => e = .returned (.tuple #[.string ⟨l.toArray⟩, .int .i64 0]) ∧ Below wx.heap.size wx w') := fun wx => (HRS.out wx).mono fun e w' h => by
      rcases h with ⟨hb, ⟨h1, _⟩ | ⟨l2, h1, h2⟩⟩
      · cases h1
      · cases h1; exact ⟨h2, hb⟩
    have K2 : Hid (∀ wx, EnvS wx → Calls Tryd.prog 17 #[netV n] wx fun e w' => e = .returned (.tuple #[.string ⟨l.toArray⟩, .int .i64 0]) ∧ Below wx.heap.size wx w') := fun wx hx => (HPS.out wx hx).mono fun e w' h => by
      rcases h with ⟨hb, ⟨h1, _⟩ | ⟨l2, h1, h2⟩⟩
      · cases h1
      · cases h1; exact ⟨h2, hb⟩
    clear ho HRS HPS
    generalize (⟨l.toArray⟩ : ByteArray) = T at K1 K2
    go_enter Tryd.func4, Tryd.ntmps4
    go_wp2_with (first | (go_at_call 8; refine (HSH.out _ (HE.out.on HB0.out)).mono ?_; rintro e w1 ⟨rfl, b1⟩; refine Hid.out ?_) | fail)
    refine Lib.hid ?_
    replace HN0 := Lib.hid (HN0.out.on b1)
    have HB1 : Hid (Below w.heap.size w w1) := HB0.out.trans (b1.mono HB0.out.size)
    clear b1
    go_wp2_with (first | (refine wpList_load_mid rfl 25 (.tmp 1) rfl w.heap.size 0 rfl (netL n) _ HN0.out.range0 Tryd.underlying25 rfl HS.out ?_) | (go_at_call 16; refine (K1.out _).mono ?_; rintro e w2 ⟨rfl, b1⟩; refine Hid.out ?_) | fail)
    refine Lib.hid ?_
    replace HN0 := Lib.hid (HN0.out.on b1)
    have HB2 : Hid (Below w.heap.size w w2) := HB1.out.trans (b1.mono HB1.out.size)
    clear b1
    go_wp2_with (first | (refine wpList_load_mid rfl 25 (.tmp 1) rfl w.heap.size 0 rfl (netL n) _ HN0.out.range0 Tryd.underlying25 rfl HS.out ?_) | (go_at_call 17; refine (K2.out _ (HE.out.on HB2.out)).mono ?_; rintro e w3 ⟨rfl, b1⟩; refine Hid.out ?_) | fail)
    refine Lib.hid ?_
    replace HN0 := Lib.hid (HN0.out.on b1)
    have HB3 : Hid (Below w.heap.size w w3) := HB2.out.trans (b1.mono HB2.out.size)
    clear b1
    go_wp2_with (first | (refine wpList_load_mid rfl 25 (.tmp 1) rfl w.heap.size 0 rfl (netL n) _ HN0.out.range0 Tryd.underlying25 rfl HS.out ?_) | (go_at_call 18; refine (HPR.out _).mono ?_; rintro e w4 ⟨rfl, b1⟩; refine Hid.out ?_) | fail)
    refine Lib.hid ?_
    replace HN0 := Lib.hid (HN0.out.on b1)
    have HB4 : Hid (Below w.heap.size w w4) := HB3.out.trans (b1.mono HB3.out.size)
    clear b1
    have hrr := beq_self_b r
    go_wp2_with (first | (refine wpList_load_g (by rfl) 25 (.tmp 1) rfl w.heap.size 0 rfl (netL n) _ HN0.out.range0 Tryd.underlying25 rfl HS.out ?_) | (go_at_call 19; refine (HRR.out _).mono ?_; rintro e w5 ⟨rfl, b1⟩; refine Hid.out ?_) | fail)
    refine Lib.hid ?_
    replace HN0 := Lib.hid (HN0.out.on b1)
    have HB5 : Hid (Below w.heap.size w w5) := HB4.out.trans (b1.mono HB4.out.size)
    clear b1
    go_wp2
    go_ret
    exact ⟨by simp, HB5.out⟩
end Go.Proofs.YtdmajikhpacpfaaDoor.Cidr
