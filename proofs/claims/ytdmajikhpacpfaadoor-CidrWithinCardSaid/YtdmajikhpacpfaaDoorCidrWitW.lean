/-
  CIDR: whether a range lies in another one, and an address in one of several: the statement's walk.
-/
import Derived.Test.YtdmajikhpacpfaaDoorCidrShwW
import Derived.Test.YtdmajikhpacpfaaDoorCidrNets
import Derived.Test.YtdmajikhpacpfaaDoorCidrPHas
namespace Go.Proofs.YtdmajikhpacpfaaDoor.Cidr
open Go.RowKit Base
theorem info29 (w : World) : OwnsN (w.alloc (.cells #[] 25)) w.heap.size (.slice (some ⟨w.heap.size, 0, none⟩) 0 0) [] := by
  refine ⟨⟨rfl, Or.inr ⟨w.heap.size, 0, #[], rfl, Nat.le_refl _, (MapKept.heap_alloc w _).1, Nat.le_refl _, by unfold maxLen; omega, rfl, rfl⟩⟩, fun n h => by cases h⟩
set_option maxHeartbeats 4000000 in
set_option maxRecDepth 100000 in
theorem within_law (n i : NetM) (A : Option Addr) (c : Nat) (ns : List NetM) (ha : n.a.length = 16) (hi : i.a.length = 16) (w : World) (hns : Nets w A ns) (hlim : ns.length * 32 ≤ 140737488351232) (hnil : A = none → ns = [] ∧ c = 0) (he : EnvS w) :
    Calls Tryd.prog 5 #[netV n, netV i, .slice A ns.length c] w fun e w' => e = .returned (.bool true) ∧ Below w.heap.size w w' := by
  have HSH := Lib.hid (fun wx hx => shown_any wx hx)
  have HS1 := Lib.hid (size25_of ha)
  have HS2 := Lib.hid (size25_of hi)
  have HP1 := Lib.hid (fun wx => pWithin n i ha hi wx)
  have HP2 := Lib.hid (fun wx => pWithin i n hi ha wx)
  have HR1 := Lib.hid (fun wx => rWithin n i ha hi wx)
  have HR2 := Lib.hid (fun wx => rWithin i n hi ha wx)
  have HPH := Lib.hid (fun A c wx h => pHas A c ns n ha wx h (by omega))
  have HRH := Lib.hid (fun wx h => rHas A c ns n ha wx h (by omega))
  have HSM : Hid (∀ B d wx, Nets wx B ns → Nets wx A ns → Calls Tryd.prog 15 #[.slice B ns.length d, .slice A ns.length c] wx fun e w' => e = .returned (.bool true) ∧ Below wx.heap.size wx w') := fun B d wx h1 h2 => by
    have := rSame B A d c ns ns wx h1 h2 (by omega)
    rw [show decide (ns = ns) = true by simp] at this
    exact this
  generalize withinN n i = x at HP1 HR1
  generalize withinN i n = y at HP2 HR2
  generalize hasN ns n = z at HPH HRH
  have HN1 := Lib.hid (NetAt.new w n)
  have HB1 := Lib.hid (Below.alloc1 w (.cells (netC n) 25))
  have HN2 := Lib.hid (NetAt.new (w.alloc (.cells (netC n) 25)) i)
  have HB2 := Lib.hid (Below.alloc1 (w.alloc (.cells (netC n) 25)) (.cells (netC i) 25))
  have hsz1 : (w.alloc (.cells (netC n) 25)).heap.size = w.heap.size + 1 := by simp
  rw [hsz1] at HN2
  have HBW0 : Hid (Below w.heap.size w ((w.alloc (.cells (netC n) 25)).alloc (.cells (netC i) 25))) := HB1.out.trans (HB2.out.mono (by simp))
  have HX1 : Hid (NetAt ((w.alloc (.cells (netC n) 25)).alloc (.cells (netC i) 25)) w.heap.size n) := HN1.out.on HB2.out
  have HX2 := HN2
  have HE := Lib.hid he
  have HNS := Lib.hid hns
  have HNIL := Lib.hid hnil
  have HLIM := Lib.hid hlim
  clear HN1 HN2 HB1 HB2 hsz1 he ha hi hns hnil hlim
  go_enter Tryd.func5, Tryd.ntmps5
  go_wp2_with (first | (go_at_call 8; refine (HSH.out _ (HE.out.on HBW0.out)).mono ?_; rintro e w1 ⟨rfl, b1⟩; refine Hid.out ?_) | fail)
  refine Lib.hid ?_
  replace HX1 := Lib.hid (HX1.out.on b1)
  replace HX2 := Lib.hid (HX2.out.on b1)
  have HBW1 : Hid (Below w.heap.size w w1) := HBW0.out.trans (b1.mono HBW0.out.size)
  clear b1
  go_wp2_with (first | (refine wpList_load_mid rfl 25 (.tmp 3) rfl w.heap.size 0 rfl (netL n) _ HX1.out.range0 Tryd.underlying25 rfl HS1.out ?_) | (refine wpList_load_mid rfl 25 (.tmp 4) rfl (w.heap.size + 1) 0 rfl (netL i) _ HX2.out.range0 Tryd.underlying25 rfl HS2.out ?_) | (go_at_call 20; refine (HP1.out _).mono ?_; rintro e w2 ⟨rfl, b1⟩; refine Hid.out ?_) | fail)
  refine Lib.hid ?_
  replace HX1 := Lib.hid (HX1.out.on b1)
  replace HX2 := Lib.hid (HX2.out.on b1)
  have HBW2 : Hid (Below w.heap.size w w2) := HBW1.out.trans (b1.mono HBW1.out.size)
  clear b1
  go_wp2_with (first | (refine wpList_load_mid rfl 25 (.tmp 3) rfl w.heap.size 0 rfl (netL n) _ HX1.out.range0 Tryd.underlying25 rfl HS1.out ?_) | (refine wpList_load_mid rfl 25 (.tmp 4) rfl (w.heap.size + 1) 0 rfl (netL i) _ HX2.out.range0 Tryd.underlying25 rfl HS2.out ?_) | (go_at_call 20; refine (HP2.out _).mono ?_; rintro e w3 ⟨rfl, b1⟩; refine Hid.out ?_) | fail)
  refine Lib.hid ?_
  replace HX1 := Lib.hid (HX1.out.on b1)
  replace HX2 := Lib.hid (HX2.out.on b1)
  have HBW3 : Hid (Below w.heap.size w w3) := HBW2.out.trans (b1.mono HBW2.out.size)
  clear b1
  have HO3 := Lib.hid (info29 w3)
  have HB3 := Lib.hid (Below.alloc1 w3 (.cells #[] 25))
  have HNS3 : Hid (Nets (w3.alloc (.cells #[] 25)) A ns) := (HNS.out.on HBW3.out).on HB3.out
  go_wp2_with (first | (at_builtin; go_must (refine wp_append_nets _ rfl _ _ rfl w3.heap.size _ A c ns rfl rfl HO3.out HNS3.out HNIL.out HLIM.out HB3.out.size ?_); intro v4 w4 o4 b4; refine Hid.out ?_) | fail)
  obtain ⟨va, vc, rfl, _⟩ := o4.form
  have b1 : Below w3.heap.size w3 w4 := HB3.out.trans b4
  have HOW := Lib.hid o4.nets
  clear o4 b4 HO3 HB3 HNS3
  refine Lib.hid ?_
  replace HX1 := Lib.hid (HX1.out.on b1)
  replace HX2 := Lib.hid (HX2.out.on b1)
  have HBW4 : Hid (Below w.heap.size w w4) := HBW3.out.trans (b1.mono HBW3.out.size)
  clear b1
  have HNS4 := Lib.hid (HNS.out.on HBW4.out)
  clear HNS
  go_wp2_with (first | (refine wpList_load_mid rfl 25 (.tmp 3) rfl w.heap.size 0 rfl (netL n) _ HX1.out.range0 Tryd.underlying25 rfl HS1.out ?_) | (go_at_call 21; refine (HPH.out va vc _ HOW.out).mono ?_; rintro e w5 ⟨rfl, b1⟩; refine Hid.out ?_) | fail)
  refine Lib.hid ?_
  replace HX1 := Lib.hid (HX1.out.on b1)
  replace HX2 := Lib.hid (HX2.out.on b1)
  replace HOW := Lib.hid (HOW.out.on b1)
  replace HNS4 := Lib.hid (HNS4.out.on b1)
  have HBW5 : Hid (Below w.heap.size w w5) := HBW4.out.trans (b1.mono HBW4.out.size)
  clear b1
  go_wp2_with (first | (go_at_call 15; refine (HSM.out va vc _ HOW.out HNS4.out).mono ?_; rintro e w6 ⟨rfl, b1⟩; refine Hid.out ?_) | fail)
  refine Lib.hid ?_
  replace HX1 := Lib.hid (HX1.out.on b1)
  replace HX2 := Lib.hid (HX2.out.on b1)
  replace HOW := Lib.hid (HOW.out.on b1)
  replace HNS4 := Lib.hid (HNS4.out.on b1)
  have HBW6 : Hid (Below w.heap.size w w6) := HBW5.out.trans (b1.mono HBW5.out.size)
  clear b1
  have hx := beq_self_b x
  have hy := beq_self_b y
  have hz := beq_self_b z
  go_wp2_with (first | (refine wpList_load_g (by rfl) 25 (.tmp 3) rfl w.heap.size 0 rfl (netL n) _ HX1.out.range0 Tryd.underlying25 rfl HS1.out ?_) | (refine wpList_load_g (by rfl) 25 (.tmp 4) rfl (w.heap.size + 1) 0 rfl (netL i) _ HX2.out.range0 Tryd.underlying25 rfl HS2.out ?_) | (go_at_call 22; refine (HR1.out _).mono ?_; rintro e w7 ⟨rfl, b1⟩; refine Hid.out ?_) | fail)
  refine Lib.hid ?_
  replace HX1 := Lib.hid (HX1.out.on b1)
  replace HX2 := Lib.hid (HX2.out.on b1)
  replace HNS4 := Lib.hid (HNS4.out.on b1)
  have HBW7 : Hid (Below w.heap.size w w7) := HBW6.out.trans (b1.mono HBW6.out.size)
  clear b1
  go_wp2_with (first | (refine wpList_load_g (by rfl) 25 (.tmp 3) rfl w.heap.size 0 rfl (netL n) _ HX1.out.range0 Tryd.underlying25 rfl HS1.out ?_) | (refine wpList_load_g (by rfl) 25 (.tmp 4) rfl (w.heap.size + 1) 0 rfl (netL i) _ HX2.out.range0 Tryd.underlying25 rfl HS2.out ?_) | (go_at_call 22; refine (HR2.out _).mono ?_; rintro e w8 ⟨rfl, b1⟩; refine Hid.out ?_) | fail)
  refine Lib.hid ?_
  replace HX1 := Lib.hid (HX1.out.on b1)
  replace HX2 := Lib.hid (HX2.out.on b1)
  replace HNS4 := Lib.hid (HNS4.out.on b1)
  have HBW8 : Hid (Below w.heap.size w w8) := HBW7.out.trans (b1.mono HBW7.out.size)
  clear b1
  go_wp2_with (first | (refine wpList_load_g (by rfl) 25 (.tmp 3) rfl w.heap.size 0 rfl (netL n) _ HX1.out.range0 Tryd.underlying25 rfl HS1.out ?_) | (refine wpList_load_g (by rfl) 25 (.tmp 4) rfl (w.heap.size + 1) 0 rfl (netL i) _ HX2.out.range0 Tryd.underlying25 rfl HS2.out ?_) | (go_at_call 23; refine (HRH.out _ HNS4.out).mono ?_; rintro e w9 ⟨rfl, b1⟩; refine Hid.out ?_) | fail)
  refine Lib.hid ?_
  replace HX1 := Lib.hid (HX1.out.on b1)
  replace HX2 := Lib.hid (HX2.out.on b1)
  have HBW9 : Hid (Below w.heap.size w w9) := HBW8.out.trans (b1.mono HBW8.out.size)
  clear b1
  go_wp2
  go_ret
  exact ⟨by simp, HBW9.out⟩
end Go.Proofs.YtdmajikhpacpfaaDoor.Cidr
