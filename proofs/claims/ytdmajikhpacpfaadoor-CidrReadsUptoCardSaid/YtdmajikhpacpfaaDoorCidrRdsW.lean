/-
  CIDR: any text is read as an address, as a range, as a list, as the document says, or refused: the statement's walk.
-/
import Derived.Test.YtdmajikhpacpfaaDoorCidrPList
import Derived.Test.YtdmajikhpacpfaaDoorCidrOrdW
import Derived.Test.YtdmajikhpacpfaaDoorCidrNets
namespace Go.Proofs.YtdmajikhpacpfaaDoor.Cidr
open Go.RowKit Base
def netsO : ListO → List NetM
  | .bad _ => []
  | .ok ns => ns
def codeO : ListO → Int
  | .bad c => c
  | .ok _ => 0
theorem list_any {f : FuncId} {args : Array Value} {w : World} {o : ListO} (h : Calls Tryd.prog f args w (ListEnd o w)) : Calls Tryd.prog f args w (fun e w' => ∃ v, e = .returned (.tuple #[v, .int .i64 (codeO o)]) ∧ OwnsN w' w.heap.size v (netsO o) ∧ Below w.heap.size w w') :=
  h.mono fun e w' h => by
    rcases h with ⟨hb, ⟨c, rfl, h2⟩ | ⟨ns, v, rfl, h2, h3⟩⟩
    · exact ⟨_, h2, ⟨World.ownsRow_nil _ _ _ _, fun n h => by cases h⟩, hb⟩
    · exact ⟨v, h2, h3, hb⟩
theorem list_len (s : ByteArray) : (netsO (listN s)).length ≤ 200 := by
  unfold listN listO
  split
  · exact Nat.zero_le _
  · rename_i hl
    split
    · exact Nat.zero_le _
    · rename_i ns hm
      show ns.length ≤ 200
      rw [mapO_len parseW hm]; omega
/-- The row of one's own that is spoilt, cell by cell. -/
def RowAt (B : Nat) (la : Option Addr) (k : Nat) (wr : World) : Prop := k = 0 ∨ ∃ (g : Nat) (cur : Array Value), la = some ⟨g, 0, none⟩ ∧ wr.heap[g]? = some (.cells cur 25 (0, 0)) ∧ k * 18 ≤ cur.size ∧ B ≤ g
theorem RowAt.on {B : Nat} {la : Option Addr} {k : Nat} {w w' : World} (h : RowAt B la k w) (hb : Below w.heap.size w w') : RowAt B la k w' := by
  rcases h with h | ⟨g, cur, h1, h2, h3, h4⟩
  · exact Or.inl h
  · exact Or.inr ⟨g, cur, h1, (hb.block g (heap_lt h2)).trans h2, h3, h4⟩
theorem OwnsN.rowAt {w : World} {B : Nat} {a : Option Addr} {c : Nat} {ns : List NetM} (h : OwnsN w B (.slice a ns.length c) ns) : RowAt B a ns.length w := by
  rcases h.1.2 with ⟨_, hn⟩ | ⟨g, cap, cur, he, h1, h2, h3, h4, h5, h6⟩
  · exact Or.inl hn
  · cases he
    exact Or.inr ⟨g, cur, rfl, h2, by rw [h5]; exact Nat.mul_le_mul_right _ h3, h1⟩
def n77 : NetM := ⟨false, 77, List.replicate 16 0⟩
theorem row_there {w : World} {g : Nat} {cur : Array Value} (h : w.heap[g]? = some (.cells cur 25 (0, 0))) {o n : Nat} (hn : o + n ≤ cur.size) : w.there g o n := fun j hj => by
  refine ⟨?_, by simp [World.frozen?, h]⟩
  rw [cell_of_row w g (o + j) _ _ _ h, Array.getElem?_eq_getElem (by omega)]; rfl
set_option maxHeartbeats 8000000 in
set_option maxRecDepth 100000 in
theorem reads_law (s : ByteArray) (hs : s.size ≤ 1048576) (w : World) (he : EnvS w) (hT : Utf w) : Calls Tryd.prog 3 #[.string s] w fun e w' => e = .returned (.bool true) ∧ Below w.heap.size w w' := by
  have HSH := Lib.hid (fun wx hx => shown_any wx hx)
  have HE := Lib.hid he
  have HT := Lib.hid hT
  have K1 := Lib.hid (fun wx (hx : EnvS wx) => addr_any (pAddr s wx hx.env))
  have K2 := Lib.hid (fun wx => addr_any (rAddr s wx (by omega)))
  have K3 := Lib.hid (fun wx (hx : EnvS wx) => addr_any (pParse s wx (by omega) hx.env))
  have K4 := Lib.hid (fun wx => addr_any (rParse s wx (by omega)))
  have K5 := Lib.hid (fun wx (hx : EnvS wx) (hu : Utf wx) => list_any (pList s wx (by omega) hx.env hu))
  have K6 := Lib.hid (fun wx => list_any (rList s wx (by omega)))
  have HNL := Lib.hid (list_len s)
  obtain ⟨x, hx⟩ : ∃ x, x = (addrN s).getD zeroN := ⟨_, rfl⟩
  obtain ⟨c, hc⟩ : ∃ c : Int, c = if (addrN s).isSome = true then 0 else 70 := ⟨_, rfl⟩
  rw [← hx, ← hc] at K1 K2
  obtain ⟨y, hy⟩ : ∃ y, y = (parseN s).getD zeroN := ⟨_, rfl⟩
  obtain ⟨d, hd⟩ : ∃ d : Int, d = if (parseN s).isSome = true then 0 else 70 := ⟨_, rfl⟩
  rw [← hy, ← hd] at K3 K4
  generalize netsO (listN s) = ns at K5 K6 HNL
  generalize codeO (listN s) = q at K5 K6
  have HB0 : Hid (Below w.heap.size w w) := Below.refl _ _
  clear he hT hs hx hc hy hd
  go_enter Tryd.func3, Tryd.ntmps3
  go_wp2_with (first | (go_at_call 8; refine (HSH.out _ (HE.out.on HB0.out)).mono ?_; rintro e w1 ⟨rfl, b1⟩; refine Hid.out ?_) | fail)
  refine Lib.hid ?_
  have HB1 : Hid (Below w.heap.size w w1) := HB0.out.trans (b1.mono HB0.out.size)
  clear b1
  go_wp2_with (first | (go_at_call 9; refine (K1.out _ (HE.out.on HB1.out)).mono ?_; rintro e wa4 ⟨hm, rfl, b1⟩; refine Hid.out ?_) | fail)
  refine Lib.hid ?_
  have HB2 : Hid (Below w.heap.size w wa4) := HB1.out.trans (b1.mono HB1.out.size)
  clear b1
  have HAx := Lib.hid hm
  have HCx := Lib.hid (size25c hm)
  have HSx := Lib.hid (size25_of hm)
  clear hm
  have HTH := Lib.hid (there_net (NetAt.new wa4 zeroN) rfl HAx.out)
  go_wp2_with (first | (refine wpList_store_mid rfl 25 (.tmp 4) (.tmp 22) rfl wa4.heap.size 0 (netC x) rfl rfl HTH.out HCx.out (netC_all _) ?_; generalize hw3 : World.setCells _ _ _ _ = wb4; refine Hid.out ?_) | fail)
  refine Lib.hid ?_
  obtain ⟨hn3, b1⟩ := net_new HAx.out hw3
  clear hw3 HTH
  have HB3 : Hid (Below w.heap.size w wb4) := HB2.out.trans (b1.mono HB2.out.size)
  have HN4 := Lib.hid hn3
  clear b1 hn3
  go_wp2_with (first | (go_at_call 10; refine (K2.out _).mono ?_; rintro e wa6 ⟨hm, rfl, b1⟩; refine Hid.out ?_) | fail)
  refine Lib.hid ?_
  replace HN4 := Lib.hid (HN4.out.on b1)
  have HB4 : Hid (Below w.heap.size w wa6) := HB3.out.trans (b1.mono HB3.out.size)
  clear b1
  clear hm
  have HTH := Lib.hid (there_net (NetAt.new wa6 zeroN) rfl HAx.out)
  go_wp2_with (first | (refine wpList_store_mid rfl 25 (.tmp 6) (.tmp 27) rfl wa6.heap.size 0 (netC x) rfl rfl HTH.out HCx.out (netC_all _) ?_; generalize hw3 : World.setCells _ _ _ _ = wb6; refine Hid.out ?_) | fail)
  refine Lib.hid ?_
  obtain ⟨hn3, b1⟩ := net_new HAx.out hw3
  clear hw3 HTH
  replace HN4 := Lib.hid (HN4.out.on b1)
  have HB5 : Hid (Below w.heap.size w wb6) := HB4.out.trans (b1.mono HB4.out.size)
  have HN6 := Lib.hid hn3
  clear b1 hn3
  go_wp2_with (first | (go_at_call 11; refine (K3.out _ (HE.out.on HB5.out)).mono ?_; rintro e wa8 ⟨hm, rfl, b1⟩; refine Hid.out ?_) | fail)
  refine Lib.hid ?_
  replace HN4 := Lib.hid (HN4.out.on b1)
  replace HN6 := Lib.hid (HN6.out.on b1)
  have HB6 : Hid (Below w.heap.size w wa8) := HB5.out.trans (b1.mono HB5.out.size)
  clear b1
  have HAy := Lib.hid hm
  have HCy := Lib.hid (size25c hm)
  have HSy := Lib.hid (size25_of hm)
  clear hm
  have HTH := Lib.hid (there_net (NetAt.new wa8 zeroN) rfl HAy.out)
  go_wp2_with (first | (refine wpList_store_mid rfl 25 (.tmp 8) (.tmp 32) rfl wa8.heap.size 0 (netC y) rfl rfl HTH.out HCy.out (netC_all _) ?_; generalize hw3 : World.setCells _ _ _ _ = wb8; refine Hid.out ?_) | fail)
  refine Lib.hid ?_
  obtain ⟨hn3, b1⟩ := net_new HAy.out hw3
  clear hw3 HTH
  replace HN4 := Lib.hid (HN4.out.on b1)
  replace HN6 := Lib.hid (HN6.out.on b1)
  have HB7 : Hid (Below w.heap.size w wb8) := HB6.out.trans (b1.mono HB6.out.size)
  have HN8 := Lib.hid hn3
  clear b1 hn3
  go_wp2_with (first | (go_at_call 12; refine (K4.out _).mono ?_; rintro e wa10 ⟨hm, rfl, b1⟩; refine Hid.out ?_) | fail)
  refine Lib.hid ?_
  replace HN4 := Lib.hid (HN4.out.on b1)
  replace HN6 := Lib.hid (HN6.out.on b1)
  replace HN8 := Lib.hid (HN8.out.on b1)
  have HB8 : Hid (Below w.heap.size w wa10) := HB7.out.trans (b1.mono HB7.out.size)
  clear b1
  clear hm
  have HTH := Lib.hid (there_net (NetAt.new wa10 zeroN) rfl HAy.out)
  go_wp2_with (first | (refine wpList_store_mid rfl 25 (.tmp 10) (.tmp 37) rfl wa10.heap.size 0 (netC y) rfl rfl HTH.out HCy.out (netC_all _) ?_; generalize hw3 : World.setCells _ _ _ _ = wb10; refine Hid.out ?_) | fail)
  refine Lib.hid ?_
  obtain ⟨hn3, b1⟩ := net_new HAy.out hw3
  clear hw3 HTH
  replace HN4 := Lib.hid (HN4.out.on b1)
  replace HN6 := Lib.hid (HN6.out.on b1)
  replace HN8 := Lib.hid (HN8.out.on b1)
  have HB9 : Hid (Below w.heap.size w wb10) := HB8.out.trans (b1.mono HB8.out.size)
  have HN10 := Lib.hid hn3
  clear b1 hn3
  go_wp2_with (first | (go_at_call 13; refine (K5.out _ (HE.out.on HB9.out) (utf_on HT.out HB9.out)).mono ?_; rintro e w10 ⟨v1, rfl, o1, b1⟩; refine Hid.out ?_) | fail)
  obtain ⟨la, lc, rfl, _⟩ := o1.form
  have HO1 := Lib.hid o1
  clear o1
  have HL4 := Lib.hid (heap_lt HN4.out)
  have HL6 := Lib.hid (heap_lt HN6.out)
  have HL8 := Lib.hid (heap_lt HN8.out)
  have HL10 := Lib.hid (heap_lt HN10.out)
  have HBL := Lib.hid HB9.out.size
  refine Lib.hid ?_
  replace HN4 := Lib.hid (HN4.out.on b1)
  replace HN6 := Lib.hid (HN6.out.on b1)
  replace HN8 := Lib.hid (HN8.out.on b1)
  replace HN10 := Lib.hid (HN10.out.on b1)
  have HB10 : Hid (Below w.heap.size w w10) := HB9.out.trans (b1.mono HB9.out.size)
  clear b1
  go_wp2_with (first | (go_at_call 14; refine (K6.out _).mono ?_; rintro e w11 ⟨v2, rfl, o2, b1⟩; refine Hid.out ?_) | fail)
  obtain ⟨ma, mc, rfl, _⟩ := o2.form
  have HO2 := Lib.hid o2
  clear o2
  refine Lib.hid ?_
  replace HN4 := Lib.hid (HN4.out.on b1)
  replace HN6 := Lib.hid (HN6.out.on b1)
  replace HN8 := Lib.hid (HN8.out.on b1)
  replace HN10 := Lib.hid (HN10.out.on b1)
  replace HO1 := Lib.hid (HO1.out.on b1)
  have HB11 : Hid (Below w.heap.size w w11) := HB10.out.trans (b1.mono HB10.out.size)
  clear b1
  have hsm := rSame la ma lc mc ns ns w11 (OwnsN.nets HO1.out) (OwnsN.nets HO2.out) (by have := HNL.out; omega)
  rw [show decide (ns = ns) = true by simp] at hsm
  have HSM := Lib.hid hsm
  clear hsm
  go_wp2_with (first | (go_at_call 15; refine HSM.out.mono ?_; rintro e w12 ⟨rfl, b1⟩; refine Hid.out ?_) | fail)
  refine Lib.hid ?_
  replace HN4 := Lib.hid (HN4.out.on b1)
  replace HN6 := Lib.hid (HN6.out.on b1)
  replace HN8 := Lib.hid (HN8.out.on b1)
  replace HN10 := Lib.hid (HN10.out.on b1)
  replace HO1 := Lib.hid (HO1.out.on b1)
  have HB12 : Hid (Below w.heap.size w w12) := HB11.out.trans (b1.mono HB11.out.size)
  clear b1
  have HRW := Lib.hid (OwnsN.rowAt HO1.out)
  clear HO1 HSM
  have HC77 := Lib.hid (size25c (n := n77) rfl)
  obtain ⟨R, hR⟩ : ∃ R : Value → World → Prop, R = fun i wr => ∃ k : Nat, k ≤ ns.length ∧ i = .int .i64 (k : Int) ∧ NetAt wr wa4.heap.size x ∧ NetAt wr wa6.heap.size x ∧ NetAt wr wa8.heap.size y ∧ NetAt wr wa10.heap.size y ∧ RowAt wb10.heap.size la ns.length wr ∧ Below w.heap.size w wr := ⟨_, rfl⟩
  have HR := Lib.hid hR
  clear hR
  go_wp2
  go_loopw [17] (fun i wr => R i wr) (fun i _ => ns.length - (intOf i).toNat)
  case atStart => rw [HR.out]; exact ⟨0, Nat.zero_le _, rfl, HN4.out, HN6.out, HN8.out, HN10.out, HRW.out, HB12.out⟩
  case round =>
    rw [HR.out] at hrel
    obtain ⟨k, hk, rfl, h4, h6, h8, h10, hrow, hb⟩ := hrel
    have hnl := HNL.out
    by_cases hlt : k < ns.length
    · have i1 : (k : Int) < (ns.length : Int) := by omega
      have i0 : (0 : Int) ≤ (k : Int) := by omega
      rcases hrow with h0 | ⟨g, cur, rfl, hh, hcs, hg⟩
      · omega
      have HTH := Lib.hid (row_there hh (o := k * 18) (n := (netC n77).size) (by show k * 18 + 18 ≤ _; omega))
      have HF : Hid (∀ w3, wr.setCells g (k * 18) (netC n77).toList = w3 → R (.int .i64 ((k : Int) + 1)) w3) := fun w3 hw => by
        obtain ⟨hk1, hk2⟩ := keep_setCells g (netC n77).toList (k * 18) wr
        have hk3 := heap_setCells g 25 (0, 0) (netC n77).toList (k * 18) wr cur hh
        rw [hw] at hk1 hk2 hk3
        rw [HR.out]
        refine ⟨k + 1, by omega, by simp, h4.kept hk1 (by have := HL4.out; omega), h6.kept hk1 (by have := HL6.out; omega), h8.kept hk1 (by have := HL8.out; omega), h10.kept hk1 (by have := HL10.out; omega), Or.inr ⟨g, _, rfl, hk3, by rw [setL_size]; exact hcs, hg⟩, hb.trans (hk1.below (Nat.le_trans HBL.out hg) (heap_lt hh))⟩
      clear h4 h6 h8 h10 hh hcs hg hb
      go_wp2_with (first | (refine wpList_store_mid rfl 25 (.tmp 61) (.tmp 60) rfl g (k * 18) (netC n77) rfl rfl HTH.out HC77.out (netC_all _) ?_; generalize hw3 : World.setCells _ _ _ _ = w3; refine Hid.out ?_) | fail)
      refine Lib.hid ?_
      have HF3 := Lib.hid (HF.out w3 hw3)
      clear hw3
      go_wp2
      go_roundw
      case rel => exact HF3.out
      case measure => simp [intOf]; omega
    · obtain rfl : k = ns.length := by omega
      have i1 : ¬ (ns.length : Int) < (ns.length : Int) := by omega
      have G4 := Lib.hid h4
      have G6 := Lib.hid h6
      have G8 := Lib.hid h8
      have G10 := Lib.hid h10
      have GB := Lib.hid hb
      have hcc : (c == c) = true := by simp
      have hdd : (d == d) = true := by simp
      have hqq : (q == q) = true := by simp
      clear h4 h6 h8 h10 hrow hb HN4 HN6 HN8 HN10
      go_wp2_with (first
        | (refine wpList_load_g (by rfl) 25 (.tmp 4) rfl wa4.heap.size 0 rfl (netL x) _ G4.out.range0 Tryd.underlying25 rfl HSx.out ?_)
        | (refine wpList_load_g (by rfl) 25 (.tmp 6) rfl wa6.heap.size 0 rfl (netL x) _ G6.out.range0 Tryd.underlying25 rfl HSx.out ?_)
        | (refine wpList_load_g (by rfl) 25 (.tmp 8) rfl wa8.heap.size 0 rfl (netL y) _ G8.out.range0 Tryd.underlying25 rfl HSy.out ?_)
        | (refine wpList_load_g (by rfl) 25 (.tmp 10) rfl wa10.heap.size 0 rfl (netL y) _ G10.out.range0 Tryd.underlying25 rfl HSy.out ?_)
        | (refine wpList_eql_g (by rfl) (.tmp 64) (.tmp 65) 25 rfl x x rfl rfl HAx.out HAx.out ?_; rw [show decide (x = x) = true by simp])
        | (refine wpList_eql_g (by rfl) (.tmp 74) (.tmp 75) 25 rfl y y rfl rfl HAy.out HAy.out ?_; rw [show decide (y = y) = true by simp])
        | fail)
      go_ret
      exact ⟨by simp, GB.out⟩
end Go.Proofs.YtdmajikhpacpfaaDoor.Cidr
