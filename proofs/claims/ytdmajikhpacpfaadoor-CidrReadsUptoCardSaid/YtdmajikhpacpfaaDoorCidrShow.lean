/-
  CIDR, the given answers: a range's form.
-/
import Derived.Test.YtdmajikhpacpfaaDoorCidrForm2
import Derived.Test.YtdmajikhpacpfaaDoorCidrG2
import Derived.Test.YtdmajikhpacpfaaDoorCidrParse
import Derived.BigQuiet
import Derived.Deep.RegionHeld3
namespace Go.Proofs.YtdmajikhpacpfaaDoor.Cidr
open Go.RowKit Base
def fourA (a : List UInt8) : Nat → List UInt8
  | 0 => []
  | k + 1 => (fourA a k ++ (if 0 < k then [46] else [])) ++ Lib.decDigits (a.getD k 0).toNat
def addrS (n : NetM) : List UInt8 := if n.six = true then form6 n.a else fourA n.a 4
def showN (n : NetM) : Option (List UInt8) := if rightN n = true then some (if n.bits = sizeN n.six then addrS n else (addrS n ++ [47]) ++ Lib.decDigits n.bits.toNat) else none
theorem dec_len0 : ∀ (k n : Nat), n < 10 ^ (k + 1) → (Lib.decDigits n).length ≤ k + 1
  | 0, n, h => by rw [Lib.decDigits, dif_pos (by omega)]; simp
  | k + 1, n, h => by
    rw [Lib.decDigits]
    split
    · simp
    · have := dec_len0 k (n / 10) (by rw [Nat.pow_succ] at h; omega)
      simp; omega
theorem outN_len {G : List Nat} (hG : ∀ j, G.getD j 0 ≤ 65535) (o : Option Nat) (m : Nat) : ∀ (f : Nat) (s : List UInt8) (i : Nat), (outN G o m f s i).length ≤ s.length + 5 * f
  | 0, s, i => by simp [outN]
  | f + 1, s, i => by
    rw [outN]
    split
    · split
      · have := outN_len hG o m f (s ++ [58, 58]) (i + m)
        simp at this; omega
      · have h1 := hexD_len _ (hG i)
        refine Nat.le_trans (outN_len hG o m f _ (i + 1)) ?_
        rw [List.length_append]
        have : (if s ≠ [] ∧ s.getLastD 0 ≠ 58 then s ++ [58] else s).length ≤ s.length + 1 := by split <;> simp
        omega
    · omega
theorem grpsA_le (a : List UInt8) (j : Nat) : (grpsA a).getD j 0 ≤ 65535 := by
  unfold grpsA
  rw [List.getD_eq_getElem?_getD, List.getElem?_map]
  cases (List.range 8)[j]? with
  | none => simp
  | some i => exact grpA_le a i
theorem form6_len (a : List UInt8) : (form6 a).length ≤ 40 := by
  have := outN_len (grpsA_le a) (bestN (grpsA a) 8).1 (bestN (grpsA a) 8).2 8 [] 0
  simpa [form6] using this
theorem fourA_len (a : List UInt8) : ∀ (k : Nat), (fourA a k).length ≤ 4 * k
  | 0 => by simp [fourA]
  | k + 1 => by
    have h1 := fourA_len a k
    have h2 := dec_len0 2 (a.getD k 0).toNat (by have := (a.getD k 0).toNat_lt; omega)
    unfold fourA
    rw [List.length_append, List.length_append]
    have : (if 0 < k then [(46 : UInt8)] else []).length ≤ 1 := by split <;> simp
    omega
theorem addrS_len (n : NetM) : (addrS n).length ≤ 40 := by
  unfold addrS
  split
  · exact form6_len _
  · have := fourA_len n.a 4; omega
def ShowEnd (o : Option (List UInt8)) (w : World) (e : Ending) (w' : World) : Prop :=
  Below w.heap.size w w' ∧ ((o = none ∧ e = .returned (.tuple #[.string ⟨#[]⟩, .int .i64 70])) ∨ ∃ l, o = some l ∧ e = .returned (.tuple #[S l, .int .i64 0]))
set_option maxHeartbeats 4000000 in
set_option maxRecDepth 100000 in
theorem rShow (n : NetM) (ha : n.a.length = 16) (w : World) : Calls Tryd.prog 16 #[netV n] w (ShowEnd (showN n) w) := by
  obtain ⟨o, ho⟩ : ∃ o, o = showN n := ⟨_, rfl⟩
  rw [← ho]
  unfold showN at ho
  have hnb := fun h => rightN_bits (n := n) h
  have HRI := Lib.hid (fun wx => rRight n ha wx)
  have HA := Lib.hid ha
  have HN0 := Lib.hid (NetAt.new w n)
  have HB0 := Lib.hid (Below.alloc1 w (.cells (netC n) 25))
  have HS := Lib.hid (size25_of ha)
  generalize rightN n = r at ho hnb HRI
  have HO := Lib.hid ho
  clear ho ha
  go_enter Tryd.func16, Tryd.ntmps16
  go_wp2_with (first | (refine wpList_load_mid rfl 25 (.tmp 1) rfl w.heap.size 0 rfl (netL n) _ HN0.out.range0 Tryd.underlying25 rfl HS.out ?_) | (go_at_call 19; refine (HRI.out _).mono ?_; rintro e w1 ⟨rfl, b1⟩; refine Hid.out ?_) | fail)
  refine Lib.hid ?_
  have HN1 := Lib.hid (HN0.out.on b1)
  have HB1 : Hid (Below w.heap.size w w1) := HB0.out.trans (b1.mono HB0.out.size)
  clear b1
  cases r with
  | false =>
    have HNO : Hid (o = none) := HO.out
    go_wp2
    go_ret2
    exact ⟨HB1.out, Or.inl ⟨HNO.out, rfl⟩⟩
  | true =>
    obtain ⟨hb0, hb1⟩ := hnb rfl
    have HYES : Hid (o = some (if n.bits = sizeN n.six then addrS n else (addrS n ++ [47]) ++ Lib.decDigits n.bits.toNat)) := HO.out
    clear hnb HO
    have hsix := HN1.out.six
    obtain ⟨T, hT⟩ : ∃ T : ByteArray, T = ⟨(addrS n).toArray⟩ := ⟨_, rfl⟩
    have HT := Lib.hid hT
    clear hT
    go_upto_if 12 with fail
    go_cut [5] (fun s wx => s = .string T ∧ Below w1.heap.size w1 wx ∧ T.size ≤ 100)
    case first =>
      cases h6 : n.six with
      | true =>
        have HF := Lib.hid (rForm6 n.a HA.out w1)
        have HRG := Lib.hid HN1.out.range
        have HS23 := Lib.hid (size23_of HA.out)
        rw [h6] at hsix
        have HE : Hid ((⟨(form6 n.a).toArray⟩ : ByteArray) = T) := by
          show _ = _
          rw [HT.out]; unfold addrS; rw [if_pos h6]
        have HL : Hid (T.size ≤ 100) := by
          have := form6_len n.a
          show T.size ≤ 100
          rw [← HE.out, arr_size]; omega
        clear h6
        go_wp2_with (first | (refine wpList_load_mid rfl 23 (.tmp 13) rfl w.heap.size 2 rfl (n.a.map B8) _ HRG.out Tryd.underlying23 rfl HS23.out ?_) | (go_at_call 37; refine HF.out.mono ?_; rintro e w2 ⟨rfl, b2⟩; refine Hid.out ?_) | fail)
        refine Lib.hid ?_
        have B2 := Lib.hid b2
        clear b2
        go_wp2
        go_meet
        exact ⟨by rw [← HE.out], B2.out, HL.out⟩
      | false =>
        rw [h6] at hsix
        have HE : Hid ((⟨(fourA n.a 4).toArray⟩ : ByteArray) = T) := by
          show _ = _
          rw [HT.out]; unfold addrS; rw [if_neg (by rw [h6]; simp)]
        have HL : Hid (T.size ≤ 100) := by
          have := fourA_len n.a 4
          show T.size ≤ 100
          rw [← HE.out, arr_size]; omega
        clear h6
        obtain ⟨R, hR⟩ : ∃ R : Value → Value → World → Prop, R = fun s i wr => ∃ (k : Nat) (U : ByteArray), k ≤ 4 ∧ i = .int .i64 (k : Int) ∧ s = .string U ∧ U.data.toList = fourA n.a k ∧ NetAt wr w.heap.size n ∧ Below w1.heap.size w1 wr := ⟨_, rfl⟩
        have HR := Lib.hid hR
        clear hR
        go_wp2
        go_loopw [5, 6] (fun s i wr => R s i wr) (fun _ i _ => 4 - (intOf i).toNat)
        case atStart => rw [HR.out]; exact ⟨0, ⟨#[]⟩, by omega, rfl, rfl, rfl, HN1.out, Below.refl _ _⟩
        case round =>
          rw [HR.out] at hrel
          obtain ⟨k, U, hk, rfl, rfl, hU, hat, hbw⟩ := hrel
          by_cases hlt : k < 4
          · obtain ⟨c1, _⟩ := hat.cellA (k := k) (by rw [HA.out]; omega)
            have hx := (n.a.getD k 0).toNat_lt
            have hul : U.size ≤ 16 := by rw [← str_len, hU]; have := fourA_len n.a k; omega
            obtain ⟨x, hx1⟩ : ∃ x, x = (n.a.getD k 0).toNat := ⟨_, rfl⟩
            rw [← hx1] at c1 hx
            have HX := Lib.hid hx1
            have HD := Lib.hid (rDigits_any x (by omega) wr)
            have hdl := dec_len0 2 x (by omega)
            have HUU := Lib.hid hU
            have HAT := Lib.hid hat
            have HBR := Lib.hid hbw
            have i1 : (k : Int) < 4 := by omega
            have i0 : (0 : Int) ≤ (k : Int) := by omega
            have i2 : IntKind.i64.wrap (x : Int) = (x : Int) := IntWalk.i64_in _ (by omega)
            clear hx1 hU hat hbw
            by_cases hk0 : k = 0
            · have i3 : ¬ (0 : Int) < (k : Int) := by omega
              have HO5 : Hid ((U ++ (⟨(Lib.decDigits x).toArray⟩ : ByteArray)).data.toList = fourA n.a (k + 1)) := by
                show _ = _
                rw [Joins.data_append, fourA, ← HX.out]
                rw [HUU.out, if_neg (by omega), List.append_nil]
              have hds : (⟨(Lib.decDigits x).toArray⟩ : ByteArray).size ≤ 3 := by rw [arr_size]; exact hdl
              generalize (⟨(Lib.decDigits x).toArray⟩ : ByteArray) = DX at HD HO5 hds
              clear hk0
              go_wp2_with (go_at_call 38; refine HD.out.mono ?_; rintro e w5 ⟨rfl, b5⟩; refine Hid.out ?_)
              refine Lib.hid ?_
              have HRR : Hid (R (.string (U ++ DX)) (.int .i64 ((k : Int) + 1)) w5) := by
                show R _ _ _
                rw [HR.out]
                exact ⟨k + 1, _, by omega, by simp, rfl, HO5.out, HAT.out.on b5, HBR.out.trans (b5.mono HBR.out.size)⟩
              clear b5
              go_wp2
              go_roundw
              case rel => exact HRR.out
              case measure => simp [intOf]; omega
            · have i3 : (0 : Int) < (k : Int) := by omega
              have hus : (U ++ (⟨#[46]⟩ : ByteArray)).size = U.size + 1 := by rw [ByteArray.size_append]; rfl
              have HO5 : Hid ((U ++ ⟨#[46]⟩ ++ (⟨(Lib.decDigits x).toArray⟩ : ByteArray)).data.toList = fourA n.a (k + 1)) := by
                show _ = _
                rw [Joins.data_append, fourA, ← HX.out]
                rw [Joins.data_append, HUU.out, if_pos (by omega)]
              have hds : (⟨(Lib.decDigits x).toArray⟩ : ByteArray).size ≤ 3 := by rw [arr_size]; exact hdl
              generalize (⟨(Lib.decDigits x).toArray⟩ : ByteArray) = DX at HD HO5 hds
              clear hk0
              go_wp2_with (go_at_call 38; refine HD.out.mono ?_; rintro e w5 ⟨rfl, b5⟩; refine Hid.out ?_)
              refine Lib.hid ?_
              have HRR : Hid (R (.string (U ++ ⟨#[46]⟩ ++ DX)) (.int .i64 ((k : Int) + 1)) w5) := by
                show R _ _ _
                rw [HR.out]
                exact ⟨k + 1, _, by omega, by simp, rfl, HO5.out, HAT.out.on b5, HBR.out.trans (b5.mono HBR.out.size)⟩
              clear b5
              go_wp2
              go_roundw
              case rel => exact HRR.out
              case measure => simp [intOf]; omega
          · obtain rfl : k = 4 := by omega
            have HBR := Lib.hid hbw
            have HU4 : Hid (U = T) := by
              show _ = _
              rw [← HE.out, ← hU]
            have i1 : ¬ ((4 : Nat) : Int) < 4 := by omega
            clear hU hat hbw
            go_wp2
            go_meet
            exact ⟨by rw [HU4.out], HBR.out, HL.out⟩
    case rest =>
      obtain ⟨rfl, hbc, hTl⟩ := hcut
      have hn := HN1.out.on hbc
      have hs0 := hn.six
      have hb := hn.bits
      have HBC : Hid (Below w.heap.size w wc) := HB1.out.trans (hbc.mono HB1.out.size)
      have HSZ := Lib.hid (fun wx => rSize n.six wx)
      rw [show (if n.six = true then (128 : Int) else 32) = sizeN n.six from rfl] at HSZ
      generalize sizeN n.six = sz at HSZ HYES
      have HNN := Lib.hid hn
      clear hn hbc hsix
      by_cases he : n.bits = sz
      · have e1 : (n.bits == sz) = true := by rw [he]; simp
        have HY2 : Hid (o = some (addrS n)) := by have := HYES.out; rw [if_pos he] at this; exact this
        clear he
        have HST : Hid (Below wc.heap.size wc wc.drew ∧ wc.drew.cell? ⟨w.heap.size, 0, none⟩ = some (.bool n.six) ∧ wc.drew.cell? ⟨w.heap.size, 1, none⟩ = some (.int .i64 n.bits)) := ⟨⟨rfl, rfl, rfl, Nat.le_refl _, fun _ _ => rfl⟩, hs0, hb⟩
        go_wp2
        go_region_held3 (fun w' => Below wc.heap.size wc w' ∧ w'.cell? ⟨w.heap.size, 0, none⟩ = some (.bool n.six) ∧ w'.cell? ⟨w.heap.size, 1, none⟩ = some (.int .i64 n.bits))
          (first | exact HST.out | assumption | fail)
          (first | (go_at_call 39; refine (HSZ.out _).mono ?_; rintro e wn ⟨rfl, rfl⟩) | fail)
        go_wp2
        go_ret2
        exact ⟨⟨HBC.out.os, HBC.out.tape, HBC.out.output, HBC.out.size, HBC.out.block⟩, Or.inr ⟨_, HY2.out, by rw [HT.out]; rfl⟩⟩
      · have e1 : (n.bits == sz) = false := by rw [beq_eq_false_iff_ne]; exact he
        have HY2 : Hid (o = some ((addrS n ++ [47]) ++ Lib.decDigits n.bits.toNat)) := by have := HYES.out; rw [if_neg he] at this; exact this
        obtain ⟨m, hm⟩ := Int.eq_ofNat_of_zero_le hb0
        have HD := Lib.hid (fun wx => rDigits_any m (by omega) wx)
        have hdl := dec_len0 2 m (by omega)
        have hds : (⟨(Lib.decDigits m).toArray⟩ : ByteArray).size ≤ 3 := by rw [arr_size]; exact hdl
        have hts : (T ++ (⟨#[47]⟩ : ByteArray)).size = T.size + 1 := by rw [ByteArray.size_append]; rfl
        have HFIN : Hid ((T ++ ⟨#[47]⟩) ++ (⟨(Lib.decDigits m).toArray⟩ : ByteArray) = ⟨((addrS n ++ [47]) ++ Lib.decDigits n.bits.toNat).toArray⟩) := by
          show _ = _
          apply ByteArray.ext
          apply Array.toList_inj.1
          rw [Joins.data_append, Joins.data_append, HT.out, hm]
          simp
        rw [hm] at hb e1
        generalize (⟨(Lib.decDigits m).toArray⟩ : ByteArray) = DX at HD hds HFIN
        clear he hdl hm
        have HST : Hid (Below wc.heap.size wc wc.drew ∧ wc.drew.cell? ⟨w.heap.size, 0, none⟩ = some (.bool n.six) ∧ wc.drew.cell? ⟨w.heap.size, 1, none⟩ = some (.int .i64 (m : Int))) := ⟨⟨rfl, rfl, rfl, Nat.le_refl _, fun _ _ => rfl⟩, hs0, hb⟩
        go_wp2
        go_region_held3 (fun w' => Below wc.heap.size wc w' ∧ w'.cell? ⟨w.heap.size, 0, none⟩ = some (.bool n.six) ∧ w'.cell? ⟨w.heap.size, 1, none⟩ = some (.int .i64 (m : Int)))
          (first | exact HST.out | assumption | fail)
          (first | (go_at_call 39; refine (HSZ.out _).mono ?_; rintro e wn ⟨rfl, rfl⟩) | fail)
        go_wp2_with (go_at_call 38; refine (HD.out _).mono ?_; rintro e w5 ⟨rfl, b5⟩; refine Hid.out ?_)
        refine Lib.hid ?_
        have HB5 := Lib.hid (HBC.out.trans (Below.mono (show Below wc.heap.size wc w5 from (show Below wc.heap.size wc wc.drew from ⟨rfl, rfl, rfl, Nat.le_refl _, fun _ _ => rfl⟩).trans b5) HBC.out.size))
        clear b5
        go_wp2
        go_ret2
        exact ⟨HB5.out, Or.inr ⟨_, HY2.out, by rw [HFIN.out]; rfl⟩⟩
end Go.Proofs.YtdmajikhpacpfaaDoor.Cidr
