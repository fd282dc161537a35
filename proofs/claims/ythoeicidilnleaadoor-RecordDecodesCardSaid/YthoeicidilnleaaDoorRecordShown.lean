/-
  RECORD: the document's examples, which every statement asks first.
-/
import Derived.Test.YthoeicidilnleaaDoorRecordDec
namespace Go.Proofs.YthoeicidilnleaaDoor.Codec
open Go.RowKit

def smallM : Msg := ⟨7, ⟨#[]⟩, [(⟨#[97, 64, 98]⟩, 80)], []⟩
theorem smallFits : Fits smallM := by
  refine ⟨by decide, by decide, by decide, fun r hr => ?_, by decide, by decide⟩
  rcases List.mem_singleton.1 hr with rfl
  decide
theorem smallRight : rightOf smallM = 0 := by decide +kernel
theorem smallLen : (bytesOf smallM).length = 35 := by decide +kernel
theorem smallHead : (bytesOf smallM).take 26 = [87, 49, 59, 116, 55, 59, 102, 48, 58, 44, 110, 49, 59, 114, 80, 51, 58, 97, 64, 98, 44, 100, 48, 58, 44, 101] := by decide +kernel
theorem smallAt : markAt smallM 0 = 14 := by decide +kernel
theorem smallCut : (decodeF ((bytesOf smallM).take 34)).2 = 32 := by decide +kernel
theorem smallBack : (decodeF (bytesOf smallM)).2 = 0 ∧ (decodeF (bytesOf smallM)).1.time = 7 := by decide +kernel

theorem cSmall (w : World) : Calls Tryd.prog 19 #[] w fun e w' => ∃ V, e = .returned V ∧ MR w' V smallM ∧ Below w.heap.size w w' := by
  go_enter Tryd.func19, Tryd.ntmps19
  go_wp2
  refine bodyPost_ret (v := .agg #[.int .i64 7, .string ⟨#[]⟩, .slice (some ⟨w.heap.size + 1, 0, none⟩) 1 1, .slice none 0 0]) (by simp [results, Tryd.results19, go_sem]) rfl ⟨_, rfl, ⟨some ⟨w.heap.size + 1, 0, none⟩, 1, none, 0, rfl, ⟨Nat.le_refl _, fun _ => ⟨_, _, rfl, fun i hi => ?_⟩⟩, Or.inl ⟨rfl, none, 0, rfl, fun _ => rfl⟩⟩, ?_⟩
  · obtain rfl : i = 0 := by have : i < 1 := hi; omega
    constructor
    · go_simp; rfl
    · go_simp; rfl
  · exact ((Below.alloc1 w _).alloc (by simp) _)

theorem ORow.form {w : World} {B : Nat} {v : Value} {n : Nat} {xs : List Value} (h : ORow w B v n xs) : ∃ A q, v = .slice A n q := by
  rcases h.2 with ⟨rfl, rfl⟩ | ⟨g, cap, cur, rfl, _⟩
  · exact ⟨none, 0, rfl⟩
  · exact ⟨_, cap, rfl⟩
theorem Owns.old {w : World} {B : Nat} {g n c : Nat} {l : List UInt8} (h : Owns w B (.slice (some ⟨g, 0, none⟩) n c) l) (k c' : Nat) : Old w.heap.size (.slice (some ⟨g, 0, none⟩) k c') := fun a ha => by
  have := (World.ownsRow.lt h g rfl).2
  simp [Value.ownBlock] at ha; omega

set_option maxHeartbeats 1000000 in
set_option maxRecDepth 100000 in
theorem shown_any (w : World) (htab : Tab w.heap.size w) : Calls Tryd.prog 7 #[] w fun e w' => e = .returned (.bool true) ∧ Below w.heap.size w w' := by
  have K1 := Lib.hid cSmall
  have K2 := Lib.hid (fun v w (h : MR w v smallM) ht => cEncode_yes v smallM w smallFits h smallRight ht)
  have K3 : Hid (∀ v w, MR w v smallM → Tab w.heap.size w → Calls Tryd.prog 12 #[v, .int .i64 0] w fun e w' => e = .returned (.tuple #[.int .i64 14, .int .i64 0]) ∧ Below w.heap.size w w') := fun v w h ht =>
    (cMarkAt_yes v smallM 0 w smallFits h smallRight ht).mono fun e w' ⟨a, b⟩ => ⟨by rw [a, if_pos (by decide)]; have := smallAt; rw [show (0 : Int).toNat = 0 from rfl, this]; rfl, b⟩
  have K4 : Hid (∀ v w, MR w v smallM → Tab w.heap.size w → Calls Tryd.prog 12 #[v, .int .i64 1] w fun e w' => e = .returned (.tuple #[.int .i64 0, .int .i64 1]) ∧ Below w.heap.size w w') := fun v w h ht =>
    (cMarkAt_yes v smallM 1 w smallFits h smallRight ht).mono fun e w' ⟨a, b⟩ => ⟨by rw [a, if_neg (by decide)], b⟩
  have K5 : Hid (∀ bv w, Reads w bv ((bytesOf smallM).take 34) → Old w.heap.size bv → Calls Tryd.prog 17 #[bv] w fun e w' => e = .returned (.tuple #[.agg #[.int .i64 0, .string ⟨#[]⟩, .slice none 0 0, .slice none 0 0], .int .i64 32]) ∧ Below w.heap.size w w') := fun bv w h ho =>
    (cDecode bv _ w h ho (by have := List.length_take_le 34 (bytesOf smallM); omega)).mono fun e w' ⟨⟨V, a, _, c⟩, b⟩ => by
      rw [smallCut] at a c
      rw [c (by decide)] at a
      exact ⟨a, b⟩
  have K6 : Hid (∀ bv w, Reads w bv (bytesOf smallM) → Old w.heap.size bv → Calls Tryd.prog 17 #[bv] w fun e w' => ∃ s a n c a' n' c', e = .returned (.tuple #[.agg #[.int .i64 7, .string s, .slice a n c, .slice a' n' c'], .int .i64 0]) ∧ Below w.heap.size w w') := fun bv w h ho =>
    (cDecode bv _ w h ho (by rw [smallLen]; omega)).mono fun e w' ⟨⟨V, a, g, _⟩, b⟩ => by
      rw [smallBack.1] at a g
      obtain ⟨RV, bb, cap, S, rfl, hrow, _⟩ := g rfl
      obtain ⟨A, q, rfl⟩ := hrow.form
      rw [smallBack.2] at a
      exact ⟨_, _, _, _, _, _, _, a, b⟩
  have HL := Lib.hid smallLen
  have HH := Lib.hid smallHead
  have HT := Lib.hid htab
  generalize bytesOf smallM = B at K2 K5 K6 HL HH
  clear htab
  go_enter Tryd.func7, Tryd.ntmps7
  go_wp2_with (go_at_call 19; refine (K1.out _).mono ?_; rintro e w1 ⟨V1, rfl, m1, b1⟩; refine Hid.out ?_)
  refine Lib.hid ?_
  go_wp2_with (go_at_call 10; refine (K2.out _ _ m1 (HT.out.on b1 |>.up b1.size)).mono ?_; rintro e w2 ⟨v2, rfl, o2, b2⟩; refine Hid.out ?_)
  refine Lib.hid ?_
  replace b2 := b1.trans (b2.mono b1.size)
  obtain ⟨g2, c2, hv2, hc2, hd2⟩ := o2.form2 (by rw [HL.out]; omega)
  rw [HL.out] at hv2 hc2
  subst hv2
  have hcv := conv_reads (o2.cut 26 (by rw [HL.out]; omega))
  rw [HH.out] at hcv
  go_wp2_with (go_at_call 19; refine (K1.out _).mono ?_; rintro e w3 ⟨V3, rfl, m3, b3⟩; refine Hid.out ?_)
  refine Lib.hid ?_
  have o3 := o2.on b3
  replace b3 := b2.trans (b3.mono b2.size)
  clear hcv m1
  go_wp2_with (go_at_call 12; refine (K3.out _ _ m3 (HT.out.on b3 |>.up b3.size)).mono ?_; rintro e w4 ⟨rfl, b4⟩; refine Hid.out ?_)
  refine Lib.hid ?_
  have o4 := o3.on b4
  replace b4 := b3.trans (b4.mono b3.size)
  go_wp2_with (go_at_call 19; refine (K1.out _).mono ?_; rintro e w5 ⟨V5, rfl, m5, b5⟩; refine Hid.out ?_)
  refine Lib.hid ?_
  have o5 := o4.on b5
  replace b5 := b4.trans (b5.mono b4.size)
  go_wp2_with (go_at_call 12; refine (K4.out _ _ m5 (HT.out.on b5 |>.up b5.size)).mono ?_; rintro e w6 ⟨rfl, b6⟩; refine Hid.out ?_)
  refine Lib.hid ?_
  have o6 := o5.on b6
  replace b6 := b5.trans (b6.mono b5.size)
  go_wp2_with (go_at_call 17; refine (K5.out _ _ (o6.cut 34 (by rw [HL.out]; omega)) (o6.old _ _)).mono ?_; rintro e w7 ⟨rfl, b7⟩; refine Hid.out ?_)
  refine Lib.hid ?_
  have o7 := o6.on b7
  replace b7 := b6.trans (b7.mono b6.size)
  have o7' := o7.on (Below.alloc1 w7 (.cells #[.int .i64 0, .string ⟨#[]⟩, .slice none 0 0, .slice none 0 0] 25))
  go_wp2_with (go_at_call 17; refine (K6.out _ _ o7'.reads (o7'.old _ _)).mono ?_; rintro e w8 ⟨s8, ra, rn, rc, rd, re, rf, rfl, b8⟩; refine Hid.out ?_)
  refine Lib.hid ?_
  replace b8 := (b7.alloc b7.size _).trans (b8.mono (by simp; have := b7.size; omega))
  go_wp2
  go_ret
  exact ⟨rfl, b8.alloc b8.size _⟩
end Go.Proofs.YthoeicidilnleaaDoor.Codec
