/-
  RECORD: the document's reader: numbers, texts, marks.
-/
import Derived.Test.YthoeicidilnleaaDoorRecordDcRd
namespace Go.Proofs.YthoeicidilnleaaDoor.Codec
open Go.RowKit

theorem sFixed_len (k : List UInt8) (s : St) : (sFixed k s).1.length ≤ s.1.length := by
  unfold sFixed; split
  · exact fixedF_le _ _
  · exact Nat.le_refl _
theorem sTook_len (n z : Int) (s : St) : (sTook n z s).1.length ≤ s.1.length := by
  unfold sTook; split
  · split
    · simp
    · exact Nat.le_refl _
  · exact Nat.le_refl _

set_option maxHeartbeats 1000000 in
set_option maxRecDepth 100000 in
theorem xNum (g B : Nat) (kd : ByteArray) (s : St) (w : World) (h : Sx w g s B) (hl : s.1.length ≤ 200000000000000) (hs : kd.size ≤ 1000) :
    Calls Tryd.prog 35 #[.pointer (some ⟨g, 0, none⟩), .string kd] w fun e w' => e = .returned (.int .i64 (sNum kd.data.toList s).1) ∧ Sx w' g (sNum kd.data.toList s).2 B ∧ KeepX g w w' := by
  have C1 := Lib.hid (xFixed g B kd s w h hl hs)
  have hlt := sFixed_len kd.data.toList s
  obtain ⟨N, S, Z, hZ, hS⟩ : ∃ (N : Int) (S : Nat) (Z : Int), takeNumber (sFixed kd.data.toList s).1 = (N, (S : Int), Z) ∧ (S ≤ (sFixed kd.data.toList s).1.length ∨ Z ≠ 0) := by
    rcases takeNumber_cases (sFixed kd.data.toList s).1 with ⟨z, h1, h2, h3⟩ | ⟨n, k, h1, h2, h3, h4⟩
    · exact ⟨0, 0, z, h3, Or.inr (by omega)⟩
    · exact ⟨n, k, 0, h4, Or.inl h3⟩
  have he : sNum kd.data.toList s = (N, sTook S Z (sFixed kd.data.toList s)) := by unfold sNum; rw [hZ]
  rw [he]
  generalize sFixed kd.data.toList s = t at *
  have C2 : Hid (∀ v w1, Reads w1 v t.1 → Calls Tryd.prog 51 #[v] w1 (TakeEnd (N, (S : Int), Z) w1)) := fun v w1 hr => by
    have := rTakeNumber v t.1 w1 hr (by omega)
    rwa [hZ] at this
  have C3 : Hid (∀ w1, Sx w1 g t B → Calls Tryd.prog 40 #[.pointer (some ⟨g, 0, none⟩), .int .i64 S, .int .i64 Z] w1 fun e w' => (∃ r, e = .returned r) ∧ Sx w' g (sTook S Z t) B ∧ KeepX g w1 w') := fun w1 h1 => xTook g B S Z t w1 h1 hS
  clear h hl hs hlt hZ hS he
  generalize sTook S Z t = u at *
  go_enter Tryd.func35, Tryd.ntmps35
  go_wp2_with (go_at_call 34; refine (C1.out).mono ?_; rintro e w1 ⟨⟨r, rfl⟩, h1, k1⟩; refine Hid.out ?_)
  refine Lib.hid ?_
  obtain ⟨bv, hh, hr, _⟩ := id h1
  obtain ⟨c0, c1, _, _⟩ := Sx.cells hh
  have H1 := Lib.hid h1
  have HR := Lib.hid hr
  clear h1 hh hr
  go_wp2_with (go_at_call 51; refine (C2.out _ _ HR.out).mono ?_; rintro e w2 ⟨rfl, rfl⟩; refine Hid.out ?_)
  refine Lib.hid ?_
  go_wp2_with (go_at_call 40; refine (C3.out _ H1.out).mono ?_; rintro e w3 ⟨⟨r3, rfl⟩, h3, k3⟩; refine Hid.out ?_)
  refine Lib.hid ?_
  clear c0 c1
  go_wp2
  go_ret
  exact ⟨rfl, h3, k1.trans k3⟩

set_option maxHeartbeats 1000000 in
set_option maxRecDepth 100000 in
theorem xTxt (g B : Nat) (kd : ByteArray) (s : St) (w : World) (h : Sx w g s B) (hl : s.1.length ≤ 200000000000000) (hs : kd.size ≤ 1000) :
    Calls Tryd.prog 36 #[.pointer (some ⟨g, 0, none⟩), .string kd] w fun e w' => e = .returned (.string ⟨(sTxt kd.data.toList s).1.toArray⟩) ∧ Sx w' g (sTxt kd.data.toList s).2 B ∧ KeepX g w w' := by
  have C1 := Lib.hid (xFixed g B kd s w h hl hs)
  have hlt := sFixed_len kd.data.toList s
  obtain ⟨N, S, Z, hZ, hS⟩ : ∃ (N : List UInt8) (S : Nat) (Z : Int), takeText (sFixed kd.data.toList s).1 = (N, (S : Int), Z) ∧ (S ≤ (sFixed kd.data.toList s).1.length ∨ Z ≠ 0) := by
    rcases takeText_cases (sFixed kd.data.toList s).1 with ⟨z, h1, h2, h3⟩ | ⟨n, k, h1, h2, h3, h4⟩
    · exact ⟨[], 0, z, h3, Or.inr (by omega)⟩
    · exact ⟨n, k, 0, h4, Or.inl h3⟩
  have he : sTxt kd.data.toList s = (N, sTook S Z (sFixed kd.data.toList s)) := by unfold sTxt; rw [hZ]
  rw [he]
  generalize sFixed kd.data.toList s = t at *
  have C2 : Hid (∀ v w1, Reads w1 v t.1 → Calls Tryd.prog 52 #[v] w1 (TextEnd (N, (S : Int), Z) w1)) := fun v w1 hr => by
    have := rTakeText v t.1 w1 hr (by omega)
    rwa [hZ] at this
  have C3 : Hid (∀ w1, Sx w1 g t B → Calls Tryd.prog 40 #[.pointer (some ⟨g, 0, none⟩), .int .i64 S, .int .i64 Z] w1 fun e w' => (∃ r, e = .returned r) ∧ Sx w' g (sTook S Z t) B ∧ KeepX g w1 w') := fun w1 h1 => xTook g B S Z t w1 h1 hS
  clear h hl hs hlt hZ hS he
  generalize sTook S Z t = u at *
  go_enter Tryd.func36, Tryd.ntmps36
  go_wp2_with (go_at_call 34; refine (C1.out).mono ?_; rintro e w1 ⟨⟨r, rfl⟩, h1, k1⟩; refine Hid.out ?_)
  refine Lib.hid ?_
  obtain ⟨bv, hh, hr, _⟩ := id h1
  obtain ⟨c0, c1, _, _⟩ := Sx.cells hh
  have H1 := Lib.hid h1
  have HR := Lib.hid hr
  clear h1 hh hr
  go_wp2_with (go_at_call 52; refine (C2.out _ _ HR.out).mono ?_; rintro e w2 ⟨rfl, rfl⟩; refine Hid.out ?_)
  refine Lib.hid ?_
  go_wp2_with (go_at_call 40; refine (C3.out _ H1.out).mono ?_; rintro e w3 ⟨⟨r3, rfl⟩, h3, k3⟩; refine Hid.out ?_)
  refine Lib.hid ?_
  clear c0 c1
  go_wp2
  go_ret
  exact ⟨rfl, h3, k1.trans k3⟩

set_option maxHeartbeats 1000000 in
set_option maxRecDepth 100000 in
theorem xMark (g B : Nat) (s : St) (w : World) (h : Sx w g s B) (hl : s.1.length ≤ 200000000000000) :
    Calls Tryd.prog 38 #[.pointer (some ⟨g, 0, none⟩)] w fun e w' => e = .returned (.int .u8 ((sMark s).1.toNat : Int)) ∧ Sx w' g (sMark s).2 B ∧ KeepX g w w' := by
  have C1 := Lib.hid (xFixed g B ⟨#[114]⟩ s w h hl (by decide))
  have hlt := sFixed_len [114] s
  obtain ⟨t, ht⟩ : ∃ t, t = sFixed [114] s := ⟨_, rfl⟩
  have hsm : sMark s = sMk t := by unfold sMark; rw [ht]
  rw [hsm]
  rw [← ht] at hlt
  have C1 : Hid (Calls Tryd.prog 34 #[.pointer (some ⟨g, 0, none⟩), .string ⟨#[114]⟩] w fun e w' => (∃ r, e = .returned r) ∧ Sx w' g t B ∧ KeepX g w w') := by
    unfold Hid; rw [ht]; exact C1.out
  have CM := Lib.hid rIsMark
  obtain ⟨t1, t2⟩ := t
  dsimp only at hlt
  clear h ht hsm
  by_cases h0 : t2 = 0
  · subst h0
    cases t1 with
    | nil =>
      have hs : sMk (([], 0) : St) = (0, [], 32) := by simp [sMk]
      rw [hs]
      clear hs
      go_enter Tryd.func38, Tryd.ntmps38
      go_wp2_with (go_at_call 34; refine (C1.out).mono ?_; rintro e w1 ⟨⟨r, rfl⟩, h1, k1⟩; refine Hid.out ?_)
      refine Lib.hid ?_
      obtain ⟨bv, hh, hr, _⟩ := id h1
      obtain ⟨c0, c1, f0, f1⟩ := Sx.cells hh
      obtain ⟨A, cc, rfl⟩ := hr.form
      have H1 := Lib.hid (h1.fault 32)
      clear h1 hh hr
      go_wp2
      go_ret
      exact ⟨rfl, H1.out, k1.trans (KeepX.set _ _ _ _)⟩
    | cons c r =>
      obtain ⟨x, hx⟩ : ∃ x : Int, x = (c.toNat : Int) := ⟨_, rfl⟩
      have HX := Lib.hid hx
      have hs : sMk ((c :: r, 0) : St) = (c, r, if markB c then 0 else 30) := by simp [sMk]
      rw [hs]
      dsimp only
      rw [← hx]
      have CM : Hid (∀ w, Calls Tryd.prog 33 #[.int .u8 x] w (AskEnd (markB c) w)) := fun w => rIsMark c x HX.out w
      generalize hle : (c :: r).length = len at *
      have hlen : len ≠ 0 := by rw [← hle]; simp
      have hlr : len = r.length + 1 := by rw [← hle]; simp
      have e4 : ((len : Int) == 0) = false := by rw [beq_eq_false_iff_ne]; omega
      have HLE := Lib.hid hle
      clear hs hx hle
      cases hm : markB c with
      | true =>
        rw [hm] at CM
        simp only [↓reduceIte]
        go_enter Tryd.func38, Tryd.ntmps38
        go_wp2_with (go_at_call 34; refine (C1.out).mono ?_; rintro e w1 ⟨⟨r1, rfl⟩, h1, k1⟩; refine Hid.out ?_)
        refine Lib.hid ?_
        obtain ⟨bv, hh, hr, ho, _⟩ := id h1
        obtain ⟨c0, c1, f0, f1⟩ := Sx.cells hh
        obtain ⟨b, o, cc, rfl, hcap, hcell⟩ : ∃ b o cc, bv = .slice (some ⟨b, o, none⟩) len cc ∧ len ≤ cc ∧ w1.cell? ⟨b, o, none⟩ = some (.int .u8 x) := by
          rcases hr with ⟨h0, _⟩ | ⟨b, o, c', he, h2, hcell⟩
          · exact absurd h0 (by simp)
          · have := hcell 0 (by simp)
            refine ⟨b, o, c', ?_, ?_, ?_⟩
            · rw [he]; congr 1
            · rw [← HLE.out]; exact h2
            · rw [HX.out]; simpa using this
        have hr' : Reads w1 (.slice (some ⟨b, o, none⟩) (c :: r).length cc) (c :: r) := by rw [HLE.out]; exact hr
        have ht := hr'.tail (at_ := 1) (by simp)
        rw [HLE.out] at ht
        simp only [List.drop_succ_cons, List.drop_zero] at ht
        have HF := Lib.hid (h1.moved ht (fun _ => (ho (by simp)).tail))
        have n1 : (1 : Int) ≤ (len : Int) := by omega
        have n2 : (len : Int) ≤ (cc : Int) := by omega
        clear h1 hh hr hr' ho ht hlr
        by_cases hcc : cc = 1
        · rw [if_pos hcc] at HF
          subst hcc
          obtain rfl : len = 1 := by omega
          go_wp2_with (go_at_call 33; refine (CM.out _).mono ?_; rintro e w2 ⟨rfl, rfl⟩; refine Hid.out ?_)
          refine Lib.hid ?_
          go_wp2
          go_ret
          exact ⟨rfl, HF.out, k1.trans (KeepX.set _ _ _ _)⟩
        · rw [if_neg hcc] at HF
          go_wp2_with (go_at_call 33; refine (CM.out _).mono ?_; rintro e w2 ⟨rfl, rfl⟩; refine Hid.out ?_)
          refine Lib.hid ?_
          go_wp2
          go_ret
          exact ⟨rfl, HF.out, k1.trans (KeepX.set _ _ _ _)⟩
      | false =>
        rw [hm] at CM
        simp only [Bool.false_eq_true, ↓reduceIte]
        go_enter Tryd.func38, Tryd.ntmps38
        go_wp2_with (go_at_call 34; refine (C1.out).mono ?_; rintro e w1 ⟨⟨r1, rfl⟩, h1, k1⟩; refine Hid.out ?_)
        refine Lib.hid ?_
        obtain ⟨bv, hh, hr, ho, _⟩ := id h1
        obtain ⟨c0, c1, f0, f1⟩ := Sx.cells hh
        obtain ⟨b, o, cc, rfl, hcap, hcell⟩ : ∃ b o cc, bv = .slice (some ⟨b, o, none⟩) len cc ∧ len ≤ cc ∧ w1.cell? ⟨b, o, none⟩ = some (.int .u8 x) := by
          rcases hr with ⟨h0, _⟩ | ⟨b, o, c', he, h2, hcell⟩
          · exact absurd h0 (by simp)
          · have := hcell 0 (by simp)
            refine ⟨b, o, c', ?_, ?_, ?_⟩
            · rw [he]; congr 1
            · rw [← HLE.out]; exact h2
            · rw [HX.out]; simpa using this
        have hr' : Reads w1 (.slice (some ⟨b, o, none⟩) (c :: r).length cc) (c :: r) := by rw [HLE.out]; exact hr
        have ht := hr'.tail (at_ := 1) (by simp)
        rw [HLE.out] at ht
        simp only [List.drop_succ_cons, List.drop_zero] at ht
        have n1 : (1 : Int) ≤ (len : Int) := by omega
        have n2 : (len : Int) ≤ (cc : Int) := by omega
        have HF := Lib.hid (h1.moved ht (fun _ => (ho (by simp)).tail))
        have HG := Lib.hid (HF.out.fault 30)
        have g1 : ∀ u, (w1.setCell ⟨g, 0, none⟩ u).frozen? ⟨g, 1, none⟩ = false := fun u => by
          simp [World.frozen?, heap_setCell_same w1 g 0 _ _ _ hh]
        clear h1 hh hr hr' ho ht hlr
        by_cases hcc : cc = 1
        · rw [if_pos hcc] at HG
          subst hcc
          obtain rfl : len = 1 := by omega
          go_wp2_with (go_at_call 33; refine (CM.out _).mono ?_; rintro e w2 ⟨rfl, rfl⟩; refine Hid.out ?_)
          refine Lib.hid ?_
          go_wp2
          go_ret
          exact ⟨rfl, HG.out, (k1.trans (KeepX.set _ _ _ _)).trans (KeepX.set _ _ _ _)⟩
        · rw [if_neg hcc] at HG
          go_wp2_with (go_at_call 33; refine (CM.out _).mono ?_; rintro e w2 ⟨rfl, rfl⟩; refine Hid.out ?_)
          refine Lib.hid ?_
          go_wp2
          go_ret
          exact ⟨rfl, HG.out, (k1.trans (KeepX.set _ _ _ _)).trans (KeepX.set _ _ _ _)⟩
  · have hs : sMk (t1, t2) = (0, t1, t2) := by unfold sMk; rw [if_neg h0]
    rw [hs]
    have e0 : (t2 != 0) = true := by simpa using h0
    clear hs h0
    go_enter Tryd.func38, Tryd.ntmps38
    go_wp2_with (go_at_call 34; refine (C1.out).mono ?_; rintro e w1 ⟨⟨r, rfl⟩, h1, k1⟩; refine Hid.out ?_)
    refine Lib.hid ?_
    obtain ⟨bv, hh, hr, _⟩ := id h1
    obtain ⟨c0, c1, f0, f1⟩ := Sx.cells hh
    have H1 := Lib.hid h1
    clear h1 hh hr
    go_wp2
    go_ret
    exact ⟨rfl, H1.out, k1⟩
end Go.Proofs.YthoeicidilnleaaDoor.Codec
