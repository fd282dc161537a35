/-
  RECORD: the program's reader: numbers and texts.
-/
import Derived.Test.YthoeicidilnleaaDoorRecordRd
namespace Go.Proofs.YthoeicidilnleaaDoor.Codec
open Go.RowKit

theorem Reads.tail {w : World} {A : Option Addr} {cc at_ : Nat} {l : List UInt8} (h : Reads w (.slice A l.length cc) l) (hle : at_ ≤ l.length) :
    Reads w (.slice (if cc = at_ then A else Option.map (fun x => x.add at_) A) (l.length - at_) (cc - at_)) (l.drop at_) := by
  have hl : (l.drop at_).length = l.length - at_ := List.length_drop
  rcases h with ⟨h0, a, c, he, hn⟩ | ⟨b, o, c, he, hc, hcell⟩
  · subst h0
    cases he
    have : at_ = 0 := by simpa using hle
    subst this
    refine Or.inl ⟨rfl, _, _, rfl, fun hnone => ?_⟩
    by_cases e : cc = 0
    · omega
    · rw [if_neg e] at hnone
      cases A with
      | none => have := hn rfl; omega
      | some a => simp at hnone
  · cases he
    by_cases hz : at_ = l.length
    · refine Or.inl ⟨List.drop_eq_nil_of_le (by omega), _, _, by rw [show l.length - at_ = 0 by omega], fun hnone => ?_⟩
      split at hnone <;> simp at hnone
    · rw [if_neg (by omega)]
      refine Or.inr ⟨b, o + at_, cc - at_, by rw [hl]; simp [Addr.add_lit], by omega, fun i hi => ?_⟩
      rw [hl] at hi
      rw [Nat.add_assoc, hcell (at_ + i) (by omega)]
      congr 3
      simp [List.getD]

set_option maxHeartbeats 300000 in
set_option maxRecDepth 100000 in
theorem cNum (g B : Nat) (bv mv : Value) (l rest : List UInt8) (ml : List Nat) (w : World) (h : Rd w g bv l rest mv ml B) (hold : Old B bv) (hl : l.length ≤ 200000000000000) :
    Calls Tryd.prog 42 #[.pointer (some ⟨g, 0, none⟩)] w fun e w' => e = .returned (.tuple #[.int .i64 (takeNumber rest).1, .int .i64 (numF rest).2.1]) ∧ Rd w' g bv l (numF rest).2.2 mv ml B ∧ Keeps g B w w' := by
  obtain ⟨at_, e1, e2, hh, hr, hm, hb⟩ := h
  obtain ⟨q0, q1, q2, q3, q4⟩ := Rd.cells hh
  obtain ⟨A, cc, rfl⟩ := hr.form
  have hcc : l.length ≤ cc := by
    rcases hr with ⟨h0, _⟩ | ⟨b, o, c', he, h2, _⟩
    · rw [h0]; simp
    · cases he; exact h2
  have htl := hr.tail (at_ := at_) (by omega)
  rw [← e2] at htl
  obtain ⟨N, S, Z, hZ0, hS, hsum, hnum⟩ : ∃ (N : Int) (S : Nat) (Z : Int), takeNumber rest = (N, (S : Int), Z) ∧ S ≤ rest.length ∧ 0 ≤ N ∧ numF rest = (if Z = 0 then N else 0, toldOf Z, rest.drop S) := by
    rcases takeNumber_cases rest with ⟨z, h1, h2, h3⟩ | ⟨n, k, h1, h2, h3, h4⟩
    · exact ⟨0, 0, z, h3, by omega, by omega, by unfold numF; rw [h3]; simp [show z ≠ 0 by omega]⟩
    · exact ⟨n, k, 0, h4, h3, by omega, by unfold numF; rw [h4]; simp [toldOf]⟩
  rw [hZ0, hnum]
  have HC : Hid (∀ k, Calls Tryd.prog 53 #[.slice (if cc = at_ then A else Option.map (fun x => x.add at_) A) (l.length - at_) (cc - at_)] (w.drewN k) (TakeEnd (N, (S : Int), Z) (w.drewN k))) := fun k => by
    have := cTakeNumber _ rest (w.drewN k) htl (by omega)
    rwa [hZ0] at this
  have HT := Lib.hid (fun w => cTold Z w)
  have b0 : (0 : Int) ≤ (at_ : Int) := by omega
  have b1 : (at_ : Int) ≤ (l.length : Int) := by omega
  have b2 : (l.length : Int) ≤ (cc : Int) := by omega
  have hR : Hid (∀ n, Rd ((w.drewN n).setCell ⟨g, 1, none⟩ (.int .i64 ((at_ : Int) + (S : Int)))) g (.slice A l.length cc) l (rest.drop S) mv ml B) := fun n => by
    refine ⟨at_ + S, by rw [List.length_drop]; omega, by rw [e2, List.drop_drop], ?_, ?_, ?_, hb⟩
    · rw [Rd.stepped (w := w.drewN n) hh]; rfl
    · exact Reads.kept hr ((Keeps.drewN n).trans (Keeps.set hb _ _)) hold
    · exact Marks.set_other (w := w.drewN n) hm hh (by decide)
  have hK : Hid (∀ n, Keeps g B w ((w.drewN n).setCell ⟨g, 1, none⟩ (.int .i64 ((at_ : Int) + (S : Int))))) := fun n => (Keeps.drewN n).trans (Keeps.set hb _ _)
  generalize toldOf Z = TZ at *
  have hSb : (S : Int) ≤ 200000000000000 := by omega
  clear e1 e2 hh hr hm htl hZ0 hnum hS hsum hold
  by_cases hca : cc = at_
  · subst hca
    simp only [↓reduceIte, Nat.sub_self, show l.length - cc = 0 by omega] at HC
    go_enter Tryd.func42, Tryd.ntmps42
    go_wp2_with fail
    go_quiet ((go_at_call 53; refine (HC.out _).mono ?_; rintro e w' ⟨rfl, rfl⟩; exact ⟨rfl, _, rfl⟩))
    go_wp2_with (go_at_call 54; refine (HT.out _).mono ?_; rintro e w' ⟨rfl, rfl⟩; refine Hid.out ?_)
    refine Lib.hid ?_
    go_wp2
    go_ret2
    exact ⟨rfl, hR.out _, hK.out _⟩
  · rw [if_neg hca] at HC
    go_enter Tryd.func42, Tryd.ntmps42
    go_wp2_with fail
    go_quiet ((go_at_call 53; refine (HC.out _).mono ?_; rintro e w' ⟨rfl, rfl⟩; exact ⟨rfl, _, rfl⟩))
    go_wp2_with (go_at_call 54; refine (HT.out _).mono ?_; rintro e w' ⟨rfl, rfl⟩; refine Hid.out ?_)
    refine Lib.hid ?_
    go_wp2
    go_ret2
    exact ⟨rfl, hR.out _, hK.out _⟩
set_option maxHeartbeats 300000 in
set_option maxRecDepth 100000 in
theorem cTxt (g B : Nat) (bv mv : Value) (l rest : List UInt8) (ml : List Nat) (w : World) (h : Rd w g bv l rest mv ml B) (hold : Old B bv) (hl : l.length ≤ 200000000000000) :
    Calls Tryd.prog 45 #[.pointer (some ⟨g, 0, none⟩)] w fun e w' => e = .returned (.tuple #[.string ⟨(takeText rest).1.toArray⟩, .int .i64 (textF rest).2.1]) ∧ Rd w' g bv l (textF rest).2.2 mv ml B ∧ Keeps g B w w' := by
  obtain ⟨at_, e1, e2, hh, hr, hm, hb⟩ := h
  obtain ⟨q0, q1, q2, q3, q4⟩ := Rd.cells hh
  obtain ⟨A, cc, rfl⟩ := hr.form
  have hcc : l.length ≤ cc := by
    rcases hr with ⟨h0, _⟩ | ⟨b, o, c', he, h2, _⟩
    · rw [h0]; simp
    · cases he; exact h2
  have htl := hr.tail (at_ := at_) (by omega)
  rw [← e2] at htl
  obtain ⟨N, S, Z, hZ0, hS, hnum⟩ : ∃ (N : List UInt8) (S : Nat) (Z : Int), takeText rest = (N, (S : Int), Z) ∧ S ≤ rest.length ∧ textF rest = (if Z = 0 then N else [], toldOf Z, rest.drop S) := by
    rcases takeText_cases rest with ⟨z, h1, h2, h3⟩ | ⟨n, k, h1, h2, h3, h4⟩
    · exact ⟨[], 0, z, h3, by omega, by unfold textF; rw [h3]; simp [show z ≠ 0 by omega]⟩
    · exact ⟨n, k, 0, h4, h3, by unfold textF; rw [h4]; simp [toldOf]⟩
  rw [hZ0, hnum]
  have HC : Hid (∀ k, Calls Tryd.prog 56 #[.slice (if cc = at_ then A else Option.map (fun x => x.add at_) A) (l.length - at_) (cc - at_)] (w.drewN k) (TextEnd (N, (S : Int), Z) (w.drewN k))) := fun k => by
    have := cTakeText _ rest (w.drewN k) htl (by omega)
    rwa [hZ0] at this
  have HT := Lib.hid (fun w => cTold Z w)
  have b0 : (0 : Int) ≤ (at_ : Int) := by omega
  have b1 : (at_ : Int) ≤ (l.length : Int) := by omega
  have b2 : (l.length : Int) ≤ (cc : Int) := by omega
  have hR : Hid (∀ n, Rd ((w.drewN n).setCell ⟨g, 1, none⟩ (.int .i64 ((at_ : Int) + (S : Int)))) g (.slice A l.length cc) l (rest.drop S) mv ml B) := fun n => by
    refine ⟨at_ + S, by rw [List.length_drop]; omega, by rw [e2, List.drop_drop], ?_, ?_, ?_, hb⟩
    · rw [Rd.stepped (w := w.drewN n) hh]; rfl
    · exact Reads.kept hr ((Keeps.drewN n).trans (Keeps.set hb _ _)) hold
    · exact Marks.set_other (w := w.drewN n) hm hh (by decide)
  have hK : Hid (∀ n, Keeps g B w ((w.drewN n).setCell ⟨g, 1, none⟩ (.int .i64 ((at_ : Int) + (S : Int))))) := fun n => (Keeps.drewN n).trans (Keeps.set hb _ _)
  generalize toldOf Z = TZ at *
  have hSb : (S : Int) ≤ 200000000000000 := by omega
  clear e1 e2 hh hr hm htl hZ0 hnum hS hold
  by_cases hca : cc = at_
  · subst hca
    simp only [↓reduceIte, Nat.sub_self, show l.length - cc = 0 by omega] at HC
    go_enter Tryd.func45, Tryd.ntmps45
    go_wp2_with fail
    go_quiet ((go_at_call 56; refine (HC.out _).mono ?_; rintro e w' ⟨rfl, rfl⟩; exact ⟨rfl, _, rfl⟩))
    go_wp2_with (go_at_call 54; refine (HT.out _).mono ?_; rintro e w' ⟨rfl, rfl⟩; refine Hid.out ?_)
    refine Lib.hid ?_
    go_wp2
    go_ret2
    exact ⟨rfl, hR.out _, hK.out _⟩
  · rw [if_neg hca] at HC
    go_enter Tryd.func45, Tryd.ntmps45
    go_wp2_with fail
    go_quiet ((go_at_call 56; refine (HC.out _).mono ?_; rintro e w' ⟨rfl, rfl⟩; exact ⟨rfl, _, rfl⟩))
    go_wp2_with (go_at_call 54; refine (HT.out _).mono ?_; rintro e w' ⟨rfl, rfl⟩; refine Hid.out ?_)
    refine Lib.hid ?_
    go_wp2
    go_ret2
    exact ⟨rfl, hR.out _, hK.out _⟩
end Go.Proofs.YthoeicidilnleaaDoor.Codec
