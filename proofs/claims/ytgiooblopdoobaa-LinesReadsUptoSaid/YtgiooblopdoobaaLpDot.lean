/-
  LINES, the program: a line that was sent, as content; bytes.Lines' value.
-/
import Derived.Test.YtgiooblopdoobaaLpSeq
namespace Go.Proofs.Ytgiooblopdoobaa.Lines
open Go.RowKit Base
theorem dot_parts (l : List UInt8) : dotOf l = if Lib.hasPrefix l [46] = true ∧ (Lib.trimPrefix l [46]).length = 0 then ([], true) else (Lib.trimPrefix l [46], false) := by
  unfold Lib.trimPrefix Lib.hasPrefix
  cases l with
  | nil => simp [dotOf]
  | cons c r =>
    rw [dotOf]
    by_cases h : c = 46
    · subst h
      cases r with
      | nil => simp
      | cons d q => simp
    · have h2 : ¬ c.toNat = 46 := fun e => h (UInt8.toNat_inj.1 e)
      have h3 : ¬ (46 : UInt8) = c := fun e => h e.symm
      rw [if_neg h2]
      simp [h3]
set_option maxHeartbeats 1600000 in
set_option maxRecDepth 100000 in
theorem pDotted {v : Value} {l : List UInt8} {w : World} (hr : Reads w v l) (hl : l.length ≤ 200000000000000) : Calls Try.prog 19 #[v] w (DotEnd (dotOf l) w) := by
  obtain ⟨A, c, rfl⟩ := hr.form
  have hb : Below w.heap.size w (w.alloc (.cells #[.int .u8 46] 5 (1, 2))) := Below.alloc1 w _
  have hcut := pCutP (hr.on hb) (one_reads w 46)
  obtain ⟨p, hp⟩ : ∃ p, p = Lib.hasPrefix l [46] := ⟨_, rfl⟩
  obtain ⟨r, hrr⟩ : ∃ r, r = Lib.trimPrefix l [46] := ⟨_, rfl⟩
  have hrl : r.length ≤ 200000000000000 := by
    rw [hrr]; unfold Lib.trimPrefix; split
    · rw [List.length_drop]; omega
    · exact hl
  have HD : Hid (dotOf l = if p = true ∧ r.length = 0 then ([], true) else (r, false)) := by show _ = _; rw [hp, hrr]; exact dot_parts l
  rw [← hp, ← hrr] at hcut
  have HCU : Hid (Calls Try.prog 29 #[.slice A l.length c, .slice (some ⟨w.heap.size, 0, none⟩) 1 1] (w.alloc (.cells #[.int .u8 46] 5 (1, 2))) fun e w' => (∃ u, e = .returned (.tuple #[u, .bool p]) ∧ Reads w' u r) ∧ Below w.heap.size w w') := by
    refine hcut.mono ?_
    rintro e w' ⟨⟨u, rfl, hu⟩, rfl⟩
    exact ⟨⟨u, rfl, hu⟩, hb⟩
  have hcv : (convert 32 32 (.slice (some ⟨w.heap.size, 0, none⟩) 1 1)).run Try.prog (w.alloc (.cells #[.int .u8 46] 5)) = .ok (.slice (some ⟨w.heap.size, 0, none⟩) 1 1) (w.alloc (.cells #[.int .u8 46] 5 (1, 2))) := conv_one w 46
  obtain ⟨D, hD⟩ : ∃ D, D = dotOf l := ⟨_, rfl⟩
  rw [← hD] at HD ⊢
  clear hr hb hcut hp hrr hD
  go_enter Try.func19, Try.ntmps19
  go_wp2_with (first | (go_at_call 29; refine HCU.out.mono ?_; rintro e w1 ⟨⟨u, rfl, hu⟩, hb1⟩; refine Hid.out ?_) | fail)
  refine Lib.hid ?_
  obtain ⟨A2, c2, rfl⟩ := hu.form
  obtain ⟨k, hk⟩ : ∃ k, k = r.length := ⟨_, rfl⟩
  rw [← hk] at hu HD ⊢
  have HU := Lib.hid hu
  have HB1 := Lib.hid hb1
  have HCL := Lib.hid (pClone hu hrl)
  clear hu hb1 hcv HCU hk
  cases p
  · have HD2 : Hid (D = (r, false)) := by show _ = _; rw [HD.out, if_neg (by simp)]
    clear HD
    go_wp2_with (first | (go_at_call 24; refine HCL.out.mono ?_; rintro e w2 ⟨u2, rfl, ho, hb2⟩; refine Hid.out ?_) | fail)
    refine Lib.hid ?_
    have HF : Hid (DotEnd D w (.returned (.tuple #[u2, .bool false])) w2) := ⟨u2, by rw [HD2.out], by rw [HD2.out]; exact ho.mono HB1.out.size, HB1.out.trans (hb2.mono HB1.out.size)⟩
    clear ho hb2
    go_wp2
    go_ret2
    exact HF.out
  · by_cases hk0 : k = 0
    · subst hk0
      have HD2 : Hid (D = ([], true)) := by show _ = _; rw [HD.out, if_pos ⟨rfl, rfl⟩]
      clear HD
      have HF : Hid (DotEnd D w (.returned (.tuple #[.slice none 0 0, .bool true])) w1) := ⟨_, by rw [HD2.out], by rw [HD2.out]; exact owns_nil _ _, HB1.out⟩
      go_wp2
      go_ret2
      exact HF.out
    · have hk1 : ¬ (k : Int) = 0 := by omega
      have HD2 : Hid (D = (r, false)) := by show _ = _; rw [HD.out, if_neg (by simp [hk0])]
      clear HD
      go_wp2_with (first | (go_at_call 24; refine HCL.out.mono ?_; rintro e w2 ⟨u2, rfl, ho, hb2⟩; refine Hid.out ?_) | fail)
      refine Lib.hid ?_
      have HF : Hid (DotEnd D w (.returned (.tuple #[u2, .bool false])) w2) := ⟨u2, by rw [HD2.out], by rw [HD2.out]; exact ho.mono HB1.out.size, HB1.out.trans (hb2.mono HB1.out.size)⟩
      clear ho hb2
      go_wp2
      go_ret2
      exact HF.out
abbrev linesF (k : Nat) : Value := .func (.func 32) #[] #[.pointer (some ⟨k, 0, none⟩)]
set_option maxRecDepth 100000 in
theorem pLinesV (A : Option Addr) (n c : Nat) (w : World) : Calls Try.prog 27 #[.slice A n c] w fun e w' => e = .returned (linesF w.heap.size) ∧ w' = w.alloc (.cells #[.slice A n c] 32 (0, 0)) := by
  have hmf : ∀ (fn : Fn) (first cap : Array Value) (w : World), (Instr.makeFunc fn first cap).run Try.prog w = .ok (.func fn first cap) w := fun _ _ _ _ => rfl
  go_enter Try.func27, Try.ntmps27
  go_wp2
  go_ret
  exact ⟨rfl, rfl⟩
end Go.Proofs.Ytgiooblopdoobaa.Lines
