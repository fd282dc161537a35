/-
  One deed, on both sides: Take, and all of them together.
-/
import Derived.Test.YtfmphhcdbocgnaaPipeDoes
namespace Go.Proofs.Ytfmphhcdbocgnaa.Pipe
open Go.RowKit Base
attribute [local go_sem ↓] Go.wp_at_zero Go.wp_at_succ
section
variable {w0 w w' : World} {own own' : Nat → Tag} {g mb gr : Nat} {L : List PA} {Ps : List (PA × PG)} {rv : Value} {Rs : List (PA × RG)} {f t : ByteArray}
theorem takeB_short {L : List PA} (hF : Fine L) (f t : ByteArray) : (takeB L f t).length ≤ 65536 := by
  unfold takeB
  cases h : L.find? (fun p => decide (p.f = f) && decide (p.t = t)) with
  | none => simp
  | some p =>
    have hp := hF p (List.mem_of_find?_eq_some h)
    show (p.q.headD []).length ≤ 65536
    cases hq : p.q with
    | nil => simp
    | cons a r => exact hp.2.2.2 a (by rw [hq]; exact List.mem_cons_self)
set_option maxHeartbeats 8000000 in
set_option maxRecDepth 100000 in
theorem does2 (h : Duo w0 w own g mb gr L L Ps rv Rs) (hn : L.length ≤ 1000000) {most : Int} {va : Option Addr} {vc : Nat} {l : List UInt8} (hf : f.size ≤ maxLen) (ht : t.size ≤ maxLen) (hl : l.length ≤ 200000000000000) (hr : Reads w0 (.slice va l.length vc) l) :
    Calls Try.prog 8 #[.pointer (some ⟨g, 0, none⟩), .pointer (some ⟨gr, 0, none⟩), .agg #[.int .i64 2, .string f, .string t, .int .i64 most, .slice va l.length vc]] w (DoesEnd w0 g mb gr (takeL L f t)) := by
  have HO := Lib.hid (copy_own w #[.int .i64 2, .string f, .string t, .int .i64 most, .slice va l.length vc])
  have HRD := Lib.hid (copy_reads #[.int .i64 2, .string f, .string t, .int .i64 most, .slice va l.length vc] (hr.on h.below))
  have HL := Lib.hid hn
  have H := Lib.hid h
  have HHL := Lib.hid hl
  clear h hn hr hl
  go_enter Try.func8, Try.ntmps8
  go_wp2_with (at_builtin; go_must (refine wp_append_reads _ rfl _ _ rfl (w.heap.size + 1) (.slice (some ⟨w.heap.size + 1, 0, none⟩) 0 0) (.slice va l.length vc) [] l rfl rfl HO.out HRD.out (by simpa using HHL.out) (by simp) ?_); intro v' w1 ho hb; refine Hid.out ?_)
  refine Lib.hid ?_
  obtain ⟨A, c, rfl⟩ := ho.reads.form
  obtain ⟨hw1, hbox, hblt⟩ := copied hb
  have H1 := Lib.hid (H.out.on hw1)
  have hbn := Lib.hid (H.out.p.fresh w.heap.size (Nat.le_refl _))
  obtain ⟨e0, e1, e2, e3, e4⟩ := box5 hbox
  have HB := Lib.hid hbox
  have HLT := Lib.hid hblt
  clear hbox hblt hw1 hb ho
  go_wp2_with (go_at_call 12; refine (duoTakeP H1.out hf ht).mono ?_; rintro e w2 ⟨v2, own2, Ps2, rfl, h2, o2, hx2, a2⟩; refine Hid.out ?_)
  refine Lib.hid ?_
  obtain ⟨f0, f1, f2, f3, f4⟩ := box5 ((a2.block _ HLT.out hbn.out).trans HB.out)
  obtain ⟨A2, c2, rfl⟩ := o2.reads.form
  have H2 := Lib.hid h2
  have HA2 := Lib.hid a2
  have HO2 := Lib.hid o2
  have HX2 := Lib.hid hx2
  clear h2 a2 o2 hx2 e0 e1 e2 e3 e4
  go_wp2_with (go_at_call 17; refine (duoTakeR H2.out H.out.keysP H.out.fineP HL.out).mono ?_; rintro e w3 ⟨v3, own3, rv3, Rs3, rfl, h3, o3, a3⟩; refine Hid.out ?_)
  refine Lib.hid ?_
  obtain ⟨A3, c3, rfl⟩ := o3.reads.form
  have HNO : Hid (∀ b, A2 = some ⟨b, 0, none⟩ → own2 b = .no) := fun b hb => by subst hb; exact (HX2.out b rfl).1
  have HSP := Lib.hid (sp_start (show w2.ownsRow 0 5 1 (.slice A2 (takeB L f t).length c2) (takeB L f t).length _ from HO2.out) HNO.out a3)
  have HGE : Hid (∀ b, A2 = some ⟨b, 0, none⟩ → w0.heap.size ≤ b) := fun b hb => by subst hb; exact (HX2.out b rfl).2
  have HR2 : Hid (Reads w3 (.slice A2 (takeB L f t).length c2) (takeB L f t)) := (Owns.keptO HO2.out fun x hx => a3.block x (owns_lt HO2.out hx) (HX2.out x hx).1).reads
  have cv2 : (convert 29 9 (.slice A2 (takeB L f t).length c2)).run Try.prog w3 = .ok (.string ⟨(takeB L f t).toArray⟩) w3 := conv_reads HR2.out
  have cv3 : (convert 29 9 (.slice A3 (takeB L f t).length c3)).run Try.prog w3 = .ok (.string ⟨(takeB L f t).toArray⟩) w3 := conv_reads o3.reads
  have HTL := Lib.hid (takeB_short H.out.fineP f t)
  have H3 := Lib.hid h3
  clear h3 a3 o3 f0 f1 f2 f3 f4
  obtain ⟨n, hn⟩ : ∃ n, n = (takeB L f t).length := ⟨_, rfl⟩
  rw [← hn] at cv2 cv3 HSP HTL
  obtain ⟨R, hR⟩ : ∃ R : Value → World → Prop, R = fun i wr => ∃ k : Nat, k ≤ n ∧ i = .int .i64 k ∧ SpR own3 0 A2 n 5 w3 wr := ⟨_, rfl⟩
  have HALL : Hid (∀ wr, SpR own3 0 A2 n 5 w3 wr → Duo w0 wr own3 g mb gr (takeL L f t) (takeL L f t) Ps2 rv3 Rs3) := fun wr hs => by
    rcases hs with ⟨_, h0⟩ | ⟨b, hA, k1, k2, k3⟩
    · rw [h0]; exact H3.out
    · exact H3.out.spoil k1.keep k1.size k2 (HGE.out b hA)
  have HR := Lib.hid hR
  have HN := Lib.hid hn
  rw [← hn]
  clear hR hn
  go_wp2
  go_loopw [17] (fun i wr => R i wr) (fun i _ => n - (intOf i).toNat)
  case atStart => rw [HR.out]; exact ⟨0, Nat.zero_le _, rfl, HSP.out⟩
  case round =>
    rw [HR.out] at hrel
    obtain ⟨k, hk, rfl, hs⟩ := hrel
    have hn6 := HTL.out
    by_cases hlt : k < n
    · rcases hs with ⟨h0, _⟩ | ⟨b, rfl, hs, hb1, hb2⟩
      · omega
      obtain ⟨v, hc, hz⟩ := hs.cell hlt
      have HS := Lib.hid (hs.set (k := k) (.int .u8 77))
      have i1 : (k : Int) < (n : Int) := by omega
      have i0 : (0 : Int) ≤ (k : Int) := by omega
      clear hs
      go_wp2
      go_roundw
      case rel => rw [HR.out]; exact ⟨k + 1, by omega, by go_num, Or.inr ⟨b, rfl, HS.out, hb1, hb2⟩⟩
      case measure => simp [intOf]; omega
    · have i1 : ¬ (k : Int) < (n : Int) := by omega
      have HD := Lib.hid (HALL.out _ hs)
      clear hs
      go_wp2
      go_ret
      exact ⟨own3, Ps2, rv3, Rs3, rfl, HD.out⟩
theorem doesAll (h : Duo w0 w own g mb gr L L Ps rv Rs) (hn : L.length ≤ 1000000) {k most : Int} {va : Option Addr} {vc : Nat} {l : List UInt8} (hf : f.size ≤ maxLen) (ht : t.size ≤ maxLen) (hl : l.length ≤ 200000000000000) (hr : Reads w0 (.slice va l.length vc) l) :
    Calls Try.prog 8 #[.pointer (some ⟨g, 0, none⟩), .pointer (some ⟨gr, 0, none⟩), .agg #[.int .i64 k, .string f, .string t, .int .i64 most, .slice va l.length vc]] w (DoesEnd w0 g mb gr (stepL L k f t most l)) := by
  unfold stepL
  by_cases k0 : k = 0
  · subst k0; rw [if_pos rfl]; exact does0 h hn hf ht hl hr
  by_cases k1 : k = 1
  · subst k1; rw [if_neg k0, if_pos rfl]; exact does1 h hn hf ht hl hr
  by_cases k2 : k = 2
  · subst k2; rw [if_neg k0, if_neg k1, if_pos rfl]; exact does2 h hn hf ht hl hr
  by_cases k3 : k = 3
  · subst k3; rw [if_neg k0, if_neg k1, if_neg k2, if_pos rfl]; exact does3 h hn hl hr
  rw [if_neg k0, if_neg k1, if_neg k2, if_neg k3]
  exact doesE h hn (k0 := by rw [beq_eq_false_iff_ne]; exact k0) (k1 := by rw [beq_eq_false_iff_ne]; exact k1) (k2 := by rw [beq_eq_false_iff_ne]; exact k2) (k3 := by rw [beq_eq_false_iff_ne]; exact k3) (hl := hl) (hr := hr)
end
end Go.Proofs.Ytfmphhcdbocgnaa.Pipe
