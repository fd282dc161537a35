/-
  The document's examples.
-/
import Derived.Test.YtfmphhcdbocgnaaPipeOpen2
import Derived.Test.YtfmphhcdbocgnaaPipeTake
namespace Go.Proofs.Ytfmphhcdbocgnaa.Pipe
open Go.RowKit Base
def SM : ByteArray := ⟨#[115, 109, 116, 112, 100]⟩
def CL : ByteArray := ⟨#[99, 108, 101, 97, 110, 117, 112]⟩
def XX : ByteArray := ⟨#[120]⟩
theorem once_len (l : List (List UInt8)) : (onceL l).length ≤ l.length := by
  have := compact_len (l.mergeSort fun x y => decide (x ≤ y))
  rw [List.length_mergeSort] at this
  exact this
theorem once_two (a b : List UInt8) : ¬ 32 < (onceL ([a, b] ++ portsOf [])).length := by
  have := once_len ([a, b] ++ portsOf [])
  simp [portsOf] at this ⊢
  omega
def TrueEnd (w : World) (e : Ending) (w' : World) : Prop := e = .returned (.bool true) ∧ Below w.heap.size w w'
theorem Step.below {own' : Nat → Tag} {w w' : World} (h : Step (fun _ => .no) w own' w') : Below w.heap.size w w' := ⟨h.os, h.tape, h.output, h.size, fun b hb => h.block b hb (fun t e => by cases e)⟩
set_option maxRecDepth 100000 in
theorem cShown (w : World) : Calls Try.prog 5 #[] w (TrueEnd w) := by
  have kc := fun (w : World) (C : Array Value) (n c : Nat) => Lib.run_convert_bytes_const (P := Try.prog) w 29 5 C n c Try.underlying29 Try.underlying5
  go_enter Try.func5, Try.ntmps5
  go_wp2_with fail
  refine (cNew (fun _ => .no) _).mono ?_
  rintro e w1 ⟨g, mb, own1, rfl, h1, s1⟩
  refine Hid.out ?_
  refine Lib.hid ?_
  go_wp2_with fail
  refine (cOpenOk h1 SM CL 1 (by decide) (by decide) (by decide +kernel) (by decide +kernel) (by decide +kernel) (by simp) (by simp) (once_two _ _) (by omega) (by omega)).mono ?_
  rintro e w2 ⟨rfl, own2, G2, h2', s2'⟩
  refine Hid.out ?_
  refine Lib.hid ?_
  have h2 : Holds own2 w2 g mb [(⟨SM, CL, 1, []⟩, G2)] := h2'
  have s2 := s1.trans s2'
  clear h2' s1 s2'
  go_wp2_with fail
  refine (cSendOk (i := 0) (p := (⟨SM, CL, 1, []⟩, G2)) (l := [97]) (h2.on (Below.alloc1 _ _)) rfl (reads_lit _ _ _ [97] 1 rfl rfl _) (by decide) (show 0 < 1 by decide)).mono ?_
  rintro e w3 ⟨rfl, own3, G3, h3', s3'⟩
  refine Hid.out ?_
  refine Lib.hid ?_
  have h3 : Holds own3 w3 g mb [(⟨SM, CL, 1, [[97]]⟩, G3)] := h3'
  have s3 := (s2.trans (Step.of_below (Below.alloc1 _ _))).trans s3'
  clear h3' s2 s3' h1 h2
  go_wp2_with fail
  refine (cSendFull (i := 0) (p := (⟨SM, CL, 1, [[97]]⟩, G3)) (l := [98]) (h3.on (Below.alloc1 _ _)) rfl (reads_lit _ _ _ [98] 1 rfl rfl _) (by decide) rfl).mono ?_
  rintro e w4 ⟨rfl, b4⟩
  refine Hid.out ?_
  refine Lib.hid ?_
  have h4 : Holds own3 w4 g mb [(⟨SM, CL, 1, [[97]]⟩, G3)] := (h3.on (Below.alloc1 _ _)).on b4
  have s4 := (s3.trans (Step.of_below (Below.alloc1 _ _))).trans (Step.of_below b4)
  clear h3 s3 b4
  go_wp2_with fail
  refine (cTakeOk (i := 0) (p := (⟨SM, CL, 1, [[97]]⟩, G3)) (l := [97]) (q := []) h4 rfl rfl).mono ?_
  rintro e w5 ⟨v5, own5, G5, rfl, h5', s5', r5, _⟩
  refine Hid.out ?_
  refine Lib.hid ?_
  have h5 : Holds own5 w5 g mb [(⟨SM, CL, 1, []⟩, G5)] := h5'
  have s5 := s4.trans s5'
  clear h4 s4 h5' s5'
  obtain ⟨a5, c5, hv5⟩ := r5.reads.form
  subst hv5
  have r5 := Lib.hid r5.reads
  go_wp2_with fail
  refine (cTakeEmpty (i := 0) (p := (⟨SM, CL, 1, []⟩, G5)) h5 rfl rfl).mono ?_
  rintro e w6 ⟨rfl, rfl⟩
  refine Hid.out ?_
  refine Lib.hid ?_
  go_wp2_with fail
  refine (cOpenBad4 (i := 0) (p := (⟨SM, CL, 1, []⟩, G5)) h5 rfl 2 (show SM.size ≤ maxLen by decide) (show CL.size ≤ maxLen by decide) (show portB SM.data.toList = true by decide +kernel) (show portB CL.data.toList = true by decide +kernel) (show ¬ SM = CL by decide +kernel)).mono ?_
  rintro e w7 ⟨rfl, b7⟩
  refine Hid.out ?_
  refine Lib.hid ?_
  go_wp2_with fail
  refine (cOpenBad3 g XX 1 (by decide) (by decide +kernel)).mono ?_
  rintro e w8 ⟨rfl, b8⟩
  refine Hid.out ?_
  refine Lib.hid ?_
  go_wp2_with fail
  refine (cSendNo (((h5.on b7).on b8).on (Below.alloc1 _ _)) (f := CL) (t := SM) (by decide) (by decide) (by intro p hp; rw [List.mem_singleton.1 hp]; exact (show ¬ (SM = CL ∧ CL = SM) by decide +kernel)) _).mono ?_
  rintro e w9 ⟨rfl, b9⟩
  refine Hid.out ?_
  refine Lib.hid ?_
  have hcv : (convert 29 9 (.slice a5 1 c5)).run Try.prog w9 = .ok (.string ⟨#[97]⟩) w9 := conv_reads ((((r5.out.on b7).on b8).on (Below.alloc1 _ _)).on b9)
  have HB := Lib.hid (((((s5.below).trans (b7.mono s5.size)).trans (b8.mono (Nat.le_trans s5.size b7.size))).trans ((Below.alloc1 w8 _).mono (Nat.le_trans s5.size (Nat.le_trans b7.size b8.size)))).trans (b9.mono (Nat.le_trans s5.size (Nat.le_trans b7.size (Nat.le_trans b8.size (Below.alloc1 w8 _).size)))))
  clear b7 b8 b9 s5 h5
  go_wp2_with fail
  go_ret
  exact ⟨rfl, HB.out⟩
end Go.Proofs.Ytfmphhcdbocgnaa.Pipe
