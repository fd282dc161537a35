/-
  CODEC: the document's examples, which every statement asks first.
-/
import Derived.Test.YthmacfeahnbgbaaDoorCodecOwn
import Derived.Lib.SlBytesConst
namespace Go.Proofs.YthmacfeahnbgbaaDoor.Codec
open Go.RowKit

/-- 'string(b)', b reading as some bytes. -/
theorem conv_reads {w : World} {v : Value} {l : List UInt8} (h : Reads w v l) : (convert 22 9 v).run Tryd.prog w = .ok (.string ⟨l.toArray⟩) w := by
  rcases h with ⟨rfl, a, c, rfl, _⟩ | ⟨b, o, c, rfl, _, hc⟩
  · cases a with
    | none => rw [run_convert_bytes_string w 22 9 5 none 0 c Tryd.underlying22 Tryd.underlying5 Tryd.underlying9]; rfl
    | some a => exact run_convert_bytes_back (P := Tryd.prog) w 22 9 5 a c [] Tryd.underlying22 Tryd.underlying5 Tryd.underlying9 (fun j hj => by simp at hj)
  · refine run_convert_bytes_back (P := Tryd.prog) w 22 9 5 ⟨b, o, none⟩ c l Tryd.underlying22 Tryd.underlying5 Tryd.underlying9 (fun j hj => ?_)
    rw [Addr.add_lit, hc j hj]
    congr 2
    simp [List.getD, List.getElem?_eq_getElem hj]
theorem reads_lit (w : World) (t : TypeId) (cs : Array Value) (l : List UInt8) (n : Nat) (hn : n = l.length) (h : cs.toList = Lib.byteCells l) (fz : Nat × Nat) : Reads (w.alloc (.cells cs t fz)) (.slice (some ⟨w.heap.size, 0, none⟩) n n) l := by
  subst hn
  refine Or.inr ⟨w.heap.size, 0, l.length, rfl, Nat.le_refl _, fun i hi => ?_⟩
  have h0 : (w.alloc (.cells cs t fz)).heap[w.heap.size]? = some (.cells cs t fz) := by
    show (w.heap.push _)[w.heap.size]? = _
    simp
  unfold World.cell?
  rw [h0]
  show cs[0 + i]? = _
  rw [Nat.zero_add, ← Array.getElem?_toList, h]
  simp [Lib.byteCells, List.getD, List.getElem?_eq_getElem hi]
theorem Below.alloc1 (w : World) (o : Obj) : Below w.heap.size w (w.alloc o) := (Below.refl _ _).alloc (Nat.le_refl _) o

theorem Below.of_eq {w w' : World} (h : w = w') : Below w.heap.size w w' := by subst h; exact Below.refl _ _

set_option maxHeartbeats 400000 in
theorem shown_any (w : World) (htab : Tab w.heap.size w) : Calls Tryd.prog 9 #[] w fun e w' => e = .returned (.bool true) ∧ Below w.heap.size w w' := by
  have f1 : numBytes 25 = [50, 53, 59] := by decide +kernel
  have f2 : takeNumber [50, 53, 59, 120] = (25, 3, 0) := by decide +kernel
  have f3 : textBytes [97, 44, 98] = [51, 58, 97, 44, 98, 44] := by decide +kernel
  have f4 : takeText [51, 58, 97, 44, 98, 44, 55] = ([97, 44, 98], 6, 0) := by decide +kernel
  have f5 : crc [49, 50, 51, 52, 53, 54, 55, 56, 57] = 3421780262 := by decide +kernel
  have f6 : hexOf 3421780262 = [99, 98, 102, 52, 51, 57, 50, 54] := by decide +kernel
  have c1 := cNumber_yes 25 w (by omega) htab
  have c2 : ∀ v w1, Reads w1 v [50, 53, 59, 120] → Calls Tryd.prog 12 #[v] w1 fun e w' => e = .returned (.tuple #[.int .i64 25, .int .i64 3, .int .i64 0]) ∧ Below w1.heap.size w1 w' := fun v w1 h =>
    (cTakeNumber v [50, 53, 59, 120] w1 h (by simp)).mono fun e w' h => by rw [f2] at h; exact ⟨h.1, Below.of_eq h.2⟩
  have c3 := fun w1 h => cText_yes ⟨#[97, 44, 98]⟩ w1 (by decide) h
  have c4 : ∀ v w1, Reads w1 v [51, 58, 97, 44, 98, 44, 55] → Calls Tryd.prog 14 #[v] w1 fun e w' => e = .returned (.tuple #[.string ⟨#[97, 44, 98]⟩, .int .i64 6, .int .i64 0]) ∧ Below w1.heap.size w1 w' := fun v w1 h =>
    (cTakeText v [51, 58, 97, 44, 98, 44, 55] w1 h (by simp)).mono fun e w' h => by rw [f4] at h; exact ⟨h.1, Below.of_eq h.2⟩
  have c5 : ∀ v w1, Reads w1 v [49, 50, 51, 52, 53, 54, 55, 56, 57] → Calls Tryd.prog 21 #[v] w1 fun e w' => e = .returned (.int .u32 3421780262) ∧ Below w1.heap.size w1 w' := fun v w1 h =>
    (cSum v [49, 50, 51, 52, 53, 54, 55, 56, 57] w1 h (by simp)).mono fun e w' h => by rw [f5] at h; exact ⟨h.1, Below.of_eq h.2⟩
  have c6 : ∀ w1, Calls Tryd.prog 22 #[.int .u32 3421780262] w1 fun e w' => e = .returned (.string ⟨#[99, 98, 102, 52, 51, 57, 50, 54]⟩) ∧ Below w1.heap.size w1 w' := fun w1 => by
    have := cHex_any 3421780262 (by omega) w1
    rw [f6] at this; exact this
  rw [f1] at c1
  rw [show (⟨#[97, 44, 98]⟩ : ByteArray).data.toList = [97, 44, 98] from rfl, f3] at c3
  have C1 := Lib.hid c1
  have C2 := Lib.hid c2
  have C3 := Lib.hid c3
  have C4 := Lib.hid c4
  have C5 := Lib.hid c5
  have C6 := Lib.hid c6
  have HT := Lib.hid htab
  clear c1 c2 c3 c4 c5 c6 f1 f2 f3 f4 f5 f6 htab
  have kc := fun (w : World) (C : Array Value) (n c : Nat) => Lib.run_convert_bytes_const (P := Tryd.prog) w 22 5 C n c Tryd.underlying22 Tryd.underlying5
  go_enter Tryd.func9, Tryd.ntmps9
  go_wp2_with (go_at_call 11; refine C1.out.mono ?_; rintro e w1 ⟨v1, rfl, o1, b1⟩; refine Hid.out ?_)
  refine Lib.hid ?_
  go_wp2_with (go_at_call 12; refine (C2.out _ _ (reads_lit _ _ _ _ 4 rfl rfl _)).mono ?_; rintro e w2 ⟨rfl, b2⟩; refine Hid.out ?_)
  refine Lib.hid ?_
  replace b2 := (Below.alloc1 w1 _).trans (b2.mono (Below.alloc1 w1 _).size)
  go_wp2_with (go_at_call 19; refine (C3.out _ (HT.out.on (b1.trans (b2.mono b1.size)) |>.up (b1.trans (b2.mono b1.size)).size)).mono ?_; rintro e w3 ⟨v3, rfl, o3, b3⟩; refine Hid.out ?_)
  refine Lib.hid ?_
  go_wp2_with (go_at_call 14; refine (C4.out _ _ (reads_lit _ _ _ _ 7 rfl rfl _)).mono ?_; rintro e w4 ⟨rfl, b4⟩; refine Hid.out ?_)
  refine Lib.hid ?_
  replace b4 := (Below.alloc1 w3 _).trans (b4.mono (Below.alloc1 w3 _).size)
  go_wp2_with (go_at_call 21; refine (C5.out _ _ (reads_lit _ _ _ _ 9 rfl rfl _)).mono ?_; rintro e w5 ⟨rfl, b5⟩; refine Hid.out ?_)
  refine Lib.hid ?_
  replace b5 := (Below.alloc1 w4 _).trans (b5.mono (Below.alloc1 w4 _).size)
  go_wp2_with (go_at_call 22; refine (C6.out _).mono ?_; rintro e w6 ⟨rfl, b6⟩; refine Hid.out ?_)
  refine Lib.hid ?_
  have s1 := b1.size
  have s2 := b2.size
  have s3 := b3.size
  have s4 := b4.size
  have s5 := b5.size
  have h36 : Below w3.heap.size w3 w6 := (b4.trans (b5.mono s4)).trans (b6.mono (by omega))
  have h16 : Below w1.heap.size w1 w6 := (b2.trans (b3.mono s2)).trans (h36.mono (by omega))
  have g1 := conv_reads (o1.reads.on h16)
  have g3 := conv_reads (o3.reads.on h36)
  clear kc
  go_wp2
  go_ret
  exact ⟨rfl, b1.trans (h16.mono s1)⟩
end Go.Proofs.YthmacfeahnbgbaaDoor.Codec
