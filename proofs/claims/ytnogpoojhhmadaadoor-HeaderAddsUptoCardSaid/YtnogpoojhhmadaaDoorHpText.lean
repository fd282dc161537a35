/-
  HEADER, the program: what a field's body may have; strings.SplitSeq's value.
-/
import Derived.Test.YtnogpoojhhmadaaDoorHpSeq
import Derived.Test.YtnogpoojhhmadaaDoorHpFold
namespace Go.Proofs.YtnogpoojhhmadaaDoor.Header
open Go.RowKit Base
def textB (l : List UInt8) : Bool := !(l.any badB)
set_option maxHeartbeats 8000000 in
set_option maxRecDepth 100000 in
theorem pText (s : ByteArray) (w : World) (hs : s.size ≤ 9000000000000000000) : Calls Tryd.prog 34 #[.string s] w fun e w' => e = .returned (.bool (textB s.data.toList)) ∧ w = w' := by
  go_enter Tryd.func34, Tryd.ntmps34
  go_wp2
  go_loop [7] (fun i => ∃ j : Nat, j ≤ s.size ∧ i = .int .i64 (j : Int) ∧ Hid (∀ c ∈ s.data.toList.take j, badB c = false)) (fun i => s.size - (intOf i).toNat)
  case atStart => exact ⟨0, by omega, rfl, fun c hc => by simp at hc⟩
  case round =>
    obtain ⟨j, hj, rfl, HC⟩ := hrel
    by_cases hlt : j < s.size
    · have i0 : (0 : Int) ≤ (j : Int) := by omega
      have i1 : (j : Int) < (s.size : Int) := by omega
      have hjl : j < s.data.toList.length := by rw [str_len]; exact hlt
      have HYES : badB s[j] = true → Hid (textB s.data.toList = false) := fun h => by
        show _ = _
        unfold textB
        rw [List.any_eq_true.2 ⟨s.data.toList[j], List.getElem_mem hjl, by rw [str_getL s j hlt hjl]; exact h⟩]
        rfl
      have HNEXT : badB s[j] = false → Hid (∀ c ∈ s.data.toList.take (j + 1), badB c = false) := fun h c hc => by
        rw [List.take_succ_eq_append_getElem hjl] at hc
        rcases List.mem_append.1 hc with hc | hc
        · exact HC.out c hc
        · rw [List.mem_singleton.1 hc, str_getL s j hlt hjl]; exact h
      by_cases h32 : s[j].toNat < 32
      · have e1 : (s[j].toNat : Int) < 32 := by omega
        by_cases h9 : s[j].toNat = 9
        · have e2 : ((s[j].toNat : Int) != 9) = false := by rw [h9]; rfl
          have e3 : ((s[j].toNat : Int) == 127) = false := by rw [beq_eq_false_iff_ne]; omega
          have HC2 := HNEXT (by unfold badB; rw [decide_eq_false_iff_not]; omega)
          clear h32 h9 HYES HNEXT HC
          go_wp2
          go_round
          case rel => exact ⟨j + 1, by omega, by go_num, HC2⟩
          case measure => simp [intOf]; omega
        · have e2 : ((s[j].toNat : Int) != 9) = true := by rw [bne_iff_ne]; omega
          have HE := HYES (by unfold badB; rw [decide_eq_true_eq]; omega)
          clear h32 h9 HYES HNEXT HC
          go_wp2
          go_ret
          exact ⟨by rw [HE.out]; rfl, rfl⟩
      · have e1 : ¬ (s[j].toNat : Int) < 32 := by omega
        by_cases h127 : s[j].toNat = 127
        · have e2 : ((s[j].toNat : Int) == 127) = true := by rw [h127]; rfl
          have HE := HYES (by unfold badB; rw [decide_eq_true_eq]; omega)
          clear h32 h127 HYES HNEXT HC
          go_wp2
          go_ret
          exact ⟨by rw [HE.out]; rfl, rfl⟩
        · have e2 : ((s[j].toNat : Int) == 127) = false := by rw [beq_eq_false_iff_ne]; omega
          have HC2 := HNEXT (by unfold badB; rw [decide_eq_false_iff_not]; omega)
          clear h32 h127 HYES HNEXT HC
          go_wp2
          go_round
          case rel => exact ⟨j + 1, by omega, by go_num, HC2⟩
          case measure => simp [intOf]; omega
    · have i1 : ¬ (j : Int) < (s.size : Int) := by omega
      have HN : Hid (textB s.data.toList = true) := by
        show _ = _
        unfold textB
        rw [List.any_eq_false.2 fun x hx => by
          have := HC.out x (by rw [List.take_of_length_le (by rw [str_len]; omega)]; exact hx)
          rw [this]; simp]
        rfl
      clear HC
      go_wp2
      go_ret
      exact ⟨by rw [HN.out]; rfl, rfl⟩
def SeqAt (s : ByteArray) (w w' : World) : Prop := w'.heap[w.heap.size]? = some (strO s) ∧ w'.heap[w.heap.size + 1]? = some (strO crlfB) ∧ w'.heap[w.heap.size + 2]? = some intO ∧ w'.heap.size = w.heap.size + 3 ∧ Below w.heap.size w w'
theorem seq_at (s : ByteArray) (w : World) : SeqAt s w (((w.alloc (strO s)).alloc (strO crlfB)).alloc intO) := by
  have s1 : (w.alloc (strO s)).heap.size = w.heap.size + 1 := by simp
  have s2 : ((w.alloc (strO s)).alloc (strO crlfB)).heap.size = w.heap.size + 2 := by simp
  have h1 := (MapKept.heap_alloc w (strO s)).1
  have h2 := (MapKept.heap_alloc (w.alloc (strO s)) (strO crlfB)).1
  have h3 := (MapKept.heap_alloc ((w.alloc (strO s)).alloc (strO crlfB)) intO).1
  rw [s1] at h2
  rw [s2] at h3
  have k1 := Below.alloc1 (w.alloc (strO s)) (strO crlfB)
  have k2 := Below.alloc1 ((w.alloc (strO s)).alloc (strO crlfB)) intO
  refine ⟨(k2.block _ (by rw [s2]; omega)).trans ((k1.block _ (by rw [s1]; omega)).trans h1), (k2.block _ (by rw [s2]; omega)).trans h2, h3, by simp, ?_⟩
  exact ((Below.alloc1 w _).trans (k1.mono (by rw [s1]; omega))).trans (k2.mono (by rw [s2]; omega))
abbrev seqF (H : Nat) : Value := .func (.func 65) #[] #[.pointer (some ⟨H + 1, 0, none⟩), .pointer (some ⟨H, 0, none⟩), .pointer (some ⟨H + 2, 0, none⟩)]
set_option maxRecDepth 100000 in
theorem pSeq0 (s : ByteArray) (w : World) : Calls Tryd.prog 53 #[.string s, .string crlfB, .int .i64 0] w fun e w' => e = .returned (seqF w.heap.size) ∧ SeqAt s w w' := by
  have HF := Lib.hid (seq_at s w)
  have hmf : ∀ (fn : Fn) (first cap : Array Value) (w : World), (Instr.makeFunc fn first cap).run Tryd.prog w = .ok (.func fn first cap) w := fun _ _ _ _ => rfl
  go_enter Tryd.func53, Tryd.ntmps53
  go_wp2
  go_ret
  exact ⟨rfl, HF.out⟩
set_option maxRecDepth 100000 in
theorem pSeq (s : ByteArray) (w : World) : Calls Tryd.prog 36 #[.string s, .string crlfB] w fun e w' => e = .returned (seqF w.heap.size) ∧ SeqAt s w w' := by
  have HF := Lib.hid (pSeq0 s w)
  go_enter Tryd.func36, Tryd.ntmps36
  go_wp2_with (first | (go_at_call 53; refine HF.out.mono ?_; rintro e w' ⟨rfl, h⟩; refine Hid.out ?_) | fail)
  refine Lib.hid ?_
  go_wp2
  go_ret
  exact ⟨rfl, h⟩
end Go.Proofs.YtnogpoojhhmadaaDoor.Header
