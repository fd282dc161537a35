/-
  TABLE, the program: the reader, as the other reader reads.
-/
import Derived.Test.YtbgdohggdaoojaaDoorTabPrs
import Derived.Test.YtbgdohggdaoojaaDoorTabSam2
namespace Go.Proofs.YtbgdohggdaoojaaDoor.Table
open Go.RowKit Base
theorem parse_good (l : List UInt8) (h : (parseOf l).2.1 = 0) : Good (parseOf l).1 := by
  by_cases hl : l.length ≤ 262144
  · obtain ⟨h1, h2⟩ := parse_same l hl
    cases hp : parseP l with
    | inl f =>
      obtain ⟨h3, h4⟩ := h1 f hp
      rw [h4] at h; exact absurd h h3
    | inr E => exact (h2 E hp).2.1
  · unfold parseOf at h
    rw [if_pos (by omega)] at h
    exact absurd h (by decide)
set_option maxHeartbeats 4000000 in
set_option maxRecDepth 100000 in
theorem pParseBig (s : ByteArray) (w : World) (hbig : 262144 < s.size) : Calls Tryd.prog 8 #[.string s] w (fun e w' => Below w.heap.size w w' ∧ e = .returned (.tuple #[.pointer none, fltV (60, 262144)])) := by
  have i1 : (262144 : Int) < (s.size : Int) := by omega
  clear hbig
  go_enter Tryd.func8, Tryd.ntmps8
  go_wp2
  refine wp_scope_fwd fun F hF => ?_
  have HF := Lib.hid hF
  clear hF
  go_wp2
  rw [Exit.fwd_ret]
  exact bodyPost_ret (v := .tuple #[.pointer none, .agg #[.int .i64 60, .int .i64 262144]]) (by simp [results, Tryd.results8, go_sem]) rfl ⟨Below.alloc1 _ _, rfl⟩
/-- The reader of the program's own. -/
theorem pParse (HIX : IdxOk) (s : ByteArray) (w : World) (hm : MaxOk w) : Calls Tryd.prog 8 #[.string s] w (ParseEnd 82 (parseOf s.data.toList) w) := by
  by_cases hbig : 262144 < s.size
  · refine (pParseBig s w hbig).mono fun e w' h => ⟨h.1, Or.inr ?_⟩
    have : parseOf s.data.toList = ([], 60, 262144) := by unfold parseOf; rw [if_pos (by rw [str_len]; exact hbig)]
    rw [this]
    exact ⟨by decide, h.2⟩
  · refine (pParseIn HIX s w hm (by omega)).mono fun e w' h => ⟨h.1, ?_⟩
    obtain ⟨h1, h2⟩ := parse_same s.data.toList (by rw [str_len]; omega)
    obtain ⟨_, h⟩ := h
    cases hp : parseP s.data.toList with
    | inl f =>
      rw [hp] at h
      obtain ⟨h3, h4⟩ := h1 f hp
      rw [h4]
      exact Or.inr ⟨h3, h⟩
    | inr E =>
      rw [hp] at h
      obtain ⟨b, T, he, hT, hS, hat⟩ := h
      obtain ⟨h3, h4, h5⟩ := h2 E hp
      rw [sorted_one T _ (hT.trans h5.symm) hS h4.rise] at hat
      exact Or.inl ⟨h3, b, he, hat⟩
end Go.Proofs.YtbgdohggdaoojaaDoor.Table
