/-
  DATE, the program: the next thing, a name's comma.
-/
import Derived.Test.YtklhgaioolamfaaDoorDpVars
import Derived.Test.YtklhgaioolamfaaDoorDpLow
import Derived.Test.YtklhgaioolamfaaDoorDpCal
import Derived.Test.YtklhgaioolamfaaDoorShelf
namespace Go.Proofs.YtklhgaioolamfaaDoor.Date
open Go.RowKit Base
theorem occ_one {d : List UInt8} {j : Nat} : Lib.occAt d [32] j = true ↔ d[j]? = some 32 := by
  unfold Lib.occAt
  cases hj : d.drop j with
  | nil =>
    have : d[j]? = none := by
      rw [List.getElem?_eq_none]
      have := congrArg List.length hj
      simp at this; omega
    simp [this]
  | cons c r =>
    have h1 : d[j]? = some c := by
      have := congrArg (fun x => x[0]?) hj
      simpa using this
    rw [h1]
    simp
    exact ⟨fun h => h.symm, fun h => h.symm⟩
theorem cut_nobl (d : List UInt8) : NoBl (Lib.cut d [32]).1 ∧ (if (Lib.cut d [32]).2.2 = true then d = (Lib.cut d [32]).1 ++ 32 :: (Lib.cut d [32]).2.1 else d = (Lib.cut d [32]).1 ∧ (Lib.cut d [32]).2.1 = []) := by
  rcases Lib.index_spec d [32] with ⟨h1, h2⟩ | ⟨i, h1, h2, h3, h4⟩
  · have hc : Lib.cut d [32] = (d, [], false) := by unfold Lib.cut; rw [h1, if_neg (by decide)]
    rw [hc]
    refine ⟨fun c hcm => ?_, by simp⟩
    obtain ⟨j, hj⟩ := List.mem_iff_getElem?.1 hcm
    intro hcn
    have hc32 : c = 32 := UInt8.toNat_inj.1 hcn
    have hj : d[j]? = some c := hj
    have := h2 j (by have := (List.getElem?_eq_some_iff.1 hj).1; omega)
    rw [occ_one.2 (by rw [hj, hc32])] at this
    cases this
  · have hc : Lib.cut d [32] = (d.take i, d.drop (i + 1), true) := by
      unfold Lib.cut
      rw [h1, if_pos (by omega), Int.toNat_natCast]; rfl
    rw [hc]
    have hi := occ_one.1 h3
    refine ⟨fun c hcm => ?_, ?_⟩
    · obtain ⟨j, hj⟩ := List.mem_iff_getElem?.1 hcm
      have hji : j < i := by
        have := (List.getElem?_eq_some_iff.1 hj).1
        simp at this; omega
      intro hcn
      have hc32 : c = 32 := UInt8.toNat_inj.1 hcn
      have h5 := h4 j hji
      rw [occ_one.2 (by rw [← hc32, ← hj, List.getElem?_take_of_lt hji])] at h5
      cases h5
    · show d = d.take i ++ 32 :: d.drop (i + 1)
      have hl := (List.getElem?_eq_some_iff.1 hi)
      obtain ⟨hl1, hl2⟩ := hl
      have := List.drop_eq_getElem_cons hl1
      rw [hl2] at this
      rw [← this, List.take_append_drop]
/-- The next thing, and what stands behind it. -/
def NextEnd (l : List UInt8) (w : World) (e : Ending) (w' : World) : Prop :=
  ∃ r : List UInt8, e = .returned (.tuple #[S (headW l), S r]) ∧ wordsD r = (wordsD l).tail ∧ r.length ≤ l.length ∧ Below w.heap.size w w'
theorem headW_le (l : List UInt8) : (headW l).length ≤ l.length := by
  unfold headW
  have h := words_sum l []
  cases hw : wordsD l with
  | nil => simp
  | cons a r =>
    unfold wordsD at hw
    rw [hw] at h
    simp [sumW] at h
    show a.length ≤ _
    omega
set_option maxHeartbeats 4000000 in
set_option maxRecDepth 100000 in
theorem pNext (l : List UInt8) (w : World) (hv : Vars w) (hl : l.length ≤ 1000000000) : Calls Tryd.prog 34 #[S l] w (NextEnd l w) := by
  have HT : Hid (Calls Tryd.prog 39 #[S l, .string ⟨#[32]⟩] w fun e w' => e = .returned (S (dropB l)) ∧ w' = w) := Tryd.strings_TrimLeft_one ⟨l.toArray⟩ 32 (by decide) w
  obtain ⟨m, hm⟩ := hv.max
  obtain ⟨d, hd⟩ : ∃ d, d = dropB l := ⟨_, rfl⟩
  have hdl : d.length ≤ l.length := by rw [hd]; exact (List.dropWhile_suffix _).length_le
  have hdd : dropB d = d := by rw [hd]; exact drop_drop l
  have hhd : headW d = headW l := by rw [hd]; exact head_drop l
  have hwd : wordsD d = wordsD l := by rw [hd]; exact words_drop l
  rw [← hd] at HT
  have hcut := Tryd.strings_Cut ⟨d.toArray⟩ ⟨#[32]⟩ m w (by rw [← str_len]; show d.length < _; omega) hm
  obtain ⟨c1, c2⟩ := cut_nobl d
  have HC0 : Hid (Calls Tryd.prog 49 #[S d, .string ⟨#[32]⟩] w fun e w' => e = .returned (.tuple #[S (Lib.cut d [32]).1, S (Lib.cut d [32]).2.1, .bool (Lib.cut d [32]).2.2]) ∧ ∃ n, w' = w.drewN n) := hcut
  obtain ⟨q1, q2⟩ := cut_words c1 c2 hdd
  have hrl : (Lib.cut d [32]).2.1.length ≤ d.length := by
    have h1 := c2
    split at h1
    · have := congrArg List.length h1
      simp at this; omega
    · rw [h1.2]; simp
  rw [q1.symm] at HC0
  have HE : Hid (∀ w', Below w.heap.size w w' → NextEnd l w (.returned (.tuple #[S (headW d), S (Lib.cut d [32]).2.1])) w') := fun w' hb => ⟨_, by rw [hhd], by rw [q2, hwd], by omega, hb⟩
  generalize (Lib.cut d [32]).2.1 = r at HC0 HE
  generalize (Lib.cut d [32]).2.2 = b at HC0
  generalize headW d = x at HC0 HE
  clear hcut c1 c2 q1 q2 hrl hd hdl hdd hhd hwd hm hv
  go_enter Tryd.func34, Tryd.ntmps34
  go_wp2_with (first | (go_at_call 39; refine HT.out.mono ?_; rintro ee w1 ⟨rfl, rfl⟩; refine Hid.out ?_) | fail)
  refine Lib.hid ?_
  go_wp2_with (first | (go_at_call 49; refine HC0.out.mono ?_; rintro ee w1 ⟨rfl, n, rfl⟩; refine Hid.out ?_) | fail)
  refine Lib.hid ?_
  go_wp2
  go_ret2
  exact HE.out _ ⟨rfl, rfl, rfl, Nat.le_refl _, fun _ _ => rfl⟩
end Go.Proofs.YtklhgaioolamfaaDoor.Date
