/-
  A list of ports, each once, rising.
-/
import Derived.Test.YtfmphhcdbocgnaaPipePort
import Derived.Test.YtfmphhcdbocgnaaShelf
import Derived.Sort.OwnSorted
namespace Go.Proofs.Ytfmphhcdbocgnaa.Pipe
open Go.RowKit Base
open Go.Sort
/-- The list sorted, each once. -/
def onceL (ss : List (List UInt8)) : List (List UInt8) := Lib.compact (ss.mergeSort fun x y => decide (x ≤ y))
theorem compact_len (zs : List (List UInt8)) : (Lib.compact zs).length ≤ zs.length := by
  unfold Lib.compact Lib.compactUpTo
  rw [List.length_map]
  exact Nat.le_trans (List.length_filter_le _ _) (by simp)
theorem onceL_nil : onceL [] = [] := by simp [onceL, Lib.compact, Lib.compactUpTo]
def OnceEnd (B : Nat) (w : World) (v : Value) (ss : List (List UInt8)) (e : Ending) (w' : World) : Prop :=
  ∃ v', e = .returned v' ∧ w'.ownsRow B 9 1 v' (onceL ss).length ((onceL ss).map encStr) ∧ w.grownBy w' v.ownBlock ∧ v'.ownBlock = v.ownBlock
theorem cOnce (w : World) (B : Nat) (v : Value) (ss : List (List UInt8)) (h : w.ownsRow B 9 1 v ss.length (ss.map encStr)) (hsz : ss.length < 4611686018427387904) :
    Calls Try.prog 31 #[v] w (OnceEnd B w v ss) := by
  by_cases h0 : ss = []
  · subst h0
    obtain ⟨a, c, rfl, _⟩ := row_form h
    have HH := Lib.hid h
    clear h
    go_enter Try.func31, Try.ntmps31
    go_wp2_with (first
      | (go_at_call 32; refine (Try.slices_Sort_string_none _ _ _).mono ?_; rintro e w1 ⟨rfl, rfl⟩)
      | (go_at_call 33; refine (Try.slices_Compact_string_empty _ _ _).mono ?_; rintro e w1 ⟨rfl, rfl⟩)
      | fail)
    go_ret
    refine ⟨_, rfl, by rw [onceL_nil]; exact HH.out, ⟨rfl, rfl, rfl, Nat.le_refl _, fun _ _ _ => rfl⟩, rfl⟩
  · have hl0 : 0 < ss.length := by cases ss with | nil => exact absurd rfl h0 | cons a b => simp
    rcases h.2 with ⟨_, hn⟩ | ⟨g, cap, cur, rfl, hg, hb, hc1, hc2, hc3, ht⟩
    · omega
    rw [Nat.mul_one] at ht hc3
    have hglt := heap_lt hb
    obtain ⟨ts, hts⟩ : ∃ ts, ts = ss.mergeSort (fun x y => decide (x ≤ y)) := ⟨_, rfl⟩
    have htl : ts.length = ss.length := by rw [hts]; exact List.length_mergeSort _
    have hH := Lib.hid (holds_of_block (e := 9) hb ht)
    have hs : Hid (∀ n os, (grow (putRow encStr (Sort.ahead w n) g 0 ts.toArray) os).heap[g]? = some (.cells (putCells encStr 0 ts.toArray cur) 9 (0, 0))) := fun n os => heap_sorted _ hb
    have hg1 : Hid (∀ n os, w.grownBy (grow (putRow encStr (Sort.ahead w n) g 0 ts.toArray) os) (some g)) := fun n os => grownBy_sorted _
    have hcl := compact_len ts
    have hcap : cap ≤ 9223372036854775807 := hc2
    have hfin : Hid (∀ n os q, OnceEnd B w (.slice (some ⟨g, 0, none⟩) ss.length cap) ss (.returned (.slice (some ⟨g, 0, none⟩) (Lib.compact ts).length cap))
        (putRow encStr (Sort.ahead (grow (putRow encStr (Sort.ahead w n) g 0 ts.toArray) os) q) g 0 (Lib.compact ts ++ List.replicate (ts.length - (Lib.compact ts).length) []).toArray)) := fun n os q => by
      refine ⟨_, rfl, ?_, ?_, rfl⟩
      · have e : onceL ss = Lib.compact ts := by unfold onceL; rw [hts]
        rw [e]
        have e1 := heap_sorted (w := grow (putRow encStr (Sort.ahead w n) g 0 ts.toArray) os) (n := q) (os := #[]) (Lib.compact ts ++ List.replicate (ts.length - (Lib.compact ts).length) []).toArray (hs.out n os)
        rw [grow_empty] at e1
        refine ⟨by simp, Or.inr ⟨g, cap, _, rfl, hg, e1, by omega, hc2, ?_, ?_⟩⟩
        · simp [putCells]; omega
        · rw [Nat.mul_one]
          have := take_putCells (putCells encStr 0 ts.toArray cur) (Lib.compact ts ++ List.replicate (ts.length - (Lib.compact ts).length) []) (by simp [putCells]; omega)
          have h2 := congrArg (List.take (Lib.compact ts).length) this
          rw [List.take_take, List.map_append, List.take_append_of_le_length (by simp), List.take_of_length_le (l := List.map _ (Lib.compact ts)) (by simp)] at h2
          rw [Nat.min_eq_left (by simp)] at h2
          exact h2
      · have g2 := grownBy_sorted (w := grow (putRow encStr (Sort.ahead w n) g 0 ts.toArray) os) (g := g) (n := q) (os := #[]) (Lib.compact ts ++ List.replicate (ts.length - (Lib.compact ts).length) []).toArray
        rw [grow_empty] at g2
        exact (hg1.out n os).andThen g2 (fun j hj => Or.inr hj)
    have hH2 : Hid (∀ n os, Go.Sort.Holds encStr (grow (putRow encStr (Sort.ahead w n) g 0 ts.toArray) os) g 0 ts.toArray) := fun n os => by
      refine holds_of_block (hs.out n os) ?_
      exact take_putCells cur ts (by omega)
    have TL := Lib.hid htl
    have TS := Lib.hid hts
    clear htl hts hcl h ht hc3 hb
    go_enter Try.func31, Try.ntmps31
    go_wp2_with fail
    refine (Try.slices_Sort_string _ _ _ ss _ hH.out hglt hsz).mono ?_
    rintro e w1 ⟨rfl, n, os, hw1⟩
    rw [← TS.out] at hw1
    subst hw1
    refine Hid.out ?_
    refine Lib.hid ?_
    go_wp2_with fail
    rw [← TL.out]
    refine (Try.slices_Compact_string _ _ _ ts _ (hH2.out n os) (by rw [TL.out]; omega) (by rw [TL.out]; exact hc1)).mono ?_
    rintro e w2 ⟨rfl, q, rfl⟩
    refine Hid.out ?_
    refine Lib.hid ?_
    go_wp2_with fail
    go_ret
    exact hfin.out n os q
end Go.Proofs.Ytfmphhcdbocgnaa.Pipe
