/-
  RECORD: the program's reader: the sum and the end.
-/
import Derived.Test.YthoeicidilnleaaDoorRecordRd5
namespace Go.Proofs.YthoeicidilnleaaDoor.Codec
open Go.RowKit

def setAll (b : List UInt8) : List Nat → List UInt8
  | [] => b
  | m :: t => setAll (b.set m 80) t
theorem setAll_snoc (ml : List Nat) (x : Nat) : ∀ b, setAll b (ml ++ [x]) = (setAll b ml).set x 80 := by
  induction ml with
  | nil => intro b; rfl
  | cons m t ih => intro b; exact ih _
theorem setAll_len (ml : List Nat) : ∀ b, (setAll b ml).length = b.length := by
  induction ml with
  | nil => intro b; rfl
  | cons m t ih => intro b; rw [setAll, ih, List.length_set]

set_option maxHeartbeats 400000 in
set_option maxRecDepth 100000 in
theorem cClone (v : Value) (l : List UInt8) (w : World) (h : Reads w v l) (hl : l.length ≤ 140737488351232) :
    Calls Tryd.prog 67 #[v] w fun e w' => ∃ v', e = .returned v' ∧ Owns w' w.heap.size v' l ∧ Below w.heap.size w w' := by
  obtain ⟨A, c, rfl⟩ := h.form
  cases A with
  | none =>
    have hl0 : l = [] ∧ c = 0 := by
      rcases h with ⟨h0, a, c', he, hn⟩ | ⟨b, o, c', he, _⟩
      · subst h0; cases he; exact ⟨rfl, hn rfl⟩
      · cases he
    obtain ⟨rfl, rfl⟩ := hl0
    clear h
    have hnil : ∀ w, (binOp .eql 23 (.slice none 0 0) (.slice none 0 0)).run Tryd.prog w = .ok (.bool true) w := fun w => Lib.run_eql_slice_nil w 23 5 none 0 0 0 0 Tryd.underlying23
    go_enter Tryd.func67, Tryd.ntmps67
    go_wp2
    go_ret
    exact ⟨_, rfl, owns_nil _ _, Below.refl _ _⟩
  | some a =>
    have HR := Lib.hid h
    clear h
    have hnil : ∀ w, (binOp .eql 23 (.slice (some a) l.length c) (.slice none 0 0)).run Tryd.prog w = .ok (.bool false) w := fun w => Lib.run_eql_slice_nil w 23 5 (some a) l.length c 0 0 Tryd.underlying23
    go_enter Tryd.func67, Tryd.ntmps67
    go_wp2_with (at_builtin; refine wp_append_reads _ rfl _ _ rfl w.heap.size _ _ [] l rfl rfl (owns_new w) (HR.out.on (Below.alloc1 w _)) (by simp; omega) (by simp) ?_; intro v2 w2 own2 b2; refine Hid.out ?_)
    refine Lib.hid ?_
    rw [List.nil_append] at own2
    go_wp2
    go_ret
    exact ⟨v2, rfl, own2, (Below.alloc1 w _).trans b2⟩

set_option maxHeartbeats 1000000 in
set_option maxRecDepth 100000 in
theorem cSumOf (v mv : Value) (l : List UInt8) (ml : List Nat) (B : Nat) (w : World) (h : Reads w v l) (hl : l.length ≤ 140737488351232) (hm : Marks w B mv ml) (hml : ml.length ≤ 1000) (hin : ∀ m ∈ ml, m < l.length) :
    Calls Tryd.prog 58 #[v, mv] w fun e w' => e = .returned (.int .u32 (crc (setAll l ml) : Nat)) ∧ Below w.heap.size w w' := by
  have C1 := Lib.hid (cClone v l w h hl)
  obtain ⟨A, q, hmv, hA⟩ : ∃ A q, mv = .slice A ml.length q ∧ (0 < ml.length → ∃ gm, A = some ⟨gm, 0, none⟩ ∧ ∀ i, i < ml.length → w.cell? ⟨gm, i, none⟩ = some (.int .i64 ((ml.getD i 0 : Nat) : Int))) := by
    rcases hm.2 with ⟨rfl, hn⟩ | ⟨g, cap, cur, hv, h1, h2, h3⟩
    · rw [hn]; exact ⟨none, 0, rfl, fun h => by omega⟩
    · subst hv
      refine ⟨_, _, rfl, fun _ => ⟨g, rfl, fun i hi => ?_⟩⟩
      have := World.ownsRow.cellAt hm i (by omega)
      rw [this]; simp [List.getD, List.getElem?_eq_getElem hi]
  subst hmv
  obtain ⟨n, hn⟩ : ∃ n, n = ml.length := ⟨_, rfl⟩
  rw [← hn] at hml hA ⊢
  obtain ⟨out, ho⟩ : ∃ out, out = setAll l ml := ⟨_, rfl⟩
  rw [← ho]
  have hol : out.length = l.length := by rw [ho]; exact setAll_len _ _
  have HS := Lib.hid (fun v w (h : Reads w v out) => cSum v out w h (by omega))
  have HO := Lib.hid ho
  have HA := Lib.hid hA
  have HIN := Lib.hid hin
  have HN := Lib.hid hn
  clear h hm hA ho hin hn hol
  go_enter Tryd.func58, Tryd.ntmps58
  go_wp2_with (go_at_call 67; refine C1.out.mono ?_; rintro e w1 ⟨v1, rfl, own1, b1⟩; refine Hid.out ?_)
  refine Lib.hid ?_
  have hcap : Hid (∀ i, i < n → ∃ gm, A = some ⟨gm, 0, none⟩ ∧ w1.cell? ⟨gm, i, none⟩ = some (.int .i64 ((ml.getD i 0 : Nat) : Int)) ∧ gm < w.heap.size) := fun i hi => by
    obtain ⟨gm, e1, e2⟩ := HA.out (by omega)
    have := e2 i hi
    refine ⟨gm, e1, ?_, cell_lt this⟩
    rw [b1.cell (p := ⟨gm, i, none⟩) (cell_lt this)]; exact this
  go_wp2_with fail
  go_loopw [12] (fun i wr => ∃ k : Nat, k ≤ n ∧ i = .int .i64 k ∧ Owns wr w.heap.size v1 (setAll l (ml.take k)) ∧ Below w.heap.size w1 wr) (fun i _ => n - (intOf i).toNat)
  case atStart => exact ⟨0, by omega, rfl, own1, Below.refl _ _⟩
  case round =>
    obtain ⟨k, hk, rfl, hown, hbr⟩ := hrel
    by_cases hlt : k < n
    · obtain ⟨gm, rfl, hcm, hgm⟩ := hcap.out k hlt
      have hcm2 := (hbr.cell (p := ⟨gm, k, none⟩) hgm).trans hcm
      have hmem : ml.getD k 0 ∈ ml := by
        have : k < ml.length := by rw [← HN.out]; exact hlt
        simp [List.getD, List.getElem?_eq_getElem this]
      have hM := HIN.out _ hmem
      have hst : setAll l (ml.take (k + 1)) = (setAll l (ml.take k)).set (ml.getD k 0) 80 := by
        have : k < ml.length := by rw [← HN.out]; exact hlt
        rw [← setAll_snoc, List.take_succ_eq_append_getElem this]; simp [List.getD, List.getElem?_eq_getElem this, -List.take_append_getElem]
      have hlen : (setAll l (ml.take k)).length = l.length := setAll_len _ _
      generalize ml.getD k 0 = M at hcm hcm2 hM hst
      generalize setAll l (ml.take k) = X at hown hst hlen
      obtain ⟨g1, q1, hv1, hq1, hq2⟩ := hown.form2 (by omega)
      subst hv1
      have hbc := hown.cell M (by omega)
      have hbf := hown.free M
      have hs := hown.stored M 80 (by omega)
      have hgb := (World.ownsRow.lt hown g1 rfl).1
      generalize X.getD M 0 = bo at hbc
      have HS1 : Hid (Owns (wr.setCell ⟨g1, M, none⟩ (.int .u8 80)) w.heap.size (.slice (some ⟨g1, 0, none⟩) X.length q1) (setAll l (ml.take (k + 1)))) := by unfold Hid; rw [hst]; exact hs
      have hb2 := hbr.setCell hgb (.int .u8 80) (p := ⟨g1, M, none⟩)
      clear hcm hst hs hown own1 C1
      go_wp2
      go_roundw
      case rel => exact ⟨k + 1, by omega, by go_num, HS1.out, hb2⟩
      case measure => simp [intOf]; omega
    · obtain rfl : k = n := by omega
      have HX : Hid (Owns wr w.heap.size v1 out) := by
        unfold Hid; rw [HO.out]
        have : ml.take k = ml := List.take_of_length_le (by rw [← HN.out]; omega)
        rwa [this] at hown
      clear hown hlt own1
      go_wp2_with (go_at_call 26; refine (HS.out _ _ HX.out.reads).mono ?_; rintro e w2 ⟨rfl, rfl⟩; refine Hid.out ?_)
      refine Lib.hid ?_
      go_wp2
      go_ret
      exact ⟨rfl, b1.trans hbr⟩
end Go.Proofs.YthoeicidilnleaaDoor.Codec
