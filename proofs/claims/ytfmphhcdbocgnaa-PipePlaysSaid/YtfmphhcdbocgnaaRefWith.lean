/-
  The document's ports: each put in where it belongs; what may be a port; none at the beginning.
-/
import Derived.Test.YtfmphhcdbocgnaaRefSt
import Derived.WalkLawsBesides
import Derived.Deep.DeepMust
import Derived.Sort.Walk0
namespace Go.Proofs.Ytfmphhcdbocgnaa.Pipe
open Go.RowKit Base
open Go.Proofs (encStr)
theorem putIn_at (s : List UInt8) : ∀ (ls : List (List UInt8)) (k : Nat), k ≤ ls.length → (∀ (j : Nat) x, j < k → ls[j]? = some x → x < s) → (∀ x, ls[k]? = some x → ¬ x < s) →
    putIn ls s = if ls[k]? = some s then ls else ls.take k ++ s :: ls.drop k
  | [], k, hk, _, _ => by
    obtain rfl : k = 0 := by simpa using hk
    rfl
  | a :: r, 0, _, _, h2 => by
    have h := h2 a rfl
    unfold putIn
    rw [if_neg h]
    by_cases e : a = s
    · subst e; simp
    · rw [if_neg e, if_neg (by simpa using e)]; rfl
  | a :: r, k + 1, hk, h1, h2 => by
    have h := h1 0 a (by omega) rfl
    unfold putIn
    rw [if_pos h, putIn_at s r k (by simpa using hk) (fun j x hj hx => h1 (j + 1) x (by omega) hx) (fun x hx => h2 x hx)]
    by_cases e : r[k]? = some s
    · rw [if_pos e, if_pos (by simpa using e)]
    · rw [if_neg e, if_neg (by simpa using e)]; rfl
def WithEnd (B : Nat) (ws : List (List UInt8)) (w : World) (e : Ending) (w' : World) : Prop :=
  ∃ a c, e = .returned (.slice a ws.length c) ∧ w'.ownsRow B 9 1 (.slice a ws.length c) ws.length (ws.map encStr) ∧ Below w.heap.size w w'
theorem row_mono {w : World} {B B' : Nat} {e : TypeId} {sz n : Nat} {v : Value} {xs : List Value} (h : w.ownsRow B e sz v n xs) (hB : B' ≤ B) : w.ownsRow B' e sz v n xs := by
  refine ⟨h.1, ?_⟩
  rcases h.2 with hn | ⟨g, cap, cur, rfl, h1, h2⟩
  · exact Or.inl hn
  · exact Or.inr ⟨g, cap, cur, rfl, Nat.le_trans hB h1, h2⟩
theorem vreads_one (w : World) (x : Value) (t : TypeId) : VReads (w.alloc (.cells #[x] t)) (.slice (some ⟨w.heap.size, 0, none⟩) 1 1) [x] := by
  refine Or.inr ⟨w.heap.size, 0, 1, rfl, Nat.le_refl _, fun i u h => ?_⟩
  have := news_one w x t i u h
  rwa [Addr.add_lit] at this
theorem strs_one (ls : List (List UInt8)) : ∀ u ∈ ls.map encStr, u.oneCell' = true := by
  intro u hu
  obtain ⟨x, _, rfl⟩ := List.mem_map.1 hu
  rfl
/-- What is made of the parts. -/
theorem with_end (w : World) {w1 w2 w3 : World} {v3 : Value} {B k : Nat} {ls : List (List UInt8)} {s : ByteArray} (hB : B ≤ w.heap.size)
    (h3 : w3.ownsRow w.heap.size 9 1 v3 (0 + ((ls.map encStr).take k).length + [Value.string s].length + ((ls.map encStr).drop k).length) ([] ++ (ls.map encStr).take k ++ [.string s] ++ (ls.map encStr).drop k))
    (b1 : Below w.heap.size w w1) (b2 : Below w.heap.size w1 w2) (b3 : Below w.heap.size w2 w3) (hp : putIn ls s.data.toList = ls.take k ++ s.data.toList :: ls.drop k) : WithEnd B (putIn ls s.data.toList) w (.returned v3) w3 := by
  have hlen : (putIn ls s.data.toList).length = 0 + ((ls.map encStr).take k).length + [Value.string s].length + ((ls.map encStr).drop k).length := by rw [hp]; simp; omega
  have hmap : (putIn ls s.data.toList).map encStr = [] ++ (ls.map encStr).take k ++ [.string s] ++ (ls.map encStr).drop k := by
    rw [hp]; simp [encStr]
  obtain ⟨a, c, rfl, _⟩ := row_form h3
  rw [← hlen, ← hmap] at h3
  exact ⟨a, c, by rw [hlen], row_mono h3 hB, (b1.trans b2).trans b3⟩
theorem cWith (w : World) (B : Nat) (la : Option Addr) (lc : Nat) (ls : List (List UInt8)) (s : ByteArray) (h : w.ownsRow B 9 1 (.slice la ls.length lc) ls.length (ls.map encStr)) (hB : B ≤ w.heap.size) (hn : ls.length ≤ 3000000) :
    Calls Try.prog 28 #[.slice la ls.length lc, .string s] w (WithEnd B (putIn ls s.data.toList) w) := by
  obtain ⟨i0, hi0, hz0, hz1, hz2⟩ := info_parts info9
  obtain ⟨_, _, hcc, hlc⟩ := row_form h
  cases hcc
  have hv := Lib.hid (VReads.of_row h)
  have hbl : Hid (∀ b, (Value.slice la ls.length lc).ownBlock = some b → b < w.heap.size) := fun b hb => row_lt h hb
  have H := Lib.hid h
  clear h
  go_enter Try.func28, Try.ntmps28
  go_wp2
  go_loop [5] (fun v => ∃ k : Nat, k ≤ ls.length ∧ v = .int .i64 k ∧ Hid (∀ (j : Nat) x, j < k → ls[j]? = some x → x < s.data.toList)) (fun v => ls.length - (intOf v).toNat)
  case atStart => exact ⟨0, Nat.zero_le _, rfl, fun j x hj => by omega⟩
  case round =>
    obtain ⟨k, hk, rfl, hlo⟩ := hrel
    by_cases hlt : k < ls.length
    · obtain ⟨x, hx⟩ : ∃ x, ls[k]? = some x := ⟨ls[k], List.getElem?_eq_getElem hlt⟩
      obtain ⟨lb, lo, hla, hcel⟩ := hv.out.cell (i := k) (x := encStr x) (by rw [List.getElem?_map, hx]; rfl)
      subst hla
      have HX := Lib.hid hx
      clear hx
      by_cases h1 : x < s.data.toList
      · have e1 : Op.bytesLess x s.toList = true := by rw [bytesLess_eq, ByteArray.toList_eq]; exact decide_eq_true h1
        have hlo2 : Hid (∀ (j : Nat) y, j < k + 1 → ls[j]? = some y → y < s.data.toList) := fun j y hj hy => by
          rcases Nat.lt_or_ge j k with h | h
          · exact hlo.out j y h hy
          · obtain rfl : j = k := by omega
            rw [HX.out] at hy; cases hy; exact h1
        clear h1 hlo
        go_wp2
        go_round
        case rel => exact ⟨k + 1, by omega, by go_num, hlo2⟩
        case measure => simp [intOf]; omega
      · have e1 : Op.bytesLess x s.toList = false := by rw [bytesLess_eq, ByteArray.toList_eq]; exact decide_eq_false h1
        have hput := putIn_at s.data.toList ls k hk hlo.out (fun y hy => by rw [HX.out] at hy; cases hy; exact h1)
        by_cases h2 : x = s.data.toList
        · have e2 : (x == s.toList) = true := by rw [ByteArray.toList_eq]; simpa using h2
          rw [HX.out, if_pos (by rw [h2])] at hput
          have HPUT := Lib.hid hput
          clear hput h1 h2 hlo
          go_wp2
          go_ret
          exact ⟨_, lc, by rw [HPUT.out]; rfl, by rw [HPUT.out]; exact H.out, Below.refl _ _⟩
        · have e2 : (x == s.toList) = false := by rw [ByteArray.toList_eq]; simpa using h2
          rw [HX.out, if_neg (by simpa using h2)] at hput
          have HPUT := Lib.hid hput
          clear hput h1 h2 hlo
          have hlk : ((ls.map encStr).take k).length = k := by rw [List.length_take, List.length_map]; omega
          have hld : ((ls.map encStr).drop k).length = ls.length - k := by rw [List.length_drop, List.length_map]
          have KL : Hid (k ≤ (ls.map encStr).length) := by show k ≤ _; rw [List.length_map]; exact hk
          have LIM1 : Hid ((0 + ((ls.map encStr).take k).length) * 16 ≤ 140737488355328) := by show _ ≤ _; rw [hlk]; omega
          have LIM1b : Hid (0 + ((ls.map encStr).take k).length ≤ 9223372036854775807) := by show _ ≤ _; rw [hlk]; omega
          have LIM2 : Hid ((0 + ((ls.map encStr).take k).length + [Value.string s].length) * 16 ≤ 140737488355328) := by show _ ≤ _; rw [hlk]; simp only [List.length_singleton]; omega
          have LIM2b : Hid (0 + ((ls.map encStr).take k).length + [Value.string s].length ≤ 9223372036854775807) := by show _ ≤ _; rw [hlk]; simp only [List.length_singleton]; omega
          have LIM3 : Hid ((0 + ((ls.map encStr).take k).length + [Value.string s].length + ((ls.map encStr).drop k).length) * 16 ≤ 140737488355328) := by show _ ≤ _; rw [hlk, hld]; simp only [List.length_singleton]; omega
          have LIM3b : Hid (0 + ((ls.map encStr).take k).length + [Value.string s].length + ((ls.map encStr).drop k).length ≤ 9223372036854775807) := by show _ ≤ _; rw [hlk, hld]; simp only [List.length_singleton]; omega
          have hkc : k ≤ lc := by omega
          have hk0 : (0 : Int) ≤ (k : Int) := by omega
          have hk1 : (k : Int) ≤ (ls.length : Int) := by omega
          have hk2 : (k : Int) ≤ (lc : Int) := by omega
          clear hlk hld
          go_wp2_with (at_builtin; go_must (refine wpList_append_row _ rfl _ _ 49 rfl w.heap.size 9 i0 (.string ⟨#[]⟩) 16 Try.underlying49 hi0 hz0 hz1 hz2 rfl (.slice none 0 0) _ 0 [] ((ls.map encStr).take k) rfl rfl (World.ownsRow_nil _ _ _ _) (VReads.take hv.out KL.out) (fun u hu => strs_one ls u (List.mem_of_mem_take hu)) LIM1.out LIM1b.out (Nat.le_refl _) ?_); intro v1 w1 o1 g1 a1; refine Hid.out ?_)
          refine Lib.hid ?_
          have b1 : Below w.heap.size w w1 := (Below.refl _ _).grown g1 (Nat.le_refl _) (fun k hk => by cases hk)
          have o1' := Lib.hid o1
          have G1 : Hid (∀ j, v1.ownBlock = some j → w.heap.size ≤ j) := fun j hj => (o1.lt j hj).1
          have hv1 := Lib.hid (VReads.kept hv.out (w' := w1) fun b _ hb => b1.block b hb)
          clear o1 g1 a1
          go_wp2_with (at_builtin; go_must (refine wpList_append_row _ rfl _ _ 49 rfl w.heap.size 9 i0 (.string ⟨#[]⟩) 16 Try.underlying49 hi0 hz0 hz1 hz2 rfl v1 _ _ _ [.string s] rfl rfl (o1'.out.alloc _) (vreads_one _ _ _) (one_str _) LIM2.out LIM2b.out (by have := b1.size; simp; omega) ?_); intro v2 w2 o2 g2 a2; refine Hid.out ?_)
          refine Lib.hid ?_
          have b2 : Below w.heap.size w1 w2 := ((Below.refl _ _).alloc b1.size _).grown g2 (by have := b1.size; simp; omega) (fun j hj => G1.out j hj)
          have o2' := Lib.hid o2
          have G2 : Hid (∀ j, v2.ownBlock = some j → w.heap.size ≤ j) := fun j hj => (o2.lt j hj).1
          have hv2 := Lib.hid (VReads.kept hv1.out (w' := w2) fun b hb _ => by
            have hlt := hbl.out b hb
            exact b2.block b hlt)
          clear o2 g2 a2
          go_wp2_with (at_builtin; go_must (refine wpList_append_row _ rfl _ _ 49 rfl w.heap.size 9 i0 (.string ⟨#[]⟩) 16 Try.underlying49 hi0 hz0 hz1 hz2 rfl v2 _ _ _ ((ls.map encStr).drop k) rfl rfl o2'.out (by first | exact VReads.drop hv2.out KL.out | (have hd := VReads.drop hv2.out KL.out; rw [Option.map_some, Addr.add_lit] at hd; first | exact hd | (rw [if_neg (by omega)] at hd; first | exact hd | (rw [Nat.zero_add] at hd; exact hd)) | (rw [if_pos (by omega)] at hd; first | exact hd | exact Or.inl ⟨List.drop_eq_nil_of_le (by rw [List.length_map]; omega), _, _, rfl, fun hh => by cases hh⟩))) (fun u hu => strs_one ls u (List.mem_of_mem_drop hu)) LIM3.out LIM3b.out (Nat.le_trans b1.size b2.size) ?_); intro v3 w3 o3 g3 a3; refine Hid.out ?_)
          refine Lib.hid ?_
          have b3 : Below w.heap.size w2 w3 := (Below.refl _ _).grown g3 (Nat.le_trans b1.size b2.size) (fun j hj => G2.out j hj)
          have HE := Lib.hid (with_end w hB o3 b1 b2 b3 HPUT.out)
          clear o3 g3 a3
          go_wp2
          go_ret
          exact HE.out
    · have hput := putIn_at s.data.toList ls k hk hlo.out (fun y hy => by rw [List.getElem?_eq_none (by omega)] at hy; cases hy)
      rw [List.getElem?_eq_none (by omega), if_neg (by simp)] at hput
      have HPUT := Lib.hid hput
      clear hput hlo
      have hcs : (la = none ∧ lc = 0) ∨ ∃ gg, la = some ⟨gg, 0, none⟩ := by
        rcases H.out.2 with ⟨he, _⟩ | ⟨gg, cap, cur, he, _⟩
        · simp at he; exact Or.inl ⟨he.1, he.2.2⟩
        · simp at he; exact Or.inr ⟨gg, he.1⟩
      rcases hcs with ⟨rfl, rfl⟩ | ⟨gg, rfl⟩
      · obtain rfl : ls = [] := List.eq_nil_of_length_eq_zero (by omega)
        obtain rfl : k = 0 := by simpa using hk
        have hlk : ((([] : List (List UInt8)).map encStr).take 0).length = 0 := by rw [List.length_take, List.length_map]; omega
        have hld : ((([] : List (List UInt8)).map encStr).drop 0).length = ([] : List (List UInt8)).length - 0 := by rw [List.length_drop, List.length_map]
        have KL : Hid (0 ≤ (([] : List (List UInt8)).map encStr).length) := by show 0 ≤ _; rw [List.length_map]; exact hk
        have LIM1 : Hid ((0 + ((([] : List (List UInt8)).map encStr).take 0).length) * 16 ≤ 140737488355328) := by show _ ≤ _; rw [hlk]; omega
        have LIM1b : Hid (0 + ((([] : List (List UInt8)).map encStr).take 0).length ≤ 9223372036854775807) := by show _ ≤ _; rw [hlk]; omega
        have LIM2 : Hid ((0 + ((([] : List (List UInt8)).map encStr).take 0).length + [Value.string s].length) * 16 ≤ 140737488355328) := by show _ ≤ _; rw [hlk]; simp only [List.length_singleton]; omega
        have LIM2b : Hid (0 + ((([] : List (List UInt8)).map encStr).take 0).length + [Value.string s].length ≤ 9223372036854775807) := by show _ ≤ _; rw [hlk]; simp only [List.length_singleton]; omega
        have LIM3 : Hid ((0 + ((([] : List (List UInt8)).map encStr).take 0).length + [Value.string s].length + ((([] : List (List UInt8)).map encStr).drop 0).length) * 16 ≤ 140737488355328) := by show _ ≤ _; rw [hlk, hld]; simp only [List.length_singleton]; omega
        have LIM3b : Hid (0 + ((([] : List (List UInt8)).map encStr).take 0).length + [Value.string s].length + ((([] : List (List UInt8)).map encStr).drop 0).length ≤ 9223372036854775807) := by show _ ≤ _; rw [hlk, hld]; simp only [List.length_singleton]; omega
        have hkc : 0 ≤ 0 := by omega
        have hk0 : (0 : Int) ≤ (0 : Int) := by omega
        have hk1 : (0 : Int) ≤ (([] : List (List UInt8)).length : Int) := by omega
        have hk2 : (0 : Int) ≤ 0 := by omega
        clear hlk hld
        go_wp2_with (at_builtin; go_must (refine wpList_append_row _ rfl _ _ 49 rfl w.heap.size 9 i0 (.string ⟨#[]⟩) 16 Try.underlying49 hi0 hz0 hz1 hz2 rfl (.slice none 0 0) _ 0 [] ((([] : List (List UInt8)).map encStr).take 0) rfl rfl (World.ownsRow_nil _ _ _ _) (VReads.take hv.out KL.out) (fun u hu => strs_one ([] : List (List UInt8)) u (List.mem_of_mem_take hu)) LIM1.out LIM1b.out (Nat.le_refl _) ?_); intro v1 w1 o1 g1 a1; refine Hid.out ?_)
        refine Lib.hid ?_
        have b1 : Below w.heap.size w w1 := (Below.refl _ _).grown g1 (Nat.le_refl _) (fun jj hj => by cases hj)
        have o1' := Lib.hid o1
        have G1 : Hid (∀ j, v1.ownBlock = some j → w.heap.size ≤ j) := fun j hj => (o1.lt j hj).1
        have hv1 := Lib.hid (VReads.kept hv.out (w' := w1) fun b _ hb => b1.block b hb)
        clear o1 g1 a1
        go_wp2_with (at_builtin; go_must (refine wpList_append_row _ rfl _ _ 49 rfl w.heap.size 9 i0 (.string ⟨#[]⟩) 16 Try.underlying49 hi0 hz0 hz1 hz2 rfl v1 _ _ _ [.string s] rfl rfl (o1'.out.alloc _) (vreads_one _ _ _) (one_str _) LIM2.out LIM2b.out (by have := b1.size; simp; omega) ?_); intro v2 w2 o2 g2 a2; refine Hid.out ?_)
        refine Lib.hid ?_
        have b2 : Below w.heap.size w1 w2 := ((Below.refl _ _).alloc b1.size _).grown g2 (by have := b1.size; simp; omega) (fun j hj => G1.out j hj)
        have o2' := Lib.hid o2
        have G2 : Hid (∀ j, v2.ownBlock = some j → w.heap.size ≤ j) := fun j hj => (o2.lt j hj).1
        have hv2 := Lib.hid (VReads.kept hv1.out (w' := w2) fun b hb _ => by
          have hlt := hbl.out b hb
          exact b2.block b hlt)
        clear o2 g2 a2
        go_wp2_with (at_builtin; go_must (refine wpList_append_row _ rfl _ _ 49 rfl w.heap.size 9 i0 (.string ⟨#[]⟩) 16 Try.underlying49 hi0 hz0 hz1 hz2 rfl v2 _ _ _ ((([] : List (List UInt8)).map encStr).drop 0) rfl rfl o2'.out (Or.inl ⟨rfl, none, 0, rfl, fun _ => rfl⟩) (fun u hu => strs_one ([] : List (List UInt8)) u (List.mem_of_mem_drop hu)) LIM3.out LIM3b.out (Nat.le_trans b1.size b2.size) ?_); intro v3 w3 o3 g3 a3; refine Hid.out ?_)
        refine Lib.hid ?_
        have b3 : Below w.heap.size w2 w3 := (Below.refl _ _).grown g3 (Nat.le_trans b1.size b2.size) (fun j hj => G2.out j hj)
        have HE := Lib.hid (with_end w hB o3 b1 b2 b3 HPUT.out)
        clear o3 g3 a3
        go_wp2
        go_ret
        exact HE.out
      · by_cases hck : lc = k
        · subst hck
          have hlk : ((ls.map encStr).take lc).length = lc := by rw [List.length_take, List.length_map]; omega
          have hld : ((ls.map encStr).drop lc).length = ls.length - lc := by rw [List.length_drop, List.length_map]
          have KL : Hid (lc ≤ (ls.map encStr).length) := by show lc ≤ _; rw [List.length_map]; exact hk
          have LIM1 : Hid ((0 + ((ls.map encStr).take lc).length) * 16 ≤ 140737488355328) := by show _ ≤ _; rw [hlk]; omega
          have LIM1b : Hid (0 + ((ls.map encStr).take lc).length ≤ 9223372036854775807) := by show _ ≤ _; rw [hlk]; omega
          have LIM2 : Hid ((0 + ((ls.map encStr).take lc).length + [Value.string s].length) * 16 ≤ 140737488355328) := by show _ ≤ _; rw [hlk]; simp only [List.length_singleton]; omega
          have LIM2b : Hid (0 + ((ls.map encStr).take lc).length + [Value.string s].length ≤ 9223372036854775807) := by show _ ≤ _; rw [hlk]; simp only [List.length_singleton]; omega
          have LIM3 : Hid ((0 + ((ls.map encStr).take lc).length + [Value.string s].length + ((ls.map encStr).drop lc).length) * 16 ≤ 140737488355328) := by show _ ≤ _; rw [hlk, hld]; simp only [List.length_singleton]; omega
          have LIM3b : Hid (0 + ((ls.map encStr).take lc).length + [Value.string s].length + ((ls.map encStr).drop lc).length ≤ 9223372036854775807) := by show _ ≤ _; rw [hlk, hld]; simp only [List.length_singleton]; omega
          have hkc : lc ≤ lc := by omega
          have hk0 : (0 : Int) ≤ (lc : Int) := by omega
          have hk1 : (lc : Int) ≤ (ls.length : Int) := by omega
          have hk2 : (lc : Int) ≤ (lc : Int) := by omega
          clear hlk hld
          go_wp2_with (at_builtin; go_must (refine wpList_append_row _ rfl _ _ 49 rfl w.heap.size 9 i0 (.string ⟨#[]⟩) 16 Try.underlying49 hi0 hz0 hz1 hz2 rfl (.slice none 0 0) _ 0 [] ((ls.map encStr).take lc) rfl rfl (World.ownsRow_nil _ _ _ _) (VReads.take hv.out KL.out) (fun u hu => strs_one ls u (List.mem_of_mem_take hu)) LIM1.out LIM1b.out (Nat.le_refl _) ?_); intro v1 w1 o1 g1 a1; refine Hid.out ?_)
          refine Lib.hid ?_
          have b1 : Below w.heap.size w w1 := (Below.refl _ _).grown g1 (Nat.le_refl _) (fun jj hj => by cases hj)
          have o1' := Lib.hid o1
          have G1 : Hid (∀ j, v1.ownBlock = some j → w.heap.size ≤ j) := fun j hj => (o1.lt j hj).1
          have hv1 := Lib.hid (VReads.kept hv.out (w' := w1) fun b _ hb => b1.block b hb)
          clear o1 g1 a1
          go_wp2_with (at_builtin; go_must (refine wpList_append_row _ rfl _ _ 49 rfl w.heap.size 9 i0 (.string ⟨#[]⟩) 16 Try.underlying49 hi0 hz0 hz1 hz2 rfl v1 _ _ _ [.string s] rfl rfl (o1'.out.alloc _) (vreads_one _ _ _) (one_str _) LIM2.out LIM2b.out (by have := b1.size; simp; omega) ?_); intro v2 w2 o2 g2 a2; refine Hid.out ?_)
          refine Lib.hid ?_
          have b2 : Below w.heap.size w1 w2 := ((Below.refl _ _).alloc b1.size _).grown g2 (by have := b1.size; simp; omega) (fun j hj => G1.out j hj)
          have o2' := Lib.hid o2
          have G2 : Hid (∀ j, v2.ownBlock = some j → w.heap.size ≤ j) := fun j hj => (o2.lt j hj).1
          have hv2 := Lib.hid (VReads.kept hv1.out (w' := w2) fun b hb _ => by
            have hlt := hbl.out b hb
            exact b2.block b hlt)
          clear o2 g2 a2
          go_wp2_with (at_builtin; go_must (refine wpList_append_row _ rfl _ _ 49 rfl w.heap.size 9 i0 (.string ⟨#[]⟩) 16 Try.underlying49 hi0 hz0 hz1 hz2 rfl v2 _ _ _ ((ls.map encStr).drop lc) rfl rfl o2'.out (by first | exact VReads.drop hv2.out KL.out | (have hd := VReads.drop hv2.out KL.out; rw [Option.map_some, Addr.add_lit] at hd; first | exact hd | (rw [if_neg (by omega)] at hd; first | exact hd | (rw [Nat.zero_add] at hd; exact hd)) | (rw [if_pos (by omega)] at hd; first | exact hd | exact Or.inl ⟨List.drop_eq_nil_of_le (by rw [List.length_map]; omega), _, _, rfl, fun hh => by cases hh⟩))) (fun u hu => strs_one ls u (List.mem_of_mem_drop hu)) LIM3.out LIM3b.out (Nat.le_trans b1.size b2.size) ?_); intro v3 w3 o3 g3 a3; refine Hid.out ?_)
          refine Lib.hid ?_
          have b3 : Below w.heap.size w2 w3 := (Below.refl _ _).grown g3 (Nat.le_trans b1.size b2.size) (fun j hj => G2.out j hj)
          have HE := Lib.hid (with_end w hB o3 b1 b2 b3 HPUT.out)
          clear o3 g3 a3
          go_wp2
          go_ret
          exact HE.out
        · skip
          have hlk : ((ls.map encStr).take k).length = k := by rw [List.length_take, List.length_map]; omega
          have hld : ((ls.map encStr).drop k).length = ls.length - k := by rw [List.length_drop, List.length_map]
          have KL : Hid (k ≤ (ls.map encStr).length) := by show k ≤ _; rw [List.length_map]; exact hk
          have LIM1 : Hid ((0 + ((ls.map encStr).take k).length) * 16 ≤ 140737488355328) := by show _ ≤ _; rw [hlk]; omega
          have LIM1b : Hid (0 + ((ls.map encStr).take k).length ≤ 9223372036854775807) := by show _ ≤ _; rw [hlk]; omega
          have LIM2 : Hid ((0 + ((ls.map encStr).take k).length + [Value.string s].length) * 16 ≤ 140737488355328) := by show _ ≤ _; rw [hlk]; simp only [List.length_singleton]; omega
          have LIM2b : Hid (0 + ((ls.map encStr).take k).length + [Value.string s].length ≤ 9223372036854775807) := by show _ ≤ _; rw [hlk]; simp only [List.length_singleton]; omega
          have LIM3 : Hid ((0 + ((ls.map encStr).take k).length + [Value.string s].length + ((ls.map encStr).drop k).length) * 16 ≤ 140737488355328) := by show _ ≤ _; rw [hlk, hld]; simp only [List.length_singleton]; omega
          have LIM3b : Hid (0 + ((ls.map encStr).take k).length + [Value.string s].length + ((ls.map encStr).drop k).length ≤ 9223372036854775807) := by show _ ≤ _; rw [hlk, hld]; simp only [List.length_singleton]; omega
          have hkc : k ≤ lc := by omega
          have hk0 : (0 : Int) ≤ (k : Int) := by omega
          have hk1 : (k : Int) ≤ (ls.length : Int) := by omega
          have hk2 : (k : Int) ≤ (lc : Int) := by omega
          clear hlk hld
          go_wp2_with (at_builtin; go_must (refine wpList_append_row _ rfl _ _ 49 rfl w.heap.size 9 i0 (.string ⟨#[]⟩) 16 Try.underlying49 hi0 hz0 hz1 hz2 rfl (.slice none 0 0) _ 0 [] ((ls.map encStr).take k) rfl rfl (World.ownsRow_nil _ _ _ _) (VReads.take hv.out KL.out) (fun u hu => strs_one ls u (List.mem_of_mem_take hu)) LIM1.out LIM1b.out (Nat.le_refl _) ?_); intro v1 w1 o1 g1 a1; refine Hid.out ?_)
          refine Lib.hid ?_
          have b1 : Below w.heap.size w w1 := (Below.refl _ _).grown g1 (Nat.le_refl _) (fun k hk => by cases hk)
          have o1' := Lib.hid o1
          have G1 : Hid (∀ j, v1.ownBlock = some j → w.heap.size ≤ j) := fun j hj => (o1.lt j hj).1
          have hv1 := Lib.hid (VReads.kept hv.out (w' := w1) fun b _ hb => b1.block b hb)
          clear o1 g1 a1
          go_wp2_with (at_builtin; go_must (refine wpList_append_row _ rfl _ _ 49 rfl w.heap.size 9 i0 (.string ⟨#[]⟩) 16 Try.underlying49 hi0 hz0 hz1 hz2 rfl v1 _ _ _ [.string s] rfl rfl (o1'.out.alloc _) (vreads_one _ _ _) (one_str _) LIM2.out LIM2b.out (by have := b1.size; simp; omega) ?_); intro v2 w2 o2 g2 a2; refine Hid.out ?_)
          refine Lib.hid ?_
          have b2 : Below w.heap.size w1 w2 := ((Below.refl _ _).alloc b1.size _).grown g2 (by have := b1.size; simp; omega) (fun j hj => G1.out j hj)
          have o2' := Lib.hid o2
          have G2 : Hid (∀ j, v2.ownBlock = some j → w.heap.size ≤ j) := fun j hj => (o2.lt j hj).1
          have hv2 := Lib.hid (VReads.kept hv1.out (w' := w2) fun b hb _ => by
            have hlt := hbl.out b hb
            exact b2.block b hlt)
          clear o2 g2 a2
          go_wp2_with (at_builtin; go_must (refine wpList_append_row _ rfl _ _ 49 rfl w.heap.size 9 i0 (.string ⟨#[]⟩) 16 Try.underlying49 hi0 hz0 hz1 hz2 rfl v2 _ _ _ ((ls.map encStr).drop k) rfl rfl o2'.out (by first | exact VReads.drop hv2.out KL.out | (have hd := VReads.drop hv2.out KL.out; rw [Option.map_some, Addr.add_lit] at hd; first | exact hd | (rw [if_neg (by omega)] at hd; first | exact hd | (rw [Nat.zero_add] at hd; exact hd)) | (rw [if_pos (by omega)] at hd; first | exact hd | exact Or.inl ⟨List.drop_eq_nil_of_le (by rw [List.length_map]; omega), _, _, rfl, fun hh => by cases hh⟩))) (fun u hu => strs_one ls u (List.mem_of_mem_drop hu)) LIM3.out LIM3b.out (Nat.le_trans b1.size b2.size) ?_); intro v3 w3 o3 g3 a3; refine Hid.out ?_)
          refine Lib.hid ?_
          have b3 : Below w.heap.size w2 w3 := (Below.refl _ _).grown g3 (Nat.le_trans b1.size b2.size) (fun j hj => G2.out j hj)
          have HE := Lib.hid (with_end w hB o3 b1 b2 b3 HPUT.out)
          clear o3 g3 a3
          go_wp2
          go_ret
          exact HE.out
end Go.Proofs.Ytfmphhcdbocgnaa.Pipe
