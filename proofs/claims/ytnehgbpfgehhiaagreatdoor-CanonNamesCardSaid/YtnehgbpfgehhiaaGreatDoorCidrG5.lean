/-
  MERGED by mergefill.py: CidrG5.
-/
import Derived.Test.YtnehgbpfgehhiaaGreatDoorCidrPHexFM
/-
  MERGED by mergetpl.py: CidrPGrpF, CidrPZero, CidrPForm.
-/
/-
  CIDR, the program: the form of groups; where the longest row of 0 stands.
-/
namespace Go.Proofs.YtnehgbpfgehhiaaGreatDoor.Cidr
open Go.RowKit Base
abbrev U64 (n : Nat) : Value := .int .u64 (n : Int)
theorem hexD_len4 (g : Nat) (h : g ≤ 65535) : (hexD g).length ≤ 4 := hexD_len g h
theorem join_small (c : UInt8) : ∀ (ls : List (List UInt8)), (∀ l ∈ ls, l.length ≤ 4) → (Lib.join ls [c]).length ≤ 5 * ls.length
  | [], _ => by simp [Lib.join_nil]
  | x :: r, h => by
    rw [Lib.join_cons]
    have hx := h x List.mem_cons_self
    have : ∀ (r : List (List UInt8)), (∀ l ∈ r, l.length ≤ 4) → (Lib.joinTail [c] r).length ≤ 5 * r.length := by
      intro r
      induction r with
      | nil => intro _; simp [Lib.joinTail]
      | cons y q ih =>
        intro hq
        have h1 := ih fun l hl => hq l (List.mem_cons_of_mem _ hl)
        have h2 := hq y List.mem_cons_self
        simp only [Lib.joinTail, List.map_cons, List.flatten_cons, List.length_append, List.length_cons, List.length_nil] at h1 ⊢
        omega
    have := this r fun l hl => h l (List.mem_cons_of_mem _ hl)
    rw [List.length_append, List.length_cons]; omega
theorem vreads_on {w w' : World} {v : Value} {xs : List Value} (h : VReads w v xs) (hb : Below w.heap.size w w') : VReads w' v xs := h.kept fun b _ hl => hb.block b hl
set_option maxHeartbeats 4000000 in
set_option maxRecDepth 100000 in
theorem pFormGroups (A : Option Addr) (c : Nat) (gs : List Nat) (hg : ∀ g ∈ gs, g ≤ 65535) (hl : gs.length ≤ 8) (w : World) (hr : VReads w (.slice A gs.length c) (gs.map U64)) (he : EnvS w) :
    Calls Tryz.prog 185 #[.slice A gs.length c] w fun e w' => e = .returned (S (Lib.join (gs.map hexD) [58])) ∧ Below w.heap.size w w' := by
  have HG := Lib.hid hg
  have HL := Lib.hid hl
  have HRD := Lib.hid hr
  have HE0 := Lib.hid he
  obtain ⟨R, hR⟩ : ∃ R : Value → Value → World → Prop, R = fun v i wr => ∃ k : Nat, k ≤ gs.length ∧ i = .int .i64 (k : Int) ∧ OwnsS wr w.heap.size v ((gs.take k).map hexD) ∧ Below w.heap.size w wr := ⟨_, rfl⟩
  have HR := Lib.hid hR
  clear hR he hg hr
  go_enter Tryz.func185, Tryz.ntmps185
  go_wp2
  go_loopw [3, 8] (fun v i wr => R v i wr) (fun _ i _ => gs.length - (intOf i).toNat)
  case atStart =>
    rw [HR.out]
    exact ⟨0, by omega, rfl, World.ownsRow_nil _ _ _ _, Below.refl _ _⟩
  case round =>
    rw [HR.out] at hrel
    obtain ⟨k, hk, rfl, hown, hbw⟩ := hrel
    have HBW := Lib.hid hbw
    by_cases hlt : k < gs.length
    · have i1 : (k : Int) < (gs.length : Int) := by omega
      have i0 : (0 : Int) ≤ (k : Int) := by omega
      have hgk : (gs.map U64)[k]? = some (U64 gs[k]) := by rw [List.getElem?_map, List.getElem?_eq_getElem hlt]; rfl
      obtain ⟨gb, go, rfl, hcell⟩ := VReads.cell (vreads_on HRD.out hbw) hgk
      have HNX : Hid ((gs.take (k + 1)).map hexD = (gs.take k).map hexD ++ [hexD gs[k]]) := by
        show _ = _
        rw [List.take_succ_eq_append_getElem hlt, List.map_append]; rfl
      have hgs := HG.out _ (List.getElem_mem hlt)
      have HE1 := Lib.hid (HE0.out.on hbw)
      generalize gs[k] = z at hcell HNX hgs hgk
      have HI := Lib.hid (pHexF z hgs wr HE1.out.tz)
      have HLS : Hid (((gs.take k).map hexD).length ≤ 1000) := by show _ ≤ _; simp; omega
      have HOW := Lib.hid hown
      generalize (gs.take k).map hexD = ls at hown HOW HNX HLS
      obtain ⟨oa, oc, rfl, hoc⟩ := hown.form
      clear hown hbw hgk
      go_wp2_with (first | (go_at_call 207; refine HI.out.mono ?_; rintro e w2 ⟨rfl, b2⟩; refine Hid.out ?_) | fail)
      refine Lib.hid ?_
      have HO2 := Lib.hid (HOW.out.on b2)
      have HB2 := Lib.hid (HBW.out.trans (b2.mono HBW.out.size))
      clear b2
      go_wp2_with (at_builtin; go_must (refine wp_append_s rfl _ _ rfl w.heap.size (.slice oa ls.length oc) ls (hexD z) rfl rfl HO2.out HLS.out HB2.out.size ?_); intro v3 w3 o3 b3; refine Hid.out ?_)
      refine Lib.hid ?_
      have HFIN : Hid (R v3 (.int .i64 ((k : Int) + 1)) w3) := by
        show R _ _ _
        rw [HR.out]
        exact ⟨k + 1, by omega, by simp, by rw [HNX.out]; exact o3, HB2.out.trans b3⟩
      clear o3 b3
      go_wp2
      go_roundw
      case rel => exact HFIN.out
      case measure => simp [intOf]; omega
    · obtain rfl : k = gs.length := by omega
      have i1 : ¬ (gs.length : Int) < (gs.length : Int) := by omega
      rw [List.take_length] at hown
      have hjl : (Lib.join (gs.map hexD) [58]).length ≤ 100000 := by
        have := join_small 58 (gs.map hexD) fun l hl => by
          obtain ⟨g, hg, rfl⟩ := List.mem_map.1 hl
          exact hexD_len4 g (HG.out g hg)
        rw [List.length_map] at this; omega
      have HJ := Lib.hid (pJoin w.heap.size _ _ 58 wr hown (by simp; omega) hjl)
      clear hown hbw hjl
      go_wp2_with (first | (go_at_call 183; refine HJ.out.mono ?_; rintro e w2 ⟨rfl, b2⟩; refine Hid.out ?_) | fail)
      refine Lib.hid ?_
      go_wp2
      go_ret
      exact ⟨rfl, HBW.out.trans (b2.mono HBW.out.size)⟩
end Go.Proofs.YtnehgbpfgehhiaaGreatDoor.Cidr
/-
  CIDR, the program: where the longest row of groups that are 0 stands.
-/
namespace Go.Proofs.YtnehgbpfgehhiaaGreatDoor.Cidr
open Go.RowKit Base
/-- From, to, start behind the first k groups. -/
def zN (G : List Nat) : Nat → Nat × Nat × Nat
  | 0 => (0, 0, 0)
  | k + 1 => if G.getD k 0 ≠ 0 then ((zN G k).1, (zN G k).2.1, k + 1) else if max ((zN G k).2.1 - (zN G k).1) 1 < k + 1 - (zN G k).2.2 then ((zN G k).2.2, k + 1, (zN G k).2.2) else zN G k
theorem zN_ok (G : List Nat) : ∀ k, (zN G k).1 ≤ (zN G k).2.1 ∧ (zN G k).2.1 ≤ k ∧ (zN G k).2.2 ≤ k
  | 0 => by simp [zN]
  | k + 1 => by
    have := zN_ok G k
    unfold zN
    split
    · simp only; omega
    · split
      · simp only; omega
      · omega
theorem list8 {c : List Nat} (h : c.length = 8) : ∃ a0 a1 a2 a3 a4 a5 a6 a7, c = [a0, a1, a2, a3, a4, a5, a6, a7] := by
  rcases c with _ | ⟨a0, c⟩
  · simp at h
  rcases c with _ | ⟨a1, c⟩
  · simp at h
  rcases c with _ | ⟨a2, c⟩
  · simp at h
  rcases c with _ | ⟨a3, c⟩
  · simp at h
  rcases c with _ | ⟨a4, c⟩
  · simp at h
  rcases c with _ | ⟨a5, c⟩
  · simp at h
  rcases c with _ | ⟨a6, c⟩
  · simp at h
  rcases c with _ | ⟨a7, c⟩
  · simp at h
  have hc : c = [] := by simpa using h
  subst hc
  exact ⟨a0, a1, a2, a3, a4, a5, a6, a7, rfl⟩
theorem index81 (G : List Nat) (hG : G.length = 8) (k : Nat) (hk : k < 8) (w : World) : (Instr.index 232 (.agg (G.map U64).toArray) (.int .i64 (k : Int))).run Tryz.prog w = .ok (.int .u64 ((G.getD k 0 : Nat) : Int)) w := by
  obtain ⟨a0, a1, a2, a3, a4, a5, a6, a7, rfl⟩ := list8 hG
  rcases (by omega : k = 0 ∨ k = 1 ∨ k = 2 ∨ k = 3 ∨ k = 4 ∨ k = 5 ∨ k = 6 ∨ k = 7) with rfl | rfl | rfl | rfl | rfl | rfl | rfl | rfl
  all_goals kernel_rfl
theorem size81 : (Tryz.prog.info? 232).map (·.size) = some 8 := by kernel_rfl
set_option maxHeartbeats 4000000 in
set_option maxRecDepth 100000 in
theorem pZeros (G : List Nat) (hG : G.length = 8) (w : World) : Calls Tryz.prog 184 #[.agg (G.map U64).toArray] w fun e w' => e = .returned (.tuple #[.int .i64 ((zN G 8).1 : Int), .int .i64 ((zN G 8).2.1 : Int)]) ∧ Below w.heap.size w w' := by
  have HG := Lib.hid hG
  have hat := (MapKept.heap_alloc w (.cells (G.map U64).toArray 232)).1
  have HRG : Hid ((w.alloc (.cells (G.map U64).toArray 232)).rangeAt w.heap.size 0 (G.map U64)) := fun j v hv => by
    rw [Nat.zero_add, cell_of_row _ _ j _ _ _ hat]; simpa using hv
  have HSZ : Hid ((Tryz.prog.info? 232).map (·.size) = some (G.map U64).length) := by show _ = _; rw [size81]; simp [hG]
  have HB0 := Lib.hid (Below.alloc1 w (.cells (G.map U64).toArray 232))
  obtain ⟨R, hR⟩ : ∃ R : Value → Value → Value → Value → World → Prop, R = fun f t s i wr => ∃ k : Nat, k ≤ 8 ∧ i = .int .i64 (k : Int) ∧ f = .int .i64 ((zN G k).1 : Int) ∧ t = .int .i64 ((zN G k).2.1 : Int) ∧ s = .int .i64 ((zN G k).2.2 : Int) ∧ Below w.heap.size w wr := ⟨_, rfl⟩
  have HR := Lib.hid hR
  clear hR hat
  go_enter Tryz.func184, Tryz.ntmps184
  go_wp2_with (first | (refine wpList_load_mid rfl 232 (.tmp 1) rfl w.heap.size 0 rfl (G.map U64) _ HRG.out Tryz.underlying232 rfl HSZ.out ?_) | fail)
  go_loopw [4, 5, 6, 10] (fun f t s i wr => R f t s i wr) (fun _ _ _ i _ => 8 - (intOf i).toNat)
  case atStart => rw [HR.out]; exact ⟨0, by omega, rfl, rfl, rfl, rfl, HB0.out⟩
  case round =>
    rw [HR.out] at hrel
    obtain ⟨k, hk, rfl, rfl, rfl, rfl, hb⟩ := hrel
    have HB := Lib.hid hb
    obtain ⟨z1, z2, z3⟩ := zN_ok G k
    by_cases hlt : k < 8
    · have i1 : (k : Int) < 8 := by omega
      have i0 : (0 : Int) ≤ (k : Int) := by omega
      have hkl : k < G.length := by rw [hG]; exact hlt
      have hstep : zN G (k + 1) = if G.getD k 0 ≠ 0 then ((zN G k).1, (zN G k).2.1, k + 1) else if max ((zN G k).2.1 - (zN G k).1) 1 < k + 1 - (zN G k).2.2 then ((zN G k).2.2, k + 1, (zN G k).2.2) else zN G k := rfl
      have HRK : Hid (∀ f t s, zN G (k + 1) = (f, t, s) → R (.int .i64 (f : Int)) (.int .i64 (t : Int)) (.int .i64 (s : Int)) (.int .i64 ((k : Int) + 1)) wr) := fun f t s h => by
        rw [HR.out]
        exact ⟨k + 1, by omega, by simp, by rw [h], by rw [h], by rw [h], HB.out⟩
      have hix := index81 G hG k hlt wr
      obtain ⟨f, hf⟩ : ∃ f, f = (zN G k).1 := ⟨_, rfl⟩
      obtain ⟨t, ht⟩ : ∃ t, t = (zN G k).2.1 := ⟨_, rfl⟩
      obtain ⟨s, hs⟩ : ∃ s, s = (zN G k).2.2 := ⟨_, rfl⟩
      have hz : zN G k = (f, t, s) := by rw [hf, ht, hs]
      rw [hz] at hstep
      rw [← hf, ← ht] at z1
      rw [← ht] at z2
      rw [← hs] at z3
      rw [← hf, ← ht, ← hs]
      simp only at hstep
      generalize G.getD k 0 = g at hix hstep
      have HST := Lib.hid hstep
      clear hstep hz hf ht hs hb
      by_cases hg0 : g = 0
      · subst hg0
        by_cases hm : max (t - f) 1 < k + 1 - s
        · have HF : Hid (R (.int .i64 (s : Int)) (.int .i64 ((k : Int) + 1)) (.int .i64 (s : Int)) (.int .i64 ((k : Int) + 1)) wr) := by
            have := HRK.out s (k + 1) s (by rw [HST.out, if_neg (by simp), if_pos hm])
            rw [show ((k + 1 : Nat) : Int) = (k : Int) + 1 from rfl] at this
            exact this
          have m1 : max ((t : Int) - (f : Int)) 1 < (k : Int) + 1 - (s : Int) := by omega
          go_wp2
          go_roundw
          case rel => exact HF.out
          case measure => simp [intOf]; omega
        · have HF : Hid (R (.int .i64 (f : Int)) (.int .i64 (t : Int)) (.int .i64 (s : Int)) (.int .i64 ((k : Int) + 1)) wr) := HRK.out f t s (by rw [HST.out, if_neg (by simp), if_neg hm])
          have m1 : ¬ max ((t : Int) - (f : Int)) 1 < (k : Int) + 1 - (s : Int) := by omega
          go_wp2
          go_roundw
          case rel => exact HF.out
          case measure => simp [intOf]; omega
      · have HF : Hid (R (.int .i64 (f : Int)) (.int .i64 (t : Int)) (.int .i64 ((k : Int) + 1)) (.int .i64 ((k : Int) + 1)) wr) := by
          have := HRK.out f t (k + 1) (by rw [HST.out, if_pos hg0])
          rw [show ((k + 1 : Nat) : Int) = (k : Int) + 1 from rfl] at this
          exact this
        have m1 : ((g : Int) != 0) = true := by rw [bne_iff_ne]; omega
        go_wp2
        go_roundw
        case rel => exact HF.out
        case measure => simp [intOf]; omega
    · obtain rfl : k = 8 := by omega
      have i1 : ¬ ((8 : Nat) : Int) < 8 := by omega
      clear hb
      go_wp2
      go_ret2
      exact ⟨rfl, HB.out⟩
end Go.Proofs.YtnehgbpfgehhiaaGreatDoor.Cidr
/-
  CIDR: the form of an address of IPv6, put together out of groups (no program).
-/
namespace Go.Proofs.YtnehgbpfgehhiaaGreatDoor.Cidr
open Go.RowKit Base
theorem hexDig_ne (n : Nat) (h : n < 16) : hexDig n ≠ 58 := by
  have : ∀ k : Fin 16, hexDig k.val ≠ 58 := by decide +kernel
  exact this ⟨n, h⟩
theorem hexD_last (n : Nat) : hexD n ≠ [] ∧ (hexD n).getLastD 0 ≠ 58 := by
  rw [hexD]
  split
  · rename_i h
    exact ⟨by simp, by simpa using hexDig_ne n h⟩
  · refine ⟨by simp, ?_⟩
    rw [List.getLastD_concat]
    exact hexDig_ne _ (Nat.mod_lt _ (by decide))
def stepH (s : List UInt8) (g : Nat) : List UInt8 := (if s ≠ [] ∧ s.getLastD 0 ≠ 58 then s ++ [58] else s) ++ hexD g
theorem getLastD_append {a b : List UInt8} (hb : b ≠ []) : (a ++ b).getLastD 0 = b.getLastD 0 := by
  rw [List.getLastD_eq_getLast?, List.getLastD_eq_getLast?, List.getLast?_append]
  cases hb2 : b.getLast? with
  | none => rw [List.getLast?_eq_none_iff] at hb2; exact absurd hb2 hb
  | some x => rfl
/-- Behind a group. -/
theorem fold_tail : ∀ (gs : List Nat) (s : List UInt8), s ≠ [] → s.getLastD 0 ≠ 58 → gs.foldl stepH s = s ++ Lib.joinTail [58] (gs.map hexD)
  | [], s, _, _ => by simp [Lib.joinTail]
  | g :: r, s, h1, h2 => by
    have hg := hexD_last g
    have e : stepH s g = s ++ [58] ++ hexD g := by unfold stepH; rw [if_pos ⟨h1, h2⟩]
    rw [List.foldl_cons, e]
    rw [fold_tail r _ (by simp) (by rw [getLastD_append hg.1]; exact hg.2)]
    simp [Lib.joinTail, List.append_assoc]
/-- At the front, or behind '::'. -/
theorem fold_head (gs : List Nat) (s : List UInt8) (h : s = [] ∨ s.getLastD 0 = 58) : gs.foldl stepH s = s ++ Lib.join (gs.map hexD) [58] := by
  cases gs with
  | nil => simp [Lib.join_nil]
  | cons g r =>
    have hg := hexD_last g
    rw [List.foldl_cons]
    have e : stepH s g = s ++ hexD g := by
      unfold stepH
      rw [if_neg (fun hh => by rcases h with h | h; exact hh.1 h; exact hh.2 h)]
    rw [e, fold_tail r _ (by simp [hg.1]) (by rw [getLastD_append hg.1]; exact hg.2), List.map_cons, Lib.join_cons, List.append_assoc]
theorem outN_none {G : List Nat} (hG : G.length = 8) (m : Nat) : ∀ (f : Nat) (s : List UInt8) (i : Nat) (o : Option Nat), 8 - i ≤ f → (∀ k, o = some k → k < i) → outN G o m f s i = (G.drop i).foldl stepH s
  | 0, s, i, o, h, _ => by
    rw [outN, List.drop_eq_nil_of_le (by omega)]; rfl
  | f + 1, s, i, o, h, ho => by
    rw [outN]
    by_cases hi : i < 8
    · rw [if_pos hi, if_neg (fun h => by have := ho i h; omega)]
      rw [outN_none hG m f _ (i + 1) o (by omega) (fun k hk => by have := ho k hk; omega)]
      rw [show G.drop i = G.getD i 0 :: G.drop (i + 1) by rw [List.getD_eq_getElem?_getD, List.getElem?_eq_getElem (by omega), Option.getD_some, List.getElem_cons_drop], List.foldl_cons]
      rfl
    · rw [if_neg hi, List.drop_eq_nil_of_le (by omega)]; rfl
theorem outN_some {G : List Nat} (hG : G.length = 8) (m k : Nat) (hk : k < 8) (hm : 1 ≤ m) : ∀ (f : Nat) (s : List UInt8) (i : Nat), 8 - i ≤ f → i ≤ k → outN G (some k) m f s i = (G.drop (k + m)).foldl stepH (((G.drop i).take (k - i)).foldl stepH s ++ [58, 58])
  | 0, s, i, h, hi => by omega
  | f + 1, s, i, h, hi => by
    rw [outN, if_pos (by omega)]
    by_cases he : k = i
    · subst he
      rw [if_pos rfl, Nat.sub_self, List.take_zero]
      rw [outN_none hG m f _ (k + m) (some k) (by omega) (fun j hj => by cases hj; omega)]
      rfl
    · rw [if_neg (fun h => he (Option.some.inj h))]
      rw [outN_some hG m k hk hm f _ (i + 1) (by omega) (by omega)]
      rw [show G.drop i = G.getD i 0 :: G.drop (i + 1) by rw [List.getD_eq_getElem?_getD, List.getElem?_eq_getElem (by omega), Option.getD_some, List.getElem_cons_drop], show k - i = (k - (i + 1)) + 1 by omega, List.take_succ_cons, List.foldl_cons]
      rfl
/-- Which groups are 0 tells all. -/
def zP (p : List Bool) : Nat → Nat × Nat × Nat
  | 0 => (0, 0, 0)
  | k + 1 => if p.getD k true = false then ((zP p k).1, (zP p k).2.1, k + 1) else if max ((zP p k).2.1 - (zP p k).1) 1 < k + 1 - (zP p k).2.2 then ((zP p k).2.2, k + 1, (zP p k).2.2) else zP p k
def bestP (p : List Bool) : Nat → Option Nat × Nat
  | 0 => (none, 1)
  | k + 1 => if (bestP p k).2 < ((p.drop k).takeWhile (· == true)).length then (some k, ((p.drop k).takeWhile (· == true)).length) else bestP p k
theorem zN_zP (G : List Nat) (hG : G.length = 8) : ∀ k, k ≤ 8 → zN G k = zP (G.map (· == 0)) k
  | 0, _ => rfl
  | k + 1, h => by
    rw [zN, zP, zN_zP G hG k (by omega)]
    have e : ((G.map (· == 0)).getD k true = false) ↔ (G.getD k 0 ≠ 0) := by
      rw [List.getD_eq_getElem?_getD, List.getD_eq_getElem?_getD, List.getElem?_map, List.getElem?_eq_getElem (show k < G.length by omega)]
      simp
    by_cases hg : G.getD k 0 ≠ 0
    · rw [if_pos hg, if_pos (e.2 hg)]
    · rw [if_neg hg, if_neg (fun h => hg (e.1 h))]
theorem runN_P (G : List Nat) (k : Nat) : runN G k = (((G.map (· == 0)).drop k).takeWhile (· == true)).length := by
  unfold runN
  rw [← List.map_drop, List.takeWhile_map, List.length_map]
  congr 2
  funext x
  simp
theorem bestN_bestP (G : List Nat) : ∀ k, bestN G k = bestP (G.map (· == 0)) k
  | 0 => rfl
  | k + 1 => by rw [bestN, bestP, bestN_bestP G k, runN_P]
theorem pat_ok : ∀ a b c d e f g h : Bool, (match (bestP [a, b, c, d, e, f, g, h] 8).1 with | none => decide ((zP [a, b, c, d, e, f, g, h] 8).1 = (zP [a, b, c, d, e, f, g, h] 8).2.1) | some k => decide ((zP [a, b, c, d, e, f, g, h] 8).1 = k ∧ (zP [a, b, c, d, e, f, g, h] 8).2.1 = k + (bestP [a, b, c, d, e, f, g, h] 8).2 ∧ 2 ≤ (bestP [a, b, c, d, e, f, g, h] 8).2 ∧ k + (bestP [a, b, c, d, e, f, g, h] 8).2 ≤ 8)) = true := by decide +kernel
theorem zeros_best (G : List Nat) (hG : G.length = 8) : match (bestN G 8).1 with | none => (zN G 8).1 = (zN G 8).2.1 | some k => (zN G 8).1 = k ∧ (zN G 8).2.1 = k + (bestN G 8).2 ∧ 2 ≤ (bestN G 8).2 ∧ k + (bestN G 8).2 ≤ 8 := by
  obtain ⟨a0, a1, a2, a3, a4, a5, a6, a7, rfl⟩ := list8 hG
  have h := pat_ok (a0 == 0) (a1 == 0) (a2 == 0) (a3 == 0) (a4 == 0) (a5 == 0) (a6 == 0) (a7 == 0)
  rw [zN_zP _ rfl 8 (Nat.le_refl _), bestN_bestP]
  simp only [List.map_cons, List.map_nil]
  revert h
  generalize bestP [a0 == 0, a1 == 0, a2 == 0, a3 == 0, a4 == 0, a5 == 0, a6 == 0, a7 == 0] 8 = bp
  generalize zP [a0 == 0, a1 == 0, a2 == 0, a3 == 0, a4 == 0, a5 == 0, a6 == 0, a7 == 0] 8 = zp
  obtain ⟨o, m⟩ := bp
  cases o with
  | none => intro h; exact of_decide_eq_true h
  | some k => intro h; exact of_decide_eq_true h
/-- The form of groups, as the program puts it together. -/
def form6P (G : List Nat) : List UInt8 := if (zN G 8).1 = (zN G 8).2.1 then Lib.join (G.map hexD) [58] else (Lib.join ((G.take (zN G 8).1).map hexD) [58] ++ [58, 58]) ++ Lib.join ((G.drop (zN G 8).2.1).map hexD) [58]
theorem form6_eq (G : List Nat) (hG : G.length = 8) : outN G (bestN G 8).1 (bestN G 8).2 8 [] 0 = form6P G := by
  have hz := zeros_best G hG
  unfold form6P
  cases ho : (bestN G 8).1 with
  | none =>
    rw [ho] at hz
    simp only at hz
    rw [if_pos hz, outN_none hG _ 8 [] 0 none (by omega) (fun k hk => by cases hk), fold_head _ _ (Or.inl rfl)]
    rfl
  | some k =>
    rw [ho] at hz
    obtain ⟨h1, h2, h3, h4⟩ := hz
    rw [if_neg (by omega), outN_some hG _ k (by omega) (by omega) 8 [] 0 (by omega) (by omega), fold_head _ _ (Or.inl rfl), List.nil_append]
    rw [fold_head _ _ (Or.inr (by rw [getLastD_append (by simp)]; rfl)), h1, h2]
    rfl
end Go.Proofs.YtnehgbpfgehhiaaGreatDoor.Cidr
