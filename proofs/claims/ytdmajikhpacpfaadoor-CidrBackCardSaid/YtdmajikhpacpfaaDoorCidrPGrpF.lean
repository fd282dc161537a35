/-
  CIDR, the program: the form of groups; where the longest row of 0 stands.
-/
import Derived.Test.YtdmajikhpacpfaaDoorCidrPJoin
namespace Go.Proofs.YtdmajikhpacpfaaDoor.Cidr
open Go.RowKit Base
abbrev U64 (n : Nat) : Value := .int .u64 (n : Int)
theorem hexD_len4 (g : Nat) (h : g ≤ 65535) : (hexD g).length ≤ 4 := hexD_len g h
theorem join_small (c : UInt8) : ∀ (ls : List (List UInt8)), (∀ l ∈ ls, l.length ≤ 4) → (Lib.join ls [c]).length ≤ 5 * ls.length
  | [], _ => by simp [Lib.join_nil]
  | x :: r, h => by
    rw [Lib.join_cons]
    have hx := h x List.mem_cons_self
    have : ∀ (r : List (List UInt8)), (∀ l ∈ r, l.length ≤ 4) → (Lib.joinTail [c] r).length ≤ 5 * r.length := by
      intro r
      induction r with
      | nil => intro _; simp [Lib.joinTail]
      | cons y q ih =>
        intro hq
        have h1 := ih fun l hl => hq l (List.mem_cons_of_mem _ hl)
        have h2 := hq y List.mem_cons_self
        simp only [Lib.joinTail, List.map_cons, List.flatten_cons, List.length_append, List.length_cons, List.length_nil] at h1 ⊢
        omega
    have := this r fun l hl => h l (List.mem_cons_of_mem _ hl)
    rw [List.length_append, List.length_cons]; omega
theorem vreads_on {w w' : World} {v : Value} {xs : List Value} (h : VReads w v xs) (hb : Below w.heap.size w w') : VReads w' v xs := h.kept fun b _ hl => hb.block b hl
set_option maxHeartbeats 4000000 in
set_option maxRecDepth 100000 in
theorem pFormGroups (A : Option Addr) (c : Nat) (gs : List Nat) (hg : ∀ g ∈ gs, g ≤ 65535) (hl : gs.length ≤ 8) (w : World) (hr : VReads w (.slice A gs.length c) (gs.map U64)) (he : EnvS w) :
    Calls Tryd.prog 59 #[.slice A gs.length c] w fun e w' => e = .returned (S (Lib.join (gs.map hexD) [58])) ∧ Below w.heap.size w w' := by
  have HG := Lib.hid hg
  have HL := Lib.hid hl
  have HRD := Lib.hid hr
  have HE0 := Lib.hid he
  obtain ⟨R, hR⟩ : ∃ R : Value → Value → World → Prop, R = fun v i wr => ∃ k : Nat, k ≤ gs.length ∧ i = .int .i64 (k : Int) ∧ OwnsS wr w.heap.size v ((gs.take k).map hexD) ∧ Below w.heap.size w wr := ⟨_, rfl⟩
  have HR := Lib.hid hR
  clear hR he hg hr
  go_enter Tryd.func59, Tryd.ntmps59
  go_wp2
  go_loopw [3, 8] (fun v i wr => R v i wr) (fun _ i _ => gs.length - (intOf i).toNat)
  case atStart =>
    rw [HR.out]
    exact ⟨0, by omega, rfl, World.ownsRow_nil _ _ _ _, Below.refl _ _⟩
  case round =>
    rw [HR.out] at hrel
    obtain ⟨k, hk, rfl, hown, hbw⟩ := hrel
    have HBW := Lib.hid hbw
    by_cases hlt : k < gs.length
    · have i1 : (k : Int) < (gs.length : Int) := by omega
      have i0 : (0 : Int) ≤ (k : Int) := by omega
      have hgk : (gs.map U64)[k]? = some (U64 gs[k]) := by rw [List.getElem?_map, List.getElem?_eq_getElem hlt]; rfl
      obtain ⟨gb, go, rfl, hcell⟩ := VReads.cell (vreads_on HRD.out hbw) hgk
      have HNX : Hid ((gs.take (k + 1)).map hexD = (gs.take k).map hexD ++ [hexD gs[k]]) := by
        show _ = _
        rw [List.take_succ_eq_append_getElem hlt, List.map_append]; rfl
      have hgs := HG.out _ (List.getElem_mem hlt)
      have HE1 := Lib.hid (HE0.out.on hbw)
      generalize gs[k] = z at hcell HNX hgs hgk
      have HI := Lib.hid (pHexF z hgs wr HE1.out.tz)
      have HLS : Hid (((gs.take k).map hexD).length ≤ 1000) := by show _ ≤ _; simp; omega
      have HOW := Lib.hid hown
      generalize (gs.take k).map hexD = ls at hown HOW HNX HLS
      obtain ⟨oa, oc, rfl, hoc⟩ := hown.form
      clear hown hbw hgk
      go_wp2_with (first | (go_at_call 71; refine HI.out.mono ?_; rintro e w2 ⟨rfl, b2⟩; refine Hid.out ?_) | fail)
      refine Lib.hid ?_
      have HO2 := Lib.hid (HOW.out.on b2)
      have HB2 := Lib.hid (HBW.out.trans (b2.mono HBW.out.size))
      clear b2
      go_wp2_with (at_builtin; go_must (refine wp_append_s rfl _ _ rfl w.heap.size (.slice oa ls.length oc) ls (hexD z) rfl rfl HO2.out HLS.out HB2.out.size ?_); intro v3 w3 o3 b3; refine Hid.out ?_)
      refine Lib.hid ?_
      have HFIN : Hid (R v3 (.int .i64 ((k : Int) + 1)) w3) := by
        show R _ _ _
        rw [HR.out]
        exact ⟨k + 1, by omega, by simp, by rw [HNX.out]; exact o3, HB2.out.trans b3⟩
      clear o3 b3
      go_wp2
      go_roundw
      case rel => exact HFIN.out
      case measure => simp [intOf]; omega
    · obtain rfl : k = gs.length := by omega
      have i1 : ¬ (gs.length : Int) < (gs.length : Int) := by omega
      rw [List.take_length] at hown
      have hjl : (Lib.join (gs.map hexD) [58]).length ≤ 100000 := by
        have := join_small 58 (gs.map hexD) fun l hl => by
          obtain ⟨g, hg, rfl⟩ := List.mem_map.1 hl
          exact hexD_len4 g (HG.out g hg)
        rw [List.length_map] at this; omega
      have HJ := Lib.hid (pJoin w.heap.size _ _ 58 wr hown (by simp; omega) hjl)
      clear hown hbw hjl
      go_wp2_with (first | (go_at_call 57; refine HJ.out.mono ?_; rintro e w2 ⟨rfl, b2⟩; refine Hid.out ?_) | fail)
      refine Lib.hid ?_
      go_wp2
      go_ret
      exact ⟨rfl, HBW.out.trans (b2.mono HBW.out.size)⟩
end Go.Proofs.YtdmajikhpacpfaaDoor.Cidr
