/-
  LINES, the program: bytes.Lines: each line in its turn, for every loop body.
-/
import Derived.Test.YtgiooblopdoobaaLpRange
import Derived.Test.YtgiooblopdoobaaLpNext
import Derived.WalkKit
import Derived.OwnWalkIn
import Derived.TacticsInMore
import Derived.LoopNIn
import Derived.LoopIn
import Derived.BigRegion
namespace Go.Proofs.Ytgiooblopdoobaa.Lines
open Go.RowKit Go.Shelf Base
attribute [local go_sem] Oper.semAt_some
/-- A content's lines, each with its end, and what is behind the last one. -/
def wholesP : Nat → List UInt8 → List (List UInt8)
  | 0, _ => []
  | n + 1, l => if l = [] then [] else l.take (endOf l + 1) :: wholesP n (l.drop (endOf l + 1))
theorem wholes_fuel : ∀ (n m : Nat) (l : List UInt8), l.length ≤ n → l.length ≤ m → wholesP n l = wholesP m l
  | 0, 0, _, _, _ => rfl
  | 0, m + 1, l, h, _ => by rw [List.eq_nil_of_length_eq_zero (Nat.le_zero.1 h), wholesP, wholesP, if_pos rfl]
  | n + 1, 0, l, _, h => by rw [List.eq_nil_of_length_eq_zero (Nat.le_zero.1 h), wholesP, wholesP, if_pos rfl]
  | n + 1, m + 1, l, h1, h2 => by
    rw [wholesP, wholesP]
    split
    · rfl
    · rw [wholes_fuel n m _ (by rw [List.length_drop]; omega) (by rw [List.length_drop]; omega)]
def wholesO (l : List UInt8) : List (List UInt8) := wholesP l.length l
theorem wholes_nil : wholesO [] = [] := rfl
theorem wholes_cons {l : List UInt8} (h : l ≠ []) : wholesO l = l.take (endOf l + 1) :: wholesO (l.drop (endOf l + 1)) := by
  unfold wholesO
  obtain ⟨n, hn⟩ : ∃ n, l.length = n + 1 := ⟨l.length - 1, by have := List.length_pos_iff.2 h; omega⟩
  conv => lhs; rw [hn, wholesP, if_neg h]
  rw [wholes_fuel n _ _ (by rw [List.length_drop]; omega) (Nat.le_refl _)]
/-- A line where it lies. -/
abbrev LnB (w0 : World) := { x : Value × List UInt8 // Reads w0 x.1 x.2 ∧ x.2 ≠ [] ∧ x.2.length ≤ 200000000000000 }
def KpL (w0 : World) (Bs : Nat) (A B : World) : Prop := Below w0.heap.size A B ∧ B.heap[Bs]? = A.heap[Bs]?
theorem KpL.trans {w0 : World} {Bs : Nat} {A B C : World} (h : KpL w0 Bs A B) (k : KpL w0 Bs B C) : KpL w0 Bs A C := ⟨h.1.trans k.1, k.2.trans h.2⟩
def boxLen (Bs : Nat) (W : World) : Nat := match W.cell? ⟨Bs, 0, none⟩ with
  | some (.slice _ n _) => n
  | _ => 0
def linesOf {w0 : World} (pre : List (LnB w0)) : List (List UInt8) := pre.map (·.1.2)
set_option maxHeartbeats 8000000 in
set_option maxRecDepth 100000 in
theorem bSeq_in (n : Nat) (hn : 2 ≤ n) (lp Bs : Nat) (sv : Value) (s : List UInt8) (w0 : World) (hrs : Reads w0 sv s) (hs : s.length ≤ 200000000000000) (hBs0 : w0.heap.size ≤ Bs) (J Jx : List (LnB w0) → World → Prop) (W : World)
    (hJs : ∀ pre A v, J pre A → J pre (A.setCell ⟨Bs, 0, none⟩ v)) (hJd : ∀ pre A, J pre A → J pre (World.drew A))
    (hY : ∀ pre (x : LnB w0) W1, linesOf (pre ++ [x]) <+: wholesO s → J pre W1 → YieldAt Fence.wide (n - 1) Try.prog lp #[x.1.1] W1 fun e W' =>
      (e = .returned (.bool true) ∧ J (pre ++ [x]) W' ∧ KpL w0 Bs W1 W') ∨ (e = .returned (.bool false) ∧ Jx (pre ++ [x]) W'))
    (hW : Below w0.heap.size w0 W) (hBs : Boxed W Bs 32 sv) (h0 : J [] W) :
    CallsIn Fence.wide n Try.prog 32 #[.func (.yield lp) #[] #[], .pointer (some ⟨Bs, 0, none⟩)] W fun e W' => (∃ v, e = .returned v) ∧
      ((∃ ys : List (LnB w0), linesOf ys = wholesO s ∧ J ys W') ∨ (∃ pre : List (LnB w0), linesOf pre <+: wholesO s ∧ Jx pre W')) := by
  have HJS := Lib.hid hJs
  have HJD := Lib.hid hJd
  have HY := Lib.hid hY
  have HB0 := Lib.hid hBs0
  obtain ⟨ls, hls⟩ : ∃ ls, ls = wholesO s := ⟨_, rfl⟩
  obtain ⟨R, hR⟩ : ∃ R : World → Prop, R = fun wr => ∃ (tv : Value) (t : List UInt8) (pre : List (LnB w0)), t.length ≤ s.length ∧ Boxed wr Bs 32 tv ∧ Reads w0 tv t ∧ ls = linesOf pre ++ wholesO t ∧ J pre wr ∧ Below w0.heap.size w0 wr := ⟨_, rfl⟩
  have HR := Lib.hid hR
  have HST : Hid (R W) := by
    show R _
    rw [hR]
    exact ⟨sv, s, [], Nat.le_refl _, hBs, hrs, by rw [hls]; rfl, h0, hW⟩
  rw [← hls] at HY ⊢
  clear hJs hJd hY hls hR hW hBs h0 hBs0 hrs
  refine callsIn_of_wp Try.func32 rfl trivial ?_ rfl
  simp only [Try.ntmps32, List.size_toArray, List.length_cons, List.length_nil, Nat.reduceAdd, Nat.reduceSub, Array.replicate_succ, Array.replicate_zero, List.push_toArray, List.append_toArray, List.nil_append, List.cons_append]
  gi_wp2
  gi_loopw [3, 4] (fun _ _ wr => R wr) (fun _ _ wr => boxLen Bs wr)
  case atStart => exact HST.out
  case round =>
    clear HST
    rw [HR.out] at hrel
    obtain ⟨tv, t, pre, ht, hbx, hrd, hl, hj, hb⟩ := hrel
    by_cases ht0 : t = []
    · obtain ⟨A, c, rfl⟩ := hrd.form
      have c1 := hbx.cell
      have HF : Hid (linesOf pre = ls ∧ J pre wr) := ⟨by rw [hl, ht0, wholes_nil, List.append_nil], hj⟩
      have hz : t.length = 0 := by rw [ht0]; rfl
      rw [hz] at c1
      clear hbx hrd hl hj hb ht hz ht0
      gi_wp2
      go_end0
      exact ⟨⟨_, rfl⟩, .inl ⟨_, HF.out.1, HF.out.2⟩⟩
    · obtain ⟨b, o, c, rfl, hlc, hcell⟩ : ∃ b o c, tv = .slice (some ⟨b, o, none⟩) t.length c ∧ t.length ≤ c ∧ ∀ i, i < t.length → w0.cell? ⟨b, o + i, none⟩ = some (.int .u8 ((t.getD i 0).toNat : Int)) := by
        rcases hrd with ⟨h0, _⟩ | h
        · exact absurd h0 ht0
        · exact h
      obtain ⟨N, hN⟩ : ∃ N, N = t.length := ⟨_, rfl⟩
      have hN1 : 0 < N := by have := List.length_pos_iff.2 ht0; omega
      rw [← hN] at hlc hbx
      have c1 := hbx.cell
      have f1 := hbx.frozen
      have hidx := idx_end t
      have HIX0 := pIdx (hrd.on hb) 10
      rw [hidx] at HIX0
      have hle := endOf_le t
      by_cases hf : endOf t < N
      · obtain ⟨E, hE⟩ : ∃ E, E = endOf t := ⟨_, rfl⟩
        rw [if_pos (by omega), ← hE, ← hN] at HIX0
        rw [← hE] at hf
        have HIX := Lib.hid HIX0
        clear HIX0
        have hN2 : N ≤ s.length := by omega
        have hxr : Reads w0 (.slice (some ⟨b, o, none⟩) (E + 1) (E + 1)) (t.take (E + 1)) := by
          have hlt : (t.take (E + 1)).length = E + 1 := by rw [List.length_take]; omega
          refine Or.inr ⟨b, o, E + 1, by rw [hlt], by rw [hlt]; exact Nat.le_refl _, fun i hi => ?_⟩
          rw [hlt] at hi
          rw [hcell i (by omega)]
          congr 3
          simp [List.getD, List.getElem?_take_of_lt hi]
        obtain ⟨x, hx⟩ : ∃ x : LnB w0, x.1 = (.slice (some ⟨b, o, none⟩) (E + 1) (E + 1), t.take (E + 1)) := ⟨⟨_, hxr, by
          intro h; have := congrArg List.length h; rw [List.length_take, List.length_nil] at this; omega, by show (t.take (E + 1)).length ≤ _; rw [List.length_take]; omega⟩, rfl⟩
        have hrt := hrd.tail (at_ := E + 1) (by omega)
        have hl2 : ls = linesOf (pre ++ [x]) ++ wholesO (t.drop (E + 1)) := by
          rw [hl, wholes_cons ht0, ← hE]
          unfold linesOf
          rw [List.map_append]
          simp [hx]
        have HYN : Hid (∀ v, YieldAt Fence.wide (n - 1) Try.prog lp #[.slice (some ⟨b, o, none⟩) (E + 1) (E + 1)] ((wr.setCell ⟨Bs, 0, none⟩ v).drew) fun e W' =>
            (e = .returned (.bool true) ∧ J (pre ++ [x]) W' ∧ KpL w0 Bs ((wr.setCell ⟨Bs, 0, none⟩ v).drew) W') ∨ (e = .returned (.bool false) ∧ Jx (pre ++ [x]) W')) := fun v => by
          have := HY.out pre x ((wr.setCell ⟨Bs, 0, none⟩ v).drew) ⟨_, hl2.symm⟩ (HJD.out _ _ (HJS.out _ _ _ hj))
          rw [hx] at this
          exact this
        have HWL : Hid (∀ v, Below w0.heap.size w0 (wr.setCell ⟨Bs, 0, none⟩ v).drew ∧ Boxed (wr.setCell ⟨Bs, 0, none⟩ v).drew Bs 32 v) := fun v => ⟨(hb.setCell (p := ⟨Bs, 0, none⟩) HB0.out v).drew, hbx.set v⟩
        have HML : Hid (boxLen Bs wr = N) := by show _ = _; unfold boxLen; rw [c1]
        have HE := Lib.hid hE
        have HN := Lib.hid hN
        clear hl hidx hle hcell hrd hxr hN hj hE
        have i1 : ¬ (E : Int) < 0 := by omega
        have i2 : (0 : Int) ≤ (E : Int) := by omega
        have i3 : (E : Int) + 1 ≤ (N : Int) := by omega
        gi_wp2
        refine ⟨trivial, fun _ => by omega, ?_⟩
        refine (callsIn_wide.2 HIX.out).mono ?_
        rintro e w2 ⟨rfl, rfl⟩
        by_cases hcap : c = E + 1
        · have hcapT : (c = E + 1) = True := eq_true hcap
          have HRT : Hid (Reads w0 (.slice (some ⟨b, o, none⟩) (N - (E + 1)) (c - (E + 1))) (t.drop (E + 1))) := by
            rw [if_pos hcap] at hrt
            show Reads _ _ _
            simpa [Addr.add_lit, HN.out] using hrt
          obtain ⟨fn, tmps, assign, body, hy, hR2⟩ := HYN.out (.slice (some ⟨b, o, none⟩) (N - (E + 1)) (c - (E + 1)))
          have HWV := Lib.hid (HWL.out (.slice (some ⟨b, o, none⟩) (N - (E + 1)) (c - (E + 1))))
          clear hcap hrt HYN HWL
          gi_wp2
          refine wpIn_wide.2 ?_
          go_region
          gi_wp2
          refine ⟨fun _ => by omega, ?_⟩
          refine hR2.mono ?_
          rintro e W3 (⟨rfl, hJ3, hk3⟩ | ⟨rfl, hJx3⟩)
          · have q2 : Boxed W3 Bs 32 (.slice (some ⟨b, o, none⟩) (N - (E + 1)) (c - (E + 1))) := hk3.2.trans HWV.out.2
            have HF : Hid (R W3 ∧ boxLen Bs W3 = N - (E + 1)) := by
              refine ⟨?_, ?_⟩
              · rw [HR.out]
                exact ⟨_, t.drop (E + 1), pre ++ [x], by rw [List.length_drop]; omega, q2, HRT.out, hl2, hJ3, HWV.out.1.trans hk3.1⟩
              · unfold boxLen
                rw [q2.cell]
            clear hJ3 hk3 q2 hl2 hy hR2 HWV HRT
            gi_wp2
            go_roundw
            case rel => exact HF.out.1
            case measure => rw [HF.out.2, HML.out]; omega
          · have HX : Hid (linesOf (pre ++ [x]) <+: ls ∧ Jx (pre ++ [x]) W3) := ⟨⟨_, hl2.symm⟩, hJx3⟩
            clear hJx3 hl2 hy hR2 HWV HRT
            gi_wp2
            refine bodyPost_ret (results_none rfl _ _ _) rfl ?_
            exact ⟨⟨_, rfl⟩, .inr ⟨_, HX.out.1, HX.out.2⟩⟩
        · have hcapT : (c = E + 1) = False := eq_false hcap
          have HRT : Hid (Reads w0 (.slice (some ⟨b, o + (E + 1), none⟩) (N - (E + 1)) (c - (E + 1))) (t.drop (E + 1))) := by
            rw [if_neg hcap] at hrt
            show Reads _ _ _
            simpa [Addr.add_lit, HN.out] using hrt
          obtain ⟨fn, tmps, assign, body, hy, hR2⟩ := HYN.out (.slice (some ⟨b, o + (E + 1), none⟩) (N - (E + 1)) (c - (E + 1)))
          have HWV := Lib.hid (HWL.out (.slice (some ⟨b, o + (E + 1), none⟩) (N - (E + 1)) (c - (E + 1))))
          clear hcap hrt HYN HWL
          gi_wp2
          refine wpIn_wide.2 ?_
          go_region
          gi_wp2
          refine ⟨fun _ => by omega, ?_⟩
          refine hR2.mono ?_
          rintro e W3 (⟨rfl, hJ3, hk3⟩ | ⟨rfl, hJx3⟩)
          · have q2 : Boxed W3 Bs 32 (.slice (some ⟨b, o + (E + 1), none⟩) (N - (E + 1)) (c - (E + 1))) := hk3.2.trans HWV.out.2
            have HF : Hid (R W3 ∧ boxLen Bs W3 = N - (E + 1)) := by
              refine ⟨?_, ?_⟩
              · rw [HR.out]
                exact ⟨_, t.drop (E + 1), pre ++ [x], by rw [List.length_drop]; omega, q2, HRT.out, hl2, hJ3, HWV.out.1.trans hk3.1⟩
              · unfold boxLen
                rw [q2.cell]
            clear hJ3 hk3 q2 hl2 hy hR2 HWV HRT
            gi_wp2
            go_roundw
            case rel => exact HF.out.1
            case measure => rw [HF.out.2, HML.out]; omega
          · have HX : Hid (linesOf (pre ++ [x]) <+: ls ∧ Jx (pre ++ [x]) W3) := ⟨⟨_, hl2.symm⟩, hJx3⟩
            clear hJx3 hl2 hy hR2 HWV HRT
            gi_wp2
            refine bodyPost_ret (results_none rfl _ _ _) rfl ?_
            exact ⟨⟨_, rfl⟩, .inr ⟨_, HX.out.1, HX.out.2⟩⟩
      · rw [if_neg (by omega), ← hN] at HIX0
        have HIX := Lib.hid HIX0
        clear HIX0
        have hEN : endOf t = N := by omega
        have hN2 : N ≤ s.length := by omega
        have hxr : Reads w0 (.slice (some ⟨b, o, none⟩) N N) t := Or.inr ⟨b, o, N, by rw [hN], by omega, hcell⟩
        obtain ⟨x, hx⟩ : ∃ x : LnB w0, x.1 = (.slice (some ⟨b, o, none⟩) N N, t) := ⟨⟨_, hxr, ht0, by show t.length ≤ _; omega⟩, rfl⟩
        have hl2 : ls = linesOf (pre ++ [x]) ++ wholesO [] := by
          rw [hl, wholes_cons ht0, hEN, List.take_of_length_le (by omega), List.drop_eq_nil_of_le (by omega)]
          unfold linesOf
          rw [List.map_append]
          simp [hx]
        have HYN : Hid (YieldAt Fence.wide (n - 1) Try.prog lp #[.slice (some ⟨b, o, none⟩) N N] (wr.setCell ⟨Bs, 0, none⟩ (.slice none 0 0)) fun e W' =>
            (e = .returned (.bool true) ∧ J (pre ++ [x]) W' ∧ KpL w0 Bs (wr.setCell ⟨Bs, 0, none⟩ (.slice none 0 0)) W') ∨ (e = .returned (.bool false) ∧ Jx (pre ++ [x]) W')) := by
          have := HY.out pre x (wr.setCell ⟨Bs, 0, none⟩ (.slice none 0 0)) ⟨_, hl2.symm⟩ (HJS.out _ _ _ hj)
          rw [hx] at this
          exact this
        have HWV : Hid (Below w0.heap.size w0 (wr.setCell ⟨Bs, 0, none⟩ (.slice none 0 0)) ∧ Boxed (wr.setCell ⟨Bs, 0, none⟩ (.slice none 0 0)) Bs 32 (.slice none 0 0)) := ⟨hb.setCell (p := ⟨Bs, 0, none⟩) HB0.out _, hbx.set _⟩
        have HML : Hid (boxLen Bs wr = N) := by show _ = _; unfold boxLen; rw [c1]
        obtain ⟨fn, tmps, assign, body, hy, hR2⟩ := HYN.out
        clear hl hidx hle hcell hrd hxr hN hj hf hEN HYN
        gi_wp2
        refine ⟨trivial, fun _ => by omega, ?_⟩
        refine (callsIn_wide.2 HIX.out).mono ?_
        rintro e w2 ⟨rfl, rfl⟩
        gi_wp2
        refine ⟨fun _ => by omega, ?_⟩
        refine hR2.mono ?_
        rintro e W3 (⟨rfl, hJ3, hk3⟩ | ⟨rfl, hJx3⟩)
        · have q2 : Boxed W3 Bs 32 (.slice none 0 0) := hk3.2.trans HWV.out.2
          have HF : Hid (R W3 ∧ boxLen Bs W3 = 0) := by
            refine ⟨?_, ?_⟩
            · rw [HR.out]
              exact ⟨_, [], pre ++ [x], Nat.zero_le _, q2, Or.inl ⟨rfl, none, 0, rfl, fun _ => rfl⟩, hl2, hJ3, HWV.out.1.trans hk3.1⟩
            · unfold boxLen
              rw [q2.cell]
          clear hJ3 hk3 q2 hl2 hy hR2 HWV
          gi_wp2
          go_roundw
          case rel => exact HF.out.1
          case measure => rw [HF.out.2, HML.out]; omega
        · have HX : Hid (linesOf (pre ++ [x]) <+: ls ∧ Jx (pre ++ [x]) W3) := ⟨⟨_, hl2.symm⟩, hJx3⟩
          clear hJx3 hl2 hy hR2 HWV
          gi_wp2
          refine bodyPost_ret (results_none rfl _ _ _) rfl ?_
          exact ⟨⟨_, rfl⟩, .inr ⟨_, HX.out.1, HX.out.2⟩⟩
/-- The iterator's promise. -/
theorem seq_l (n : Nat) (hn : 2 ≤ n) (Bs : Nat) (sv : Value) (s : List UInt8) (w0 w : World) (hrs : Reads w0 sv s) (hs : s.length ≤ 200000000000000) (hBs0 : w0.heap.size ≤ Bs) (hW : Below w0.heap.size w0 w) (hBs : Boxed w Bs 32 sv) :
    SeqL Fence.wide n Try.prog 32 #[.pointer (some ⟨Bs, 0, none⟩)] (fun x : LnB w0 => #[x.1.1]) (KpL w0 Bs) Bs (fun ys => linesOf ys = wholesO s) (fun pre => linesOf pre <+: wholesO s) w := fun l J Jx W hb hJs hJd hY h0 =>
  bSeq_in n hn l Bs sv s w0 hrs hs hBs0 J Jx W hJs hJd hY (hW.trans (hb.mono hW.size)) ((hb.block Bs hBs.lt).trans hBs) h0
end Go.Proofs.Ytgiooblopdoobaa.Lines
