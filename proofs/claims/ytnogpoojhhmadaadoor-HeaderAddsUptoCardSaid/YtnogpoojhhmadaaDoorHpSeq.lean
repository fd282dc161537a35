/-
  HEADER, the program: strings.SplitSeq at 13 10: each line in its turn, for every loop body.
-/
import Derived.Test.YtnogpoojhhmadaaDoorHpRange
import Derived.Test.YtnogpoojhhmadaaDoorHpLns
import Derived.Test.YtnogpoojhhmadaaDoorHpLib
import Derived.WalkKit
import Derived.OwnWalkIn
import Derived.TacticsInMore
import Derived.LoopNIn
import Derived.LoopIn
namespace Go.Proofs.YtnogpoojhhmadaaDoor.Header
open Go.RowKit Go.Shelf Base
attribute [local go_sem] Oper.semAt_some
/-- A line, of a length that Go can tell. -/
abbrev Ln := { x : List UInt8 // x.length ≤ 9223372036854775807 }
abbrev strO (s : ByteArray) : Obj := .cells #[.string s] 9 (0, 0)
abbrev intO : Obj := .cells #[.int .i64 0] 3 (0, 0)
abbrev crlfB : ByteArray := ⟨#[13, 10]⟩
/-- What a round that goes on keeps: all that lay ahead of the call, and the iterator's three boxes. -/
def KpC (w0 : World) (Bp Bs Bk : Nat) (A B : World) : Prop := Below w0.heap.size A B ∧ B.heap[Bp]? = A.heap[Bp]? ∧ B.heap[Bs]? = A.heap[Bs]? ∧ B.heap[Bk]? = A.heap[Bk]?
theorem KpC.trans {w0 : World} {Bp Bs Bk : Nat} {A B C : World} (h : KpC w0 Bp Bs Bk A B) (k : KpC w0 Bp Bs Bk B C) : KpC w0 Bp Bs Bk A C := ⟨h.1.trans k.1, k.2.1.trans h.2.1, k.2.2.1.trans h.2.2.1, k.2.2.2.trans h.2.2.2⟩
theorem str_take (t : ByteArray) (i : Nat) : (t.extract 0 i).data.toList = t.data.toList.take i := by rw [extract_bytes]; simp
theorem str_drop (t : ByteArray) (i : Nat) : (t.extract i t.size).data.toList = t.data.toList.drop i := by rw [extract_bytes, List.take_of_length_le (by rw [str_len]; omega)]
def boxSize (Bs : Nat) (W : World) : Nat := match W.cell? ⟨Bs, 0, none⟩ with
  | some (.string t) => t.size
  | _ => 0
set_option maxHeartbeats 8000000 in
set_option maxRecDepth 100000 in
theorem sSeq_in (n : Nat) (hn : 2 ≤ n) (l Bp Bs Bk : Nat) (s : ByteArray) (w0 : World) (hV : Env w0) (hs : s.size ≤ 4000000000) (hBs0 : w0.heap.size ≤ Bs) (hps : Bp ≠ Bs) (hks : Bk ≠ Bs) (J Jx : List Ln → World → Prop) (W : World)
    (hJs : ∀ pre A v, J pre A → J pre (A.setCell ⟨Bs, 0, none⟩ v))
    (hY : ∀ pre (x : Ln) W1, J pre W1 → YieldAt Fence.wide (n - 1) Tryd.prog l #[.string ⟨x.1.toArray⟩] W1 fun e W' =>
      (e = .returned (.bool true) ∧ J (pre ++ [x]) W' ∧ KpC w0 Bp Bs Bk W1 W') ∨ (e = .returned (.bool false) ∧ Jx (pre ++ [x]) W'))
    (hW : Below w0.heap.size w0 W) (hBp : W.heap[Bp]? = some (strO crlfB)) (hBs : W.heap[Bs]? = some (strO s)) (hBk : W.heap[Bk]? = some intO) (h0 : J [] W) :
    CallsIn Fence.wide n Tryd.prog 65 #[.func (.yield l) #[] #[], .pointer (some ⟨Bp, 0, none⟩), .pointer (some ⟨Bs, 0, none⟩), .pointer (some ⟨Bk, 0, none⟩)] W fun e W' => (∃ v, e = .returned v) ∧
      ((∃ ys : List Ln, ys.map (·.1) = linesO s.data.toList ∧ J ys W') ∨ (∃ pre : List Ln, pre.map (·.1) <+: linesO s.data.toList ∧ Jx pre W')) := by
  have HV := Lib.hid hV
  have HJS := Lib.hid hJs
  have HY := Lib.hid hY
  have HB0 := Lib.hid hBs0
  obtain ⟨ls, hls⟩ : ∃ ls, ls = linesO s.data.toList := ⟨_, rfl⟩
  obtain ⟨R, hR⟩ : ∃ R : World → Prop, R = fun wr => ∃ (t : ByteArray) (pre : List Ln), t.size ≤ s.size ∧ wr.heap[Bs]? = some (strO t) ∧ wr.heap[Bp]? = some (strO crlfB) ∧ wr.heap[Bk]? = some intO ∧ ls = pre.map (·.1) ++ linesO t.data.toList ∧ J pre wr ∧ Below w0.heap.size w0 wr := ⟨_, rfl⟩
  have HR := Lib.hid hR
  have HST : Hid (R W) := by
    show R _
    rw [hR]
    exact ⟨s, [], Nat.le_refl _, hBs, hBp, hBk, by rw [hls]; rfl, h0, hW⟩
  have c1 : W.cell? ⟨Bp, 0, none⟩ = some (.string crlfB) := by simp [World.cell?, hBp]
  rw [← hls]
  have HPS := Lib.hid hps
  have HKS := Lib.hid hks
  clear hV hJs hY hls hR hW hBs hBp hBk h0 hBs0 hps hks
  refine callsIn_of_wp Tryd.func65 rfl trivial ?_ rfl
  simp only [Tryd.ntmps65, List.size_toArray, List.length_cons, List.length_nil, Nat.reduceAdd, Nat.reduceSub, Array.replicate_succ, Array.replicate_zero, List.push_toArray, List.append_toArray, List.nil_append, List.cons_append]
  gi_wp2
  clear c1
  gi_loopw [7] (fun _ wr => R wr) (fun _ wr => boxSize Bs wr)
  case atStart => exact HST.out
  case round =>
    clear HST
    rw [HR.out] at hrel
    obtain ⟨t, pre, ht, hbs, hbp, hbk, hl, hj, hb⟩ := hrel
    have c2 : wr.cell? ⟨Bs, 0, none⟩ = some (.string t) := by simp [World.cell?, hbs]
    have c1 : wr.cell? ⟨Bp, 0, none⟩ = some (.string crlfB) := by simp [World.cell?, hbp]
    have c3 : wr.cell? ⟨Bk, 0, none⟩ = some (.int .i64 0) := by simp [World.cell?, hbk]
    have HMZ : Hid (boxSize Bs wr = t.size) := by show _ = _; unfold boxSize; rw [c2]
    obtain ⟨m, hm⟩ := (HV.out.on hb).max
    have HIX := Lib.hid (Tryd.strings_Index t crlfB m wr (by omega) hm)
    have HB := Lib.hid hb
    have HBS := Lib.hid hbs
    have HBP := Lib.hid hbp
    have HBK := Lib.hid hbk
    clear hm hb hbs hbp hbk
    rcases index_line t.data.toList with ⟨h1, _⟩ | ⟨i, h1, _, h3⟩
    · have HIX2 : Hid (Calls Tryd.prog 67 #[.string t, .string crlfB] wr fun e w' => e = .returned (.int .i64 (-1)) ∧ w' = wr) := by
        have := HIX.out
        rw [show crlfB.data.toList = [13, 10] from rfl, h1] at this
        exact this
      have hx : t.data.toList.length ≤ 9223372036854775807 := by rw [str_len]; omega
      have hl2 : ls = (pre ++ [(⟨t.data.toList, hx⟩ : Ln)]).map (·.1) := by rw [hl, lines_miss h1]; simp
      obtain ⟨fn, tmps, assign, body, hy, hR2⟩ := HY.out pre ⟨t.data.toList, hx⟩ wr hj
      have HL2 := Lib.hid hl2
      clear h1 HIX hl hl2 hj
      gi_wp2
      refine ⟨trivial, fun _ => by omega, ?_⟩
      refine (callsIn_wide.2 HIX2.out).mono ?_
      rintro e w2 ⟨rfl, rfl⟩
      gi_wp2
      refine ⟨fun _ => by omega, ?_⟩
      refine hR2.mono ?_
      rintro e W3 (⟨rfl, hJ3, hk3⟩ | ⟨rfl, hJx3⟩)
      · have HF : Hid ((pre ++ [(⟨t.data.toList, hx⟩ : Ln)]).map (·.1) = ls ∧ J (pre ++ [⟨t.data.toList, hx⟩]) W3) := ⟨HL2.out.symm, hJ3⟩
        clear hJ3 hk3
        gi_wp2
        go_end0
        exact ⟨⟨_, rfl⟩, .inl ⟨_, HF.out.1, HF.out.2⟩⟩
      · have HX : Hid ((pre ++ [(⟨t.data.toList, hx⟩ : Ln)]).map (·.1) <+: ls ∧ Jx (pre ++ [⟨t.data.toList, hx⟩]) W3) := ⟨⟨[], by rw [HL2.out]; simp⟩, hJx3⟩
        clear hJx3
        gi_wp2
        go_end0
        exact ⟨⟨_, rfl⟩, .inr ⟨_, HX.out.1, HX.out.2⟩⟩
    · have HIX2 : Hid (Calls Tryd.prog 67 #[.string t, .string crlfB] wr fun e w' => e = .returned (.int .i64 (i : Int)) ∧ w' = wr) := by
        have := HIX.out
        rw [show crlfB.data.toList = [13, 10] from rfl, h1] at this
        exact this
      rw [str_len] at h3
      have hx : (t.data.toList.take i).length ≤ 9223372036854775807 := by rw [List.length_take, str_len]; omega
      have hl2 : ls = (pre ++ [(⟨t.data.toList.take i, hx⟩ : Ln)]).map (·.1) ++ linesO (t.extract (i + 2) t.size).data.toList := by rw [hl, lines_hit h1, str_drop]; simp
      obtain ⟨fn, tmps, assign, body, hy, hR2⟩ := HY.out pre ⟨t.data.toList.take i, hx⟩ wr hj
      rw [show (⟨(⟨t.data.toList.take i, hx⟩ : Ln).1.toArray⟩ : ByteArray) = t.extract 0 i from by rw [extract_bytes]; simp] at hy
      have HL2 := Lib.hid hl2
      have i0 : (0 : Int) ≤ (i : Int) := by omega
      have i1 : (i : Int) ≤ (t.size : Int) := by omega
      have i2 : (i : Int) + 2 ≤ (t.size : Int) := by omega
      have i3 : ¬ (i : Int) < 0 := by omega
      have HTS : Hid ((t.extract (i + 2) t.size).size = t.size - (i + 2)) := by show _ = _; rw [ByteArray.size_extract]; omega
      clear h1 HIX hl hl2 hj
      gi_wp2
      refine ⟨trivial, fun _ => by omega, ?_⟩
      refine (callsIn_wide.2 HIX2.out).mono ?_
      rintro e w2 ⟨rfl, rfl⟩
      gi_wp2
      refine ⟨fun _ => by omega, ?_⟩
      refine hR2.mono ?_
      rintro e W3 (⟨rfl, hJ3, hk3⟩ | ⟨rfl, hJx3⟩)
      · have q1 : W3.heap[Bs]? = some (strO t) := hk3.2.2.1.trans HBS.out
        have q2 : W3.heap[Bp]? = some (strO crlfB) := hk3.2.1.trans HBP.out
        have q3 : W3.heap[Bk]? = some intO := hk3.2.2.2.trans HBK.out
        have d2 : W3.cell? ⟨Bs, 0, none⟩ = some (.string t) := by simp [World.cell?, q1]
        have d1 : W3.cell? ⟨Bp, 0, none⟩ = some (.string crlfB) := by simp [World.cell?, q2]
        have d3 : W3.frozen? ⟨Bs, 0, none⟩ = false := by simp [World.frozen?, q1]
        have HF : Hid (R (W3.setCell ⟨Bs, 0, none⟩ (.string (t.extract (i + 2) t.size))) ∧ boxSize Bs (W3.setCell ⟨Bs, 0, none⟩ (.string (t.extract (i + 2) t.size))) = t.size - (i + 2)) := by
          have q4 : (W3.setCell ⟨Bs, 0, none⟩ (.string (t.extract (i + 2) t.size))).heap[Bs]? = some (strO (t.extract (i + 2) t.size)) := by rw [heap_setCell_any W3 Bs 0 _ _ _ _ q1]; rfl
          refine ⟨?_, ?_⟩
          · rw [HR.out]
            refine ⟨t.extract (i + 2) t.size, pre ++ [⟨t.data.toList.take i, hx⟩], by rw [HTS.out]; omega, q4, ?_, ?_, HL2.out, HJS.out _ _ _ hJ3, (HB.out.trans hk3.1).setCell (p := ⟨Bs, 0, none⟩) HB0.out _⟩
            · have := HPS.out; simpa [World.setCell, Array.getElem?_modify, Ne.symm this] using q2
            · have := HKS.out; simpa [World.setCell, Array.getElem?_modify, Ne.symm this] using q3
          · unfold boxSize
            have : (W3.setCell ⟨Bs, 0, none⟩ (.string (t.extract (i + 2) t.size))).cell? ⟨Bs, 0, none⟩ = some (.string (t.extract (i + 2) t.size)) := by simp [World.cell?, q4]
            rw [this]
            exact HTS.out
        clear hJ3 hk3 q1 q2 q3 HL2 HTS
        gi_wp2
        go_roundw
        case rel => exact HF.out.1
        case measure => rw [HF.out.2, HMZ.out]; omega
      · have HX : Hid ((pre ++ [(⟨t.data.toList.take i, hx⟩ : Ln)]).map (·.1) <+: ls ∧ Jx (pre ++ [⟨t.data.toList.take i, hx⟩]) W3) := ⟨⟨_, HL2.out.symm⟩, hJx3⟩
        clear hJx3
        gi_wp2
        refine bodyPost_ret (results_none rfl _ _ _) rfl ?_
        exact ⟨⟨_, rfl⟩, .inr ⟨_, HX.out.1, HX.out.2⟩⟩
/-- The iterator's promise. -/
theorem seq_c (n : Nat) (hn : 2 ≤ n) (Bp Bs Bk : Nat) (s : ByteArray) (w0 w : World) (hV : Env w0) (hs : s.size ≤ 4000000000) (hBs0 : w0.heap.size ≤ Bs) (hps : Bp ≠ Bs) (hks : Bk ≠ Bs) (hW : Below w0.heap.size w0 w)
    (hBp : w.heap[Bp]? = some (strO crlfB)) (hBs : w.heap[Bs]? = some (strO s)) (hBk : w.heap[Bk]? = some intO) :
    SeqC Fence.wide n Tryd.prog 65 #[.pointer (some ⟨Bp, 0, none⟩), .pointer (some ⟨Bs, 0, none⟩), .pointer (some ⟨Bk, 0, none⟩)] (fun x : Ln => #[Value.string ⟨x.1.toArray⟩]) (KpC w0 Bp Bs Bk) Bs
      (fun ys => ys.map (·.1) = linesO s.data.toList) (fun pre => pre.map (·.1) <+: linesO s.data.toList) w := fun l J Jx W hb _ hJs hY h0 =>
  sSeq_in n hn l Bp Bs Bk s w0 hV hs hBs0 hps hks J Jx W hJs hY (hW.trans (hb.mono hW.size)) ((hb.block Bp (heap_lt hBp)).trans hBp) ((hb.block Bs (heap_lt hBs)).trans hBs) ((hb.block Bk (heap_lt hBk)).trans hBk) h0
end Go.Proofs.YtnogpoojhhmadaaDoor.Header
