/-
  MERGED by mergefill.py: TabLines.
-/
import Derived.Test.YtnehgbpfgehhiaaGreatDoorTabLnSM
/-
  TABLE, the given answers: the lines of a text: the walk.
-/
namespace Go.Proofs.YtnehgbpfgehhiaaGreatDoor.Table
open Go.RowKit Base
def LinesEndF (fin : LS) (w : World) (e : Ending) (w' : World) : Prop :=
  ∃ own ov bv es, e = .returned (.tuple #[ov, bv]) ∧ es.map Prod.fst = fin.1 ∧ LSt own w w' ov bv es fin.2
def LinesEnd (l : List UInt8) (w : World) (e : Ending) (w' : World) : Prop := LinesEndF (linesOf l) w e w'
/-- How far the first loop has come. -/
def BadSt (s : ByteArray) (w : World) (bv : Value) (k : Nat) (wr : World) : Prop := ∃ own, LSt own w wr (.slice none 0 0) bv [] (badK s.data.toList k)
theorem BadSt.start (s : ByteArray) (w : World) : BadSt s w (.slice none 0 0) 0 w :=
  ⟨fun _ => .no, ⟨Below.refl _ _, World.ownsRow_nil _ _ _ _, (fun b hb => by cases hb), World.ownsRow_nil _ _ _ _, (fun b hb => by cases hb), (fun i e he => by simp at he), fun _ _ => rfl⟩⟩
/-- How far the second has. -/
structure LnR (s : ByteArray) (w : World) (fin : LS) (ov bv : Value) (a : Nat) (wr : World) (own : Nat → Tg) (es : List (Ent × Value)) (bad : List Nat) : Prop where
  st : LSt own w wr ov bv es bad
  eq : linesFrom a (splitB 10 (s.data.toList.drop a)) (es.map Prod.fst, bad) = fin
  le : es.length ≤ a
  bl : bad.length ≤ s.size + a
  ml : ∀ e ∈ es, e.1.more.length ≤ a
theorem set_last {es : List (Ent × Value)} {e : Ent × Value} (he : es[es.length - 1]? = some e) (p : List UInt8) (v : Value) : (es.set (es.length - 1) ({ e.1 with more := e.1.more ++ [p] }, v)).map Prod.fst = addLast (es.map Prod.fst) p := by
  unfold addLast
  rw [List.length_map, List.getElem?_map, he]
  show _ = (es.map Prod.fst).set _ _
  rw [List.map_set]
section
variable {s : ByteArray} {w wr w' : World} {fin : LS} {ov bv ov' bv' : Value} {a e : Nat} {own own' : Nat → Tg} {es es' : List (Ent × Value)} {bad bad' : List Nat}
theorem LnR.step (h : LnR s w fin ov bv a wr own es bad) (h1 : a ≤ e) (h2 : e ≤ s.size) (hno : ∀ j, a ≤ j → j < e → s.data.toList.getD j 0 ≠ 10) (hat : e < s.size → s.data.toList.getD e 0 = 10) :
    linesFrom (e + 1) (splitB 10 (s.data.toList.drop (e + 1))) (stepL (es.map Prod.fst, bad) a ((s.data.toList.take e).drop a)) = fin := by
  rw [← h.eq]
  exact (lines_next _ h1 (by rw [str_len]; exact h2) hno (by rw [str_len]; exact hat)).symm
theorem LnR.skip (h : LnR s w fin ov bv a wr own es bad) (h1 : a ≤ e) {line : List UInt8} (hst : linesFrom (e + 1) (splitB 10 (s.data.toList.drop (e + 1))) (stepL (es.map Prod.fst, bad) a line) = fin) (hs : skipB line = true) : LnR s w fin ov bv (e + 1) wr own es bad := by
  unfold stepL at hst
  rw [if_pos hs] at hst
  exact ⟨h.st, hst, by have := h.le; omega, by have := h.bl; omega, fun x hx => by have := h.ml x hx; omega⟩
theorem LnR.wrong (h : LnR s w fin ov bv a wr own es bad) (h1 : a ≤ e) {line : List UInt8} (hst : linesFrom (e + 1) (splitB 10 (s.data.toList.drop (e + 1))) (stepL (es.map Prod.fst, bad) a line) = fin) (hs : skipB line = false) (hb : headIs isBl line = true) (h0 : es = []) (hn : LSt own' w w' ov bv' es (bad ++ [a])) : LnR s w fin ov bv' (e + 1) w' own' es (bad ++ [a]) := by
  unfold stepL at hst
  rw [if_neg (by rw [hs]; simp), if_pos hb, if_pos (by rw [h0]; rfl)] at hst
  exact ⟨hn, hst, by have := h.le; omega, by rw [List.length_append]; have := h.bl; simp; omega, fun x hx => by have := h.ml x hx; omega⟩
theorem LnR.more (h : LnR s w fin ov bv a wr own es bad) (h1 : a ≤ e) {line : List UInt8} (hst : linesFrom (e + 1) (splitB 10 (s.data.toList.drop (e + 1))) (stepL (es.map Prod.fst, bad) a line) = fin) (hs : skipB line = false) (hb : headIs isBl line = true) {x : Ent × Value} (hx : es[es.length - 1]? = some x) {v' : Value}
    (hn : LSt own' w w' ov bv (es.set (es.length - 1) ({ x.1 with more := x.1.more ++ [trim line] }, v')) bad) : LnR s w fin ov bv (e + 1) w' own' (es.set (es.length - 1) ({ x.1 with more := x.1.more ++ [trim line] }, v')) bad := by
  have hne : es ≠ [] := fun e => by rw [e] at hx; simp at hx
  unfold stepL at hst
  rw [if_neg (by rw [hs]; simp), if_pos hb, if_neg (by simpa using hne)] at hst
  refine ⟨hn, by rw [set_last hx]; exact hst, by rw [List.length_set]; have := h.le; omega, by have := h.bl; omega, fun y hy => ?_⟩
  have hmx := h.ml x (List.mem_of_getElem? hx)
  rcases List.mem_or_eq_of_mem_set hy with hy | rfl
  · have := h.ml y hy; omega
  · show (x.1.more ++ [trim line]).length ≤ _
    rw [List.length_append]; simp; omega
theorem LnR.line (h : LnR s w fin ov bv a wr own es bad) (h1 : a ≤ e) {line : List UInt8} (hst : linesFrom (e + 1) (splitB 10 (s.data.toList.drop (e + 1))) (stepL (es.map Prod.fst, bad) a line) = fin) (hs : skipB line = false) (hb : headIs isBl line = false)
    (hn : LSt own' w w' ov' bv (es ++ [(⟨a, line, []⟩, .slice none 0 0)]) bad) : LnR s w fin ov' bv (e + 1) w' own' (es ++ [(⟨a, line, []⟩, .slice none 0 0)]) bad := by
  unfold stepL at hst
  rw [if_neg (by rw [hs]; simp), if_neg (by rw [hb]; simp)] at hst
  refine ⟨hn, by rw [List.map_append]; exact hst, by rw [List.length_append]; have := h.le; simp; omega, by have := h.bl; omega, fun y hy => ?_⟩
  rcases List.mem_append.1 hy with hy | hy
  · have := h.ml y hy; omega
  · rw [List.mem_singleton.1 hy]; exact Nat.zero_le _
end
theorem LSt.lastCell {own : Nat → Tg} {w0 w : World} {bv : Value} {oa : Option Addr} {oc n : Nat} {es : List (Ent × Value)} {bad : List Nat} (h : LSt own w0 w (.slice oa n oc) bv es bad) {i : Nat} {x : Ent × Value} (hx : es[i]? = some x) :
    ∃ g, oa = some ⟨g, 0, none⟩ ∧ w.cell? ⟨g, i * 3 + 2, none⟩ = some x.2 ∧ w.frozen? ⟨g, i * 3 + 2, none⟩ = false := by
  have hil := (List.getElem?_eq_some_iff.1 hx).1
  have ho := h.orow
  rcases ho.2 with ⟨_, hn⟩ | ⟨g, cap, cur, he, _⟩
  · omega
  · cases he
    exact ⟨g, rfl, by rw [World.ownsRow.cellAt ho (i * 3 + 2) (by omega), flat3 es i 2 x hx (by omega)]; rfl, World.ownsRow.frozenAt ho _⟩
theorem ext_mid (s : ByteArray) (a e : Nat) (line : ByteArray) (h : s.extract a e = line) : line.data.toList = (s.data.toList.take e).drop a ∧ line.size ≤ s.size := by
  have h1 : line.data.toList = (s.data.toList.take e).drop a := by rw [← h, extract_bytes]
  refine ⟨h1, ?_⟩
  rw [← str_len line, h1, List.length_drop, List.length_take, str_len]; omega
theorem head_at (p : UInt8 → Bool) (t : ByteArray) (h : 0 < t.size) : headIs p t.data.toList = p t[0] := by rw [ext_tail t h]; rfl
theorem skip_yes0 {line : List UInt8} {inn : ByteArray} (h : inn.data.toList = trim line) (h0 : inn.size = 0) : skipB line = true := by
  have : trim line = [] := by rw [← h]; exact List.eq_nil_of_length_eq_zero (by rw [str_len]; exact h0)
  simp [skipB, this]
theorem skip_yes1 {line : List UInt8} {inn : ByteArray} (h : inn.data.toList = trim line) (h0 : 0 < inn.size) (h1 : inn[0].toNat = 35) : skipB line = true := by
  unfold skipB
  rw [← h, head_at isHash inn h0]
  simp [isHash, h1]
theorem skip_no {line : List UInt8} {inn : ByteArray} (h : inn.data.toList = trim line) (h0 : 0 < inn.size) (h1 : ¬ inn[0].toNat = 35) : skipB line = false := by
  unfold skipB
  rw [← h, head_at isHash inn h0]
  have : ¬ inn.data.toList = [] := fun e => by have := str_len inn; rw [e] at this; simp at this; omega
  simp [isHash, h1, this]
/-- .. under a name. -/
def LnX (s : ByteArray) (w : World) (fin : LS) (ov bv : Value) (a : Nat) (wr : World) : Prop := ∃ own es bad, LnR s w fin ov bv a wr own es bad
set_option maxHeartbeats 16000000 in
set_option maxRecDepth 100000 in
theorem rLines (s : ByteArray) (w : World) (hs : s.size ≤ 262144) : Calls Tryz.prog 49 #[.string s] w (LinesEnd s.data.toList w) := by
  obtain ⟨fin, hfin⟩ : ∃ fin, fin = linesOf s.data.toList := ⟨_, rfl⟩
  have HFIN := Lib.hid hfin
  unfold LinesEnd
  rw [← hfin]
  clear hfin
  go_enter Tryz.func49, Tryz.ntmps49
  go_wp2
  go_loopw [5, 6] (fun b i wr => ∃ (k : Nat) (bv : Value), k ≤ s.size ∧ i = .int .i64 k ∧ b = bv ∧ Hid (BadSt s w bv k wr)) (fun _ i _ => s.size - (intOf i).toNat)
  case atStart => exact ⟨0, _, by omega, rfl, rfl, BadSt.start s w⟩
  case round =>
    obtain ⟨k, bv, hk, rfl, hbv, HBS⟩ := hrel
    obtain rfl : bv = _ := hbv.symm
    by_cases hlt : k < s.size
    · have i0 : (0 : Int) ≤ (k : Int) := by omega
      have i1 : (k : Int) < (s.size : Int) := by omega
      have HG := Lib.hid (str_get s k hlt)
      have hx := s[k].toNat_lt
      have HY : isOkB s[k] = true → Hid (BadSt s w bv (k + 1) wr) := fun h => by
        obtain ⟨own, h1⟩ := HBS.out
        exact ⟨own, by rw [badK_yes (by rw [HG.out]; exact h)]; exact h1⟩
      by_cases h9 : s[k].toNat = 9
      · have e1 : ((s[k].toNat : Int) == 9) = true := by rw [h9]; rfl
        have HB := HY (by simp [isOkB, h9])
        clear HY h9 HBS
        go_wp2
        go_roundw
        case rel => exact ⟨k + 1, bv, by omega, by go_num, rfl, HB⟩
        case measure => simp [intOf]; omega
      · have e1 : ((s[k].toNat : Int) == 9) = false := by rw [beq_eq_false_iff_ne]; omega
        by_cases h10 : s[k].toNat = 10
        · have e2 : ((s[k].toNat : Int) == 10) = true := by rw [h10]; rfl
          have HB := HY (by simp [isOkB, h10])
          clear HY h9 h10 HBS
          go_wp2
          go_roundw
          case rel => exact ⟨k + 1, bv, by omega, by go_num, rfl, HB⟩
          case measure => simp [intOf]; omega
        · have e2 : ((s[k].toNat : Int) == 10) = false := by rw [beq_eq_false_iff_ne]; omega
          by_cases h32 : 32 ≤ s[k].toNat
          · have e3 : (32 : Int) ≤ (s[k].toNat : Int) := by omega
            by_cases h126 : s[k].toNat ≤ 126
            · have e4 : (s[k].toNat : Int) ≤ 126 := by omega
              have HB := HY (by simp [isOkB, h32, h126])
              clear HY h9 h10 h32 h126 HBS
              go_wp2
              go_roundw
              case rel => exact ⟨k + 1, bv, by omega, by go_num, rfl, HB⟩
              case measure => simp [intOf]; omega
            · have e4 : ¬ (s[k].toNat : Int) ≤ 126 := by omega
              have HNO := Lib.hid (show isOkB s[k] = false by simp [isOkB, h9, h10]; omega)
              clear HY h9 h10 h32 h126
              have HBL := Lib.hid (badK_len s.data.toList k)
              obtain ⟨own, hst⟩ := HBS.out
              have HST := Lib.hid hst
              clear hst HBS
              go_wp2_with (at_builtin; go_must (refine wp_addBad rfl _ _ rfl HST.out (by have := HBL.out; omega) k rfl rfl ?_); intro v2 w2 own2 hst2; refine Hid.out ?_)
              refine Lib.hid ?_
              have HB : Hid (BadSt s w v2 (k + 1) w2) := ⟨own2, by rw [badK_no (by rw [HG.out]; exact HNO.out)]; exact hst2⟩
              clear hst2
              go_wp2
              go_roundw
              case rel => exact ⟨k + 1, v2, by omega, by go_num, rfl, HB⟩
              case measure => simp [intOf]; omega
          · have e3 : ¬ (32 : Int) ≤ (s[k].toNat : Int) := by omega
            have HNO := Lib.hid (show isOkB s[k] = false by simp [isOkB, h9, h10]; omega)
            clear HY h9 h10 h32
            have HBL := Lib.hid (badK_len s.data.toList k)
            obtain ⟨own, hst⟩ := HBS.out
            have HST := Lib.hid hst
            clear hst HBS
            go_wp2_with (at_builtin; go_must (refine wp_addBad rfl _ _ rfl HST.out (by have := HBL.out; omega) k rfl rfl ?_); intro v2 w2 own2 hst2; refine Hid.out ?_)
            refine Lib.hid ?_
            have HB : Hid (BadSt s w v2 (k + 1) w2) := ⟨own2, by rw [badK_no (by rw [HG.out]; exact HNO.out)]; exact hst2⟩
            clear hst2
            go_wp2
            go_roundw
            case rel => exact ⟨k + 1, v2, by omega, by go_num, rfl, HB⟩
            case measure => simp [intOf]; omega
    · have i1 : ¬ (k : Int) < (s.size : Int) := by omega
      have HL0 : Hid (LnX s w fin (.slice none 0 0) bv 0 wr) := by
        obtain ⟨own, h1⟩ := HBS.out
        have hk2 : k = s.data.toList.length := by rw [str_len]; omega
        refine ⟨own, [], _, h1, ?_, Nat.le_refl _, ?_, fun e he => by simp at he⟩
        · rw [HFIN.out, hk2]; rfl
        · have := badK_len s.data.toList k; omega
      clear HBS hlt
      obtain ⟨wo, hwo⟩ : ∃ wo : World, wo = wr := ⟨_, rfl⟩
      subst hwo
      go_wp2
      go_loopw [4, 5, 8] (fun o b i wx => ∃ (a : Nat) (ov bv : Value), a ≤ s.size + 1 ∧ i = .int .i64 a ∧ o = ov ∧ b = bv ∧ Hid (LnX s w fin ov bv a wx)) (fun _ _ i _ => s.size + 1 - (intOf i).toNat)
      case atStart => exact ⟨0, _, _, by omega, rfl, rfl, rfl, HL0⟩
      case round =>
        clear HL0
        obtain ⟨a, ov, bv, ha, rfl, hov, hbv, HLX⟩ := hrel
        obtain rfl : bv = _ := hbv.symm
        obtain rfl : ov = _ := hov.symm
        obtain ⟨own, es, bad, hln⟩ := HLX.out
        obtain ⟨oa, oc, rfl, hoc⟩ := row_form hln.st.orow
        have HLN := Lib.hid hln
        clear hln HLX
        by_cases hlt : a < s.size
        · have i0 : (0 : Int) ≤ (a : Int) := by omega
          have i1 : (a : Int) < (s.size : Int) := by omega
          obtain ⟨wo2, hwo2⟩ : ∃ wo2 : World, wo2 = wr := ⟨_, rfl⟩
          subst hwo2
          go_wp2
          go_loop [9] (fun i => ∃ e : Nat, a ≤ e ∧ e ≤ s.size ∧ i = .int .i64 e ∧ Hid (∀ j, a ≤ j → j < e → s.data.toList.getD j 0 ≠ 10)) (fun i => s.size - (intOf i).toNat)
          case atStart => exact ⟨a, by omega, by omega, rfl, fun j h1 h2 => by omega⟩
          case round =>
            obtain ⟨e, hae, hes, rfl, HNO⟩ := hrel
            have j0 : (0 : Int) ≤ (e : Int) := by omega
            have j2 : (e : Int) ≤ (s.size : Int) := by omega
            have j3 : (a : Int) ≤ (e : Int) := by omega
            by_cases he : e < s.size
            · have j1 : (e : Int) < (s.size : Int) := by omega
              have HGE := Lib.hid (str_get s e he)
              by_cases h10 : s[e].toNat = 10
              · have e1 : ((s[e].toNat : Int) != 10) = false := by rw [h10]; rfl
                have HST := Lib.hid (HLN.out.step hae hes HNO.out (fun _ => by rw [HGE.out]; exact UInt8.toNat_inj.1 h10))
                clear h10 HNO
                have HLS : Hid (∀ line : ByteArray, s.extract a e = line → line.data.toList = (s.data.toList.take e).drop a ∧ line.size ≤ s.size) := fun line h => ext_mid s a e line h
                go_wp2_with fail
                generalize hline : s.extract a e = line
                obtain ⟨hl1, hl2⟩ := HLS.out _ hline
                rw [← hl1] at HST
                obtain ⟨inn, hinn⟩ : ∃ inn : ByteArray, inn.data.toList = trim line.data.toList := ⟨⟨(trim line.data.toList).toArray⟩, rfl⟩
                have HT : Hid (∀ w1, Calls Tryz.prog 80 #[.string line] w1 fun e w' => e = .returned (.string inn) ∧ w1 = w') := fun w1 => by
                  have := rTrim line w1 (by omega)
                  rw [← hinn] at this
                  exact this
                have HINN := Lib.hid hinn
                clear hline hl1 HLS hinn
                have hil : inn.size ≤ line.size := by rw [← str_len, HINN.out, ← str_len line]; exact trim_len _
                have HB : Hid (∀ (h : 0 < line.size) w1, Calls Tryz.prog 81 #[.int .u8 (line[0].toNat : Int)] w1 fun e w' => e = .returned (.bool (isBl line[0])) ∧ w1 = w') := fun h w1 => rBlank line[0] w1
                by_cases hi : inn.size = 0
                · have e4 : inn.toList = [] := (toList_nil_iff_emptyBytes inn).2 (str_empty hi)
                  have e3 : inn.toList.isEmpty = true := by rw [e4]; rfl
                  have HFX : Hid (LnX s w fin (.slice oa es.length oc) bv (e + 1) wo2) := ⟨own, es, bad, HLN.out.skip hae HST.out (skip_yes0 HINN.out hi)⟩
                  clear hi HST HINN
                  refine (HT.out _).mono ?_
                  rintro e' w' ⟨rfl, rfl⟩
                  go_wp2
                  go_roundw
                  case rel => exact ⟨e + 1, _, bv, by omega, by go_num, rfl, rfl, HFX⟩
                  case measure => simp [intOf]; omega
                · obtain ⟨e3, e4⟩ := str_ne hi
                  have hi0 : 0 < inn.size := by omega
                  have hl0 : 0 < line.size := by omega
                  have n0 : (0 : Int) < (inn.size : Int) := by omega
                  have n1 : (0 : Int) < (line.size : Int) := by omega
                  by_cases h35 : inn[0].toNat = 35
                  · have e5 : ((inn[0].toNat : Int) == 35) = true := by rw [h35]; rfl
                    have HFX : Hid (LnX s w fin (.slice oa es.length oc) bv (e + 1) wo2) := ⟨own, es, bad, HLN.out.skip hae HST.out (skip_yes1 HINN.out hi0 h35)⟩
                    clear hi h35 HST HINN
                    refine (HT.out _).mono ?_
                    rintro e' w' ⟨rfl, rfl⟩
                    go_wp2
                    go_roundw
                    case rel => exact ⟨e + 1, _, bv, by omega, by go_num, rfl, rfl, HFX⟩
                    case measure => simp [intOf]; omega
                  · have e5 : ((inn[0].toNat : Int) == 35) = false := by rw [beq_eq_false_iff_ne]; omega
                    have HNS := Lib.hid (skip_no HINN.out hi0 h35)
                    have HHD := Lib.hid (head_at isBl line hl0)
                    have HB2 := Lib.hid (HB.out hl0)
                    clear hi h35 HB
                    cases hb : isBl line[0]
                    · rw [hb] at HB2 HHD
                      clear hb
                      have hle := HLN.out.le
                      refine (HT.out _).mono ?_
                      rintro e' w' ⟨rfl, rfl⟩
                      go_wp2_with (first | (go_at_call 81; refine (HB2.out _).mono ?_; rintro e' w' ⟨rfl, rfl⟩) | (at_builtin; go_must (refine wp_addLine rfl _ _ rfl HLN.out.st (by omega) a line rfl rfl ?_); intro v2 w2 own2 hst2; refine Hid.out ?_) | fail)
                      refine Lib.hid ?_
                      have HFX : Hid (LnX s w fin v2 bv (e + 1) w2) := ⟨own2, _, bad, HLN.out.line hae HST.out HNS.out HHD.out hst2⟩
                      clear hst2
                      go_wp2
                      go_roundw
                      case rel => exact ⟨e + 1, _, bv, by omega, by go_num, rfl, rfl, HFX⟩
                      case measure => simp [intOf]; omega
                    · rw [hb] at HB2 HHD
                      clear hb
                      have hle := HLN.out.le
                      have hbl := HLN.out.bl
                      by_cases hes0 : es.length = 0
                      · have e6 : ((es.length : Int) == 0) = true := by rw [hes0]; rfl
                        have HES := Lib.hid (List.eq_nil_of_length_eq_zero hes0)
                        clear hes0
                        refine (HT.out _).mono ?_
                        rintro e' w' ⟨rfl, rfl⟩
                        go_wp2_with (first | (go_at_call 81; refine (HB2.out _).mono ?_; rintro e' w' ⟨rfl, rfl⟩) | (at_builtin; go_must (refine wp_addBad rfl _ _ rfl HLN.out.st (by omega) a rfl rfl ?_); intro v2 w2 own2 hst2; refine Hid.out ?_) | fail)
                        refine Lib.hid ?_
                        have HFX : Hid (LnX s w fin (.slice oa es.length oc) v2 (e + 1) w2) := ⟨own2, es, _, HLN.out.wrong hae HST.out HNS.out HHD.out HES.out hst2⟩
                        clear hst2
                        go_wp2
                        go_roundw
                        case rel => exact ⟨e + 1, _, v2, by omega, by go_num, rfl, rfl, HFX⟩
                        case measure => simp [intOf]; omega
                      · have e6 : ((es.length : Int) == 0) = false := by rw [beq_eq_false_iff_ne]; omega
                        obtain ⟨i, hi⟩ : ∃ i, es.length = i + 1 := ⟨es.length - 1, by omega⟩
                        obtain ⟨x, hx⟩ : ∃ x, es[i]? = some x := ⟨es[i], List.getElem?_eq_getElem (by omega)⟩
                        have hx2 : es[es.length - 1]? = some x := by rw [hi]; exact hx
                        obtain ⟨g, rfl, c1, c2⟩ := HLN.out.st.lastCell hx
                        have k1 : (es.length : Int) - 1 = (i : Int) := by omega
                        have k2 : (0 : Int) ≤ (i : Int) := by omega
                        have k3 : (i : Int) < (es.length : Int) := by omega
                        have hml := HLN.out.ml x (List.mem_of_getElem? hx)
                        have HX := Lib.hid hx
                        have HX2 := Lib.hid hx2
                        have HI := Lib.hid hi
                        obtain ⟨xa, xc, hxf, hxc⟩ := row_form (HLN.out.st.lines i x hx).row
                        have HXF := Lib.hid hxf
                        rw [hxf] at c1
                        clear hes0 hx hx2 hi hxf
                        refine (HT.out _).mono ?_
                        rintro e' w' ⟨rfl, rfl⟩
                        go_wp2_with (first | (go_at_call 81; refine (HB2.out _).mono ?_; rintro e' w' ⟨rfl, rfl⟩) | (at_builtin; go_must (refine wp_addMore rfl _ _ rfl HLN.out.st HX.out (by omega) inn.data.toList rfl (.slice xa x.1.more.length xc) HXF.out rfl rfl ?_); rintro va vn vc v2 w2 own2 rfl hst2 c3 c4; refine Hid.out ?_) | fail)
                        refine Lib.hid ?_
                        obtain ⟨u, c3⟩ := c3
                        have HFX : Hid (LnX s w fin (.slice (some ⟨g, 0, none⟩) es.length oc) bv (e + 1) (w2.setCell ⟨g, i * 3 + 2, none⟩ (.slice va vn vc))) := by
                          have h9 := hst2
                          rw [HINN.out] at h9
                          refine ⟨own2, _, bad, HLN.out.more hae HST.out HNS.out HHD.out HX2.out (v' := .slice va vn vc) ?_⟩
                          have hi : es.length - 1 = i := by have := HI.out; omega
                          rw [hi]; exact h9
                        clear hst2 c1 c2
                        go_wp2
                        go_roundw
                        case rel => exact ⟨e + 1, _, bv, by omega, by go_num, rfl, rfl, HFX⟩
                        case measure => simp [intOf]; omega
              · have e1 : ((s[e].toNat : Int) != 10) = true := by rw [bne_iff_ne]; omega
                have HNO2 : Hid (∀ j, a ≤ j → j < e + 1 → s.data.toList.getD j 0 ≠ 10) := fun j h1 h2 => by
                  rcases Nat.lt_or_ge j e with h | h
                  · exact HNO.out j h1 h
                  · obtain rfl : j = e := by omega
                    rw [HGE.out]; intro hh; exact h10 (by rw [hh]; rfl)
                clear h10 HNO
                go_wp2
                go_round
                case rel => exact ⟨e + 1, by omega, by omega, by go_num, HNO2⟩
                case measure => simp [intOf]; omega
            · have j1 : ¬ (e : Int) < (s.size : Int) := by omega
              have HST := Lib.hid (HLN.out.step hae hes HNO.out (fun h => absurd h he))
              clear HNO
              have HLS : Hid (∀ line : ByteArray, s.extract a e = line → line.data.toList = (s.data.toList.take e).drop a ∧ line.size ≤ s.size) := fun line h => ext_mid s a e line h
              go_wp2_with fail
              generalize hline : s.extract a e = line
              obtain ⟨hl1, hl2⟩ := HLS.out _ hline
              rw [← hl1] at HST
              obtain ⟨inn, hinn⟩ : ∃ inn : ByteArray, inn.data.toList = trim line.data.toList := ⟨⟨(trim line.data.toList).toArray⟩, rfl⟩
              have HT : Hid (∀ w1, Calls Tryz.prog 80 #[.string line] w1 fun e w' => e = .returned (.string inn) ∧ w1 = w') := fun w1 => by
                have := rTrim line w1 (by omega)
                rw [← hinn] at this
                exact this
              have HINN := Lib.hid hinn
              clear hline hl1 HLS hinn
              have hil : inn.size ≤ line.size := by rw [← str_len, HINN.out, ← str_len line]; exact trim_len _
              have HB : Hid (∀ (h : 0 < line.size) w1, Calls Tryz.prog 81 #[.int .u8 (line[0].toNat : Int)] w1 fun e w' => e = .returned (.bool (isBl line[0])) ∧ w1 = w') := fun h w1 => rBlank line[0] w1
              by_cases hi : inn.size = 0
              · have e4 : inn.toList = [] := (toList_nil_iff_emptyBytes inn).2 (str_empty hi)
                have e3 : inn.toList.isEmpty = true := by rw [e4]; rfl
                have HFX : Hid (LnX s w fin (.slice oa es.length oc) bv (e + 1) wo2) := ⟨own, es, bad, HLN.out.skip hae HST.out (skip_yes0 HINN.out hi)⟩
                clear hi HST HINN
                refine (HT.out _).mono ?_
                rintro e' w' ⟨rfl, rfl⟩
                go_wp2
                go_roundw
                case rel => exact ⟨e + 1, _, bv, by omega, by go_num, rfl, rfl, HFX⟩
                case measure => simp [intOf]; omega
              · obtain ⟨e3, e4⟩ := str_ne hi
                have hi0 : 0 < inn.size := by omega
                have hl0 : 0 < line.size := by omega
                have n0 : (0 : Int) < (inn.size : Int) := by omega
                have n1 : (0 : Int) < (line.size : Int) := by omega
                by_cases h35 : inn[0].toNat = 35
                · have e5 : ((inn[0].toNat : Int) == 35) = true := by rw [h35]; rfl
                  have HFX : Hid (LnX s w fin (.slice oa es.length oc) bv (e + 1) wo2) := ⟨own, es, bad, HLN.out.skip hae HST.out (skip_yes1 HINN.out hi0 h35)⟩
                  clear hi h35 HST HINN
                  refine (HT.out _).mono ?_
                  rintro e' w' ⟨rfl, rfl⟩
                  go_wp2
                  go_roundw
                  case rel => exact ⟨e + 1, _, bv, by omega, by go_num, rfl, rfl, HFX⟩
                  case measure => simp [intOf]; omega
                · have e5 : ((inn[0].toNat : Int) == 35) = false := by rw [beq_eq_false_iff_ne]; omega
                  have HNS := Lib.hid (skip_no HINN.out hi0 h35)
                  have HHD := Lib.hid (head_at isBl line hl0)
                  have HB2 := Lib.hid (HB.out hl0)
                  clear hi h35 HB
                  cases hb : isBl line[0]
                  · rw [hb] at HB2 HHD
                    clear hb
                    have hle := HLN.out.le
                    refine (HT.out _).mono ?_
                    rintro e' w' ⟨rfl, rfl⟩
                    go_wp2_with (first | (go_at_call 81; refine (HB2.out _).mono ?_; rintro e' w' ⟨rfl, rfl⟩) | (at_builtin; go_must (refine wp_addLine rfl _ _ rfl HLN.out.st (by omega) a line rfl rfl ?_); intro v2 w2 own2 hst2; refine Hid.out ?_) | fail)
                    refine Lib.hid ?_
                    have HFX : Hid (LnX s w fin v2 bv (e + 1) w2) := ⟨own2, _, bad, HLN.out.line hae HST.out HNS.out HHD.out hst2⟩
                    clear hst2
                    go_wp2
                    go_roundw
                    case rel => exact ⟨e + 1, _, bv, by omega, by go_num, rfl, rfl, HFX⟩
                    case measure => simp [intOf]; omega
                  · rw [hb] at HB2 HHD
                    clear hb
                    have hle := HLN.out.le
                    have hbl := HLN.out.bl
                    by_cases hes0 : es.length = 0
                    · have e6 : ((es.length : Int) == 0) = true := by rw [hes0]; rfl
                      have HES := Lib.hid (List.eq_nil_of_length_eq_zero hes0)
                      clear hes0
                      refine (HT.out _).mono ?_
                      rintro e' w' ⟨rfl, rfl⟩
                      go_wp2_with (first | (go_at_call 81; refine (HB2.out _).mono ?_; rintro e' w' ⟨rfl, rfl⟩) | (at_builtin; go_must (refine wp_addBad rfl _ _ rfl HLN.out.st (by omega) a rfl rfl ?_); intro v2 w2 own2 hst2; refine Hid.out ?_) | fail)
                      refine Lib.hid ?_
                      have HFX : Hid (LnX s w fin (.slice oa es.length oc) v2 (e + 1) w2) := ⟨own2, es, _, HLN.out.wrong hae HST.out HNS.out HHD.out HES.out hst2⟩
                      clear hst2
                      go_wp2
                      go_roundw
                      case rel => exact ⟨e + 1, _, v2, by omega, by go_num, rfl, rfl, HFX⟩
                      case measure => simp [intOf]; omega
                    · have e6 : ((es.length : Int) == 0) = false := by rw [beq_eq_false_iff_ne]; omega
                      obtain ⟨i, hi⟩ : ∃ i, es.length = i + 1 := ⟨es.length - 1, by omega⟩
                      obtain ⟨x, hx⟩ : ∃ x, es[i]? = some x := ⟨es[i], List.getElem?_eq_getElem (by omega)⟩
                      have hx2 : es[es.length - 1]? = some x := by rw [hi]; exact hx
                      obtain ⟨g, rfl, c1, c2⟩ := HLN.out.st.lastCell hx
                      have k1 : (es.length : Int) - 1 = (i : Int) := by omega
                      have k2 : (0 : Int) ≤ (i : Int) := by omega
                      have k3 : (i : Int) < (es.length : Int) := by omega
                      have hml := HLN.out.ml x (List.mem_of_getElem? hx)
                      have HX := Lib.hid hx
                      have HX2 := Lib.hid hx2
                      have HI := Lib.hid hi
                      obtain ⟨xa, xc, hxf, hxc⟩ := row_form (HLN.out.st.lines i x hx).row
                      have HXF := Lib.hid hxf
                      rw [hxf] at c1
                      clear hes0 hx hx2 hi hxf
                      refine (HT.out _).mono ?_
                      rintro e' w' ⟨rfl, rfl⟩
                      go_wp2_with (first | (go_at_call 81; refine (HB2.out _).mono ?_; rintro e' w' ⟨rfl, rfl⟩) | (at_builtin; go_must (refine wp_addMore rfl _ _ rfl HLN.out.st HX.out (by omega) inn.data.toList rfl (.slice xa x.1.more.length xc) HXF.out rfl rfl ?_); rintro va vn vc v2 w2 own2 rfl hst2 c3 c4; refine Hid.out ?_) | fail)
                      refine Lib.hid ?_
                      obtain ⟨u, c3⟩ := c3
                      have HFX : Hid (LnX s w fin (.slice (some ⟨g, 0, none⟩) es.length oc) bv (e + 1) (w2.setCell ⟨g, i * 3 + 2, none⟩ (.slice va vn vc))) := by
                        have h9 := hst2
                        rw [HINN.out] at h9
                        refine ⟨own2, _, bad, HLN.out.more hae HST.out HNS.out HHD.out HX2.out (v' := .slice va vn vc) ?_⟩
                        have hi : es.length - 1 = i := by have := HI.out; omega
                        rw [hi]; exact h9
                      clear hst2 c1 c2
                      go_wp2
                      go_roundw
                      case rel => exact ⟨e + 1, _, bv, by omega, by go_num, rfl, rfl, HFX⟩
                      case measure => simp [intOf]; omega
        · have i1 : ¬ (a : Int) < (s.size : Int) := by omega
          have HE : Hid (es.map Prod.fst = fin.1 ∧ LSt own w wr (.slice oa es.length oc) bv es fin.2) := by
            have h1 := HLN.out.eq
            rw [List.drop_eq_nil_of_le (by rw [str_len]; omega), lines_end] at h1
            rw [← h1]
            exact ⟨rfl, HLN.out.st⟩
          go_wp2
          go_ret2
          exact ⟨own, _, _, es, rfl, HE.out⟩
end Go.Proofs.YtnehgbpfgehhiaaGreatDoor.Table
