/-
  REPLY, the program: what a line says.
-/
import Derived.Test.YthkabehojmncmaaDoorRepCutL
import Derived.Deep.RegionHeld3
import Derived.Deep.CutBlock
import Derived.Deep.DeepCutAuto
namespace Go.Proofs.YthkabehojmncmaaDoor.Reply
open Go.RowKit Base
theorem suf_yes (p : List UInt8) : Lib.hasSuffix (p ++ [13, 10]) [13, 10] = true := by
  unfold Lib.hasSuffix
  rw [List.isSuffixOf_iff_suffix]
  exact ⟨p, rfl⟩
theorem suf_trim (p : List UInt8) : Lib.trimSuffix (p ++ [13, 10]) [13, 10] = p := by
  unfold Lib.trimSuffix
  rw [suf_yes, if_pos rfl]
  simp
theorem suf_form {l : List UInt8} (h : Lib.hasSuffix l [13, 10] = true) : ∃ p, l = p ++ [13, 10] := by
  unfold Lib.hasSuffix at h
  rw [List.isSuffixOf_iff_suffix] at h
  obtain ⟨p, hp⟩ := h
  exact ⟨p, hp.symm⟩
theorem ends_form {l : List UInt8} (h : endsB l = true) : ∃ p, l = p ++ [13, 10] := by
  unfold endsB at h
  rw [Bool.and_eq_true, Bool.and_eq_true] at h
  have h5 := of_decide_eq_true h.1
  have h1 := of_decide_eq_true h.2.1
  have h2 := of_decide_eq_true h.2.2
  refine ⟨l.take (l.length - 2), ?_⟩
  have e1 : l.getD (l.length - 1) 0 = 10 := UInt8.toNat_inj.1 h1
  have e2 : l.getD (l.length - 2) 0 = 13 := UInt8.toNat_inj.1 h2
  have hd : l.drop (l.length - 2) = [13, 10] := by
    rw [List.drop_eq_getElem_cons (show l.length - 2 < l.length by omega), List.drop_eq_getElem_cons (show l.length - 2 + 1 < l.length by omega), List.drop_eq_nil_of_le (by omega)]
    rw [List.getD_eq_getElem?_getD, List.getElem?_eq_getElem (show l.length - 1 < l.length by omega)] at e1
    rw [List.getD_eq_getElem?_getD, List.getElem?_eq_getElem (show l.length - 2 < l.length by omega)] at e2
    simp only [Option.getD_some] at e1 e2
    rw [e2]
    simp only [show l.length - 2 + 1 = l.length - 1 by omega]
    rw [e1]
  rw [← hd, List.take_append_drop]
theorem line_nosuf {l : List UInt8} (h : Lib.hasSuffix l [13, 10] = false) : lineR l = none := by
  apply line_end
  cases he : endsB l with
  | false => rfl
  | true =>
    obtain ⟨p, rfl⟩ := ends_form he
    rw [suf_yes] at h; cases h
theorem ends_app {p : List UInt8} (h : 3 ≤ p.length) : endsB (p ++ [13, 10]) = true := by
  apply ends_yes
  · simp; omega
  · rw [List.length_append, List.getD_eq_getElem?_getD, List.getElem?_append_right (by simp)]
    simp
  · rw [List.length_append, List.getD_eq_getElem?_getD, List.getElem?_append_right (by simp)]
    simp
theorem dig_three (a b c : UInt8) (r : List UInt8) : digN 0 [a, b, c] = if digs3 (a :: b :: c :: r) = true then some (num3 (a :: b :: c :: r)) else none := by
  have e : digs3 (a :: b :: c :: r) = (digC a && (digC b && digC c)) := rfl
  have n : num3 (a :: b :: c :: r) = 100 * (a.toNat - 48) + 10 * (b.toNat - 48) + (c.toNat - 48) := rfl
  rw [e, n, digN_cons, digN_cons, digN_cons]
  cases digC a <;> cases digC b <;> cases digC c <;> simp [digN]
  omega
theorem text_app (a b c m : UInt8) (t : List UInt8) : textR (a :: b :: c :: m :: (t ++ [13, 10])) = t := by
  unfold textR
  simp
/-- What a line says, as the program finds it. -/
def RdEnd (l : List UInt8) (w : World) (e : Ending) (w' : World) : Prop :=
  (match lineR l with
    | some q => e = .returned (.tuple #[.agg #[.int .i64 (q.1 : Int), .int .u8 (if q.2.1 = true then 45 else 32), S q.2.2], .bool true])
    | none => ∃ (a m : Int) (x : List UInt8), e = .returned (.tuple #[.agg #[.int .i64 a, .int .u8 m, S x], .bool false])) ∧ Below w.heap.size w w'
theorem rd_none {l : List UInt8} (h : lineR l = none) {w w' : World} (a m : Int) (x : List UInt8) (hb : Below w.heap.size w w') : RdEnd l w (.returned (.tuple #[.agg #[.int .i64 a, .int .u8 m, S x], .bool false])) w' := by
  unfold RdEnd; rw [h]; exact ⟨⟨a, m, x, rfl⟩, hb⟩
theorem rd_some {l : List UInt8} {q : Nat × Bool × List UInt8} (h : lineR l = some q) {w w' : World} (hb : Below w.heap.size w w') : RdEnd l w (.returned (.tuple #[.agg #[.int .i64 (q.1 : Int), .int .u8 (if q.2.1 = true then 45 else 32), S q.2.2], .bool true])) w' := by
  unfold RdEnd; rw [h]; exact ⟨rfl, hb⟩
/-- A part in a box of the call's own. -/
def PartS (w0 : World) (H : Nat) (a m : Int) (x : List UInt8) (w' : World) : Prop :=
  (Below w0.heap.size w0 w' ∧ w0.heap.size ≤ H ∧ w'.heap[H]? = some (.cells #[.int .i64 a, .int .u8 m, S x] 48 (0, 0))) ∧ w'.cell? ⟨H, 0, none⟩ = some (.int .i64 a) ∧ w'.cell? ⟨H, 1, none⟩ = some (.int .u8 m) ∧ w'.cell? ⟨H, 2, none⟩ = some (S x) ∧ w'.frozen? ⟨H, 0, none⟩ = false ∧ w'.frozen? ⟨H, 1, none⟩ = false ∧ w'.frozen? ⟨H, 2, none⟩ = false
section
variable {w0 : World} {H : Nat} {a m : Int} {x : List UInt8}
theorem PartS.of {w' : World} (hb : Below w0.heap.size w0 w') (hH : w0.heap.size ≤ H) (hh : w'.heap[H]? = some (.cells #[.int .i64 a, .int .u8 m, S x] 48 (0, 0))) : PartS w0 H a m x w' :=
  ⟨⟨hb, hH, hh⟩, by simp [World.cell?, hh], by simp [World.cell?, hh], by simp [World.cell?, hh], by simp [World.frozen?, hh], by simp [World.frozen?, hh], by simp [World.frozen?, hh]⟩
theorem PartS.on {w w' : World} (h : PartS w0 H a m x w) (hb : Below w.heap.size w w') : PartS w0 H a m x w' :=
  PartS.of (h.1.1.trans (hb.mono h.1.1.size)) h.1.2.1 ((hb.block H (heap_lt h.1.2.2)).trans h.1.2.2)
theorem PartS.set0 {w : World} (h : PartS w0 H a m x w) : PartS w0 H a m x (w.setCell ⟨H, 0, none⟩ (.int .i64 a)) :=
  PartS.of (h.1.1.setCell (p := ⟨H, 0, none⟩) h.1.2.1 _) h.1.2.1 (by rw [heap_setCell_any w H 0 _ _ _ _ h.1.2.2]; rfl)
theorem PartS.set1 {w : World} (h : PartS w0 H a m x w) : PartS w0 H a m x (w.setCell ⟨H, 1, none⟩ (.int .u8 m)) :=
  PartS.of (h.1.1.setCell (p := ⟨H, 1, none⟩) h.1.2.1 _) h.1.2.1 (by rw [heap_setCell_any w H 1 _ _ _ _ h.1.2.2]; rfl)
theorem PartS.set2 {w : World} (h : PartS w0 H a m x w) : PartS w0 H a m x (w.setCell ⟨H, 2, none⟩ (S x)) :=
  PartS.of (h.1.1.setCell (p := ⟨H, 2, none⟩) h.1.2.1 _) h.1.2.1 (by rw [heap_setCell_any w H 2 _ _ _ _ h.1.2.2]; rfl)
theorem PartS.drew {w : World} (h : PartS w0 H a m x w) : PartS w0 H a m x w.drew := h.on (Below.refl _ _).drew
/-- All three cells written. -/
theorem PartS.write {w : World} {o0 o1 o2 : Value} (hb : Below w0.heap.size w0 w) (hH : w0.heap.size ≤ H) (hh : w.heap[H]? = some (.cells #[o0, o1, o2] 48 (0, 0))) : PartS w0 H a m x (((w.setCell ⟨H, 0, none⟩ (.int .i64 a)).setCell ⟨H, 1, none⟩ (.int .u8 m)).setCell ⟨H, 2, none⟩ (S x)) := by
  have h1 := heap_setCell_any w H 0 _ _ _ (.int .i64 a) hh
  have h2 := heap_setCell_any _ H 1 _ _ _ (.int .u8 m) h1
  have h3 := heap_setCell_any _ H 2 _ _ _ (S x) h2
  exact PartS.of (((hb.setCell (p := ⟨H, 0, none⟩) hH _).setCell (p := ⟨H, 1, none⟩) hH _).setCell (p := ⟨H, 2, none⟩) hH _) hH (by rw [h3]; rfl)
end
set_option linter.unusedSimpArgs false in
set_option maxHeartbeats 16000000 in
set_option maxRecDepth 100000 in
theorem pReadLine (s : ByteArray) (w : World) (hs : s.size ≤ 512) : Calls Tryd.prog 29 #[.string s] w (RdEnd s.data.toList w) := by
  have hlen := str_len s
  obtain ⟨l, hll⟩ : ∃ l, l = s.data.toList := ⟨_, rfl⟩
  have HCS0 : Hid (∀ w1, Calls Tryd.prog 36 #[.string s, .string ⟨#[13, 10]⟩] w1 fun e w' => e = .returned (.tuple #[S (Lib.trimSuffix l [13, 10]), .bool (Lib.hasSuffix l [13, 10])]) ∧ w' = w1) := fun w1 => by rw [hll]; exact Tryd.strings_CutSuffix s ⟨#[13, 10]⟩ w1 (by omega)
  rw [← hll] at hlen ⊢
  have hba := Below.alloc1 w (.cells #[.int .i64 0, .int .u8 0, .string ⟨#[]⟩] 48)
  have hbn : (w.alloc (.cells #[.int .i64 0, .int .u8 0, .string ⟨#[]⟩] 48)).heap[w.heap.size]? = some (.cells #[.int .i64 0, .int .u8 0, .string ⟨#[]⟩] 48 (0, 0)) := heap_alloc_new w _
  have HBA := Lib.hid hba
  have HBN := Lib.hid hbn
  cases hsf : Lib.hasSuffix l [13, 10] with
  | false =>
    have HE := Lib.hid (fun w' (hb : Below w.heap.size w w') => rd_none (line_nosuf hsf) (w := w) (w' := w') 0 0 [] hb)
    rw [hsf] at HCS0
    have HCS := Lib.hid HCS0.out
    generalize Lib.trimSuffix l [13, 10] = y at HCS
    clear hsf HCS0 hll hlen hba hbn
    go_enter Tryd.func29, Tryd.ntmps29
    go_wp2_with (first | (go_at_call 36; refine (HCS.out _).mono ?_; rintro ee w1 ⟨rfl, rfl⟩; refine Hid.out ?_) | fail)
    refine Lib.hid ?_
    go_wp2
    refine bodyPost_ret (v := .tuple #[.agg #[.int .i64 0, .int .u8 0, .string ⟨#[]⟩], .bool false]) ?_ rfl (HE.out _ HBA.out)
    simp [results, Tryd.results29, go_sem]
  | true =>
    obtain ⟨p, rfl⟩ := suf_form hsf
    rw [suf_yes, suf_trim] at HCS0
    have HCS := Lib.hid HCS0.out
    have hpl : p.length + 2 = s.size := by rw [← hlen]; simp
    by_cases h3 : p.length < 3
    · have HE := Lib.hid (fun w' (hb : Below w.heap.size w w') => rd_none (line_end (ends_len (l := p ++ [13, 10]) (by simp; omega))) (w := w) (w' := w') 0 0 [] hb)
      have q3 : (p.length : Int) < 3 := by omega
      have q4 : (p.toArray.size : Int) < 3 := by simpa using q3
      clear hsf HCS0 hll hlen hba hbn
      go_enter Tryd.func29, Tryd.ntmps29
      go_wp2_with (first | (go_at_call 36; refine (HCS.out _).mono ?_; rintro ee w1 ⟨rfl, rfl⟩; refine Hid.out ?_) | fail)
      refine Lib.hid ?_
      go_wp2
      refine bodyPost_ret (v := .tuple #[.agg #[.int .i64 0, .int .u8 0, .string ⟨#[]⟩], .bool false]) ?_ rfl (HE.out _ HBA.out)
      simp [results, Tryd.results29, go_sem]
    · match p, h3, hpl, HCS with
      | [], h3, _, _ => exact (h3 (by simp)).elim
      | [_], h3, _, _ => exact (h3 (by simp)).elim
      | [_, _], h3, _, _ => exact (h3 (by simp)).elim
      | a :: b :: c :: r, _, hpl, HCS =>

        obtain ⟨sd, hsd⟩ : ∃ sd : ByteArray, sd = ⟨(a :: b :: c :: r).toArray⟩ := ⟨_, rfl⟩
        have hss : sd.size = r.length + 3 := by rw [hsd]; simp [ByteArray.size]
        have hd3 : sd.extract 0 3 = ⟨#[a, b, c]⟩ := by rw [extract_bytes, hsd]; simp
        have hre0 : sd.extract 3 sd.size = ⟨r.toArray⟩ := by rw [extract_bytes, List.take_of_length_le (by rw [str_len]; omega), hsd]; simp
        have HDN : Hid (digN 0 [a, b, c] = if digs3 (a :: b :: c :: (r ++ [13, 10])) = true then some (num3 (a :: b :: c :: (r ++ [13, 10]))) else none) := dig_three a b c (r ++ [13, 10])
        have HDG0 : Hid (∀ w1, Calls Tryd.prog 37 #[.string ⟨#[a, b, c]⟩] w1 fun e w' => e = .returned (optV (digN 0 [a, b, c])) ∧ Below w1.heap.size w1 w') := fun w1 => pDigits ⟨#[a, b, c]⟩ w1 (by show 3 ≤ 3; omega)
        have HEB : Hid (endsB (a :: b :: c :: (r ++ [13, 10])) = true) := ends_app (p := a :: b :: c :: r) (by simp)
        have HCS2 : Hid (∀ w1, Calls Tryd.prog 36 #[.string s, .string ⟨#[13, 10]⟩] w1 fun e w' => e = .returned (.tuple #[.string sd, .bool true]) ∧ w' = w1) := by rw [hsd]; exact HCS.out
        have q3 : ¬ (sd.size : Int) < 3 := by omega
        have q4 : (3 : Int) ≤ (sd.size : Int) := by omega
        have HL5 : Hid ((a :: b :: c :: (r ++ [13, 10])).length = r.length + 5) := by show _ = _; simp
        have HTR : Hid (∀ m t, r = m :: t → textR (a :: b :: c :: (r ++ [13, 10])) = t ∧ (a :: b :: c :: (r ++ [13, 10])).getD 3 0 = m) := fun m t h => by rw [h]; exact ⟨text_app a b c m t, rfl⟩
        obtain ⟨re, hree⟩ : ∃ re : ByteArray, re = ⟨r.toArray⟩ := ⟨_, rfl⟩
        have hre : sd.extract 3 sd.size = re := by rw [hre0, hree]
        have hrl : r.length ≤ 510 := by simp at hpl; omega
        show Calls _ _ _ _ (RdEnd (a :: b :: c :: (r ++ [13, 10])) w)
        generalize a :: b :: c :: (r ++ [13, 10]) = L at HDN HEB HL5 HTR ⊢
        clear hsf HCS0 hll hlen hba hbn hsd HCS hre0 hpl hss
        cases hd : digs3 L with
        | false =>
          have HE := Lib.hid (fun w' (x1 x2 : Int) (x3 : List UInt8) (hb : Below w.heap.size w w') => rd_none (line_dig hd) (w := w) (w' := w') x1 x2 x3 hb)
          have HDG : Hid (∀ w1, Calls Tryd.prog 37 #[.string ⟨#[a, b, c]⟩] w1 fun e w' => e = .returned (.tuple #[.int .i64 0, .bool false]) ∧ Below w1.heap.size w1 w') := by rw [HDN.out, hd] at HDG0; exact HDG0
          clear HDG0 HDN hd HEB HL5 HTR
          cases r with
          | nil =>
            obtain rfl : re = ⟨#[]⟩ := hree
            have k0 : (0 : Int) ≤ 1 := by omega
            go_enter Tryd.func29, Tryd.ntmps29
            go_wp2_with (first | (go_at_call 36; refine (HCS2.out _).mono ?_; rintro ee w1 ⟨rfl, rfl⟩; refine Hid.out ?_) | fail)
            refine Lib.hid ?_
            go_wp2_with (first | (go_at_call 37; refine (HDG.out _).mono ?_; rintro ee w2 ⟨rfl, hb⟩; refine Hid.out ?_) | fail)
            refine Lib.hid ?_
            have HB2 : Hid (Below w.heap.size w w2) := HBA.out.trans (hb.mono HBA.out.size)
            have HX2 : Hid (w2.heap[w.heap.size]? = some (.cells #[.int .i64 0, .int .u8 0, .string ⟨#[]⟩] 48 (0, 0))) := (hb.block _ (heap_lt HBN.out)).trans HBN.out
            clear hb
            have hcells := HX2.out
            have p0 : w2.cell? ⟨w.heap.size, 0, none⟩ = some (.int .i64 0) := by simp [World.cell?, hcells]
            have p1 : w2.cell? ⟨w.heap.size, 1, none⟩ = some (.int .u8 0) := by simp [World.cell?, hcells]
            have p2 : w2.cell? ⟨w.heap.size, 2, none⟩ = some (.string ⟨#[]⟩) := by simp [World.cell?, hcells]
            have f0 : w2.frozen? ⟨w.heap.size, 0, none⟩ = false := by simp [World.frozen?, hcells]
            have f1 : w2.frozen? ⟨w.heap.size, 1, none⟩ = false := by simp [World.frozen?, hcells]
            have f2 : w2.frozen? ⟨w.heap.size, 2, none⟩ = false := by simp [World.frozen?, hcells]
            clear hcells
            go_wp2
            go_region
            go_wp2
            generalize hw3 : World.drew (World.setCell _ _ _) = w3
            have hP : PartS w w.heap.size 0 32 [] w3 := by rw [← hw3]; exact PartS.drew (PartS.write HB2.out (Nat.le_refl _) HX2.out)
            have HP0 := Lib.hid hP
            obtain ⟨_, c0, c1, c2, g0, g1, g2⟩ := hP
            clear hw3 p0 p1 p2 f0 f1 f2 HX2
            go_region
            all_goals
              generalize hw5 : World.drew (World.setCell _ _ _) = w5
              have hq : PartS w w.heap.size 0 32 [] w5 := by rw [← hw5]; exact PartS.drew (PartS.set2 (PartS.set1 (PartS.set0 HP0.out)))
              obtain ⟨hq1, d0, d1, d2, _⟩ := hq
              clear hw5 c0 c1 c2 g0 g1 g2
              go_wp2
              refine bodyPost_ret (v := .tuple #[.agg #[.int .i64 0, .int .u8 32, S []], .bool false]) ?_ rfl ?_
              · simp [results, Tryd.results29, go_sem, d0, d1, d2]
              · exact HE.out _ _ _ _ hq1.1
          | cons m t =>
            have hrs : re.size = t.length + 1 := by rw [hree]; simp [ByteArray.size]
            have hrn : ¬ re.size = 0 := by omega
            obtain ⟨hrn1, hrn2⟩ := str_ne hrn
            have z0 : 0 < re.size := by omega
            have y0 : (0 : Int) < (re.size : Int) := by omega
            have y1 : (1 : Int) ≤ (re.size : Int) := by omega
            have hr0 : re[0]'z0 = m := by have := str_get re 0 z0; rw [← this, hree]; rfl
            have hrx : re.extract 1 re.size = ⟨t.toArray⟩ := by rw [extract_bytes, List.take_of_length_le (by rw [str_len]; omega), hree]; simp
            have htl : t.length ≤ 510 := by simp at hrl; omega
            have hmb := m.toNat_lt
            clear hree hrs
            go_enter Tryd.func29, Tryd.ntmps29
            go_wp2_with (first | (go_at_call 36; refine (HCS2.out _).mono ?_; rintro ee w1 ⟨rfl, rfl⟩; refine Hid.out ?_) | fail)
            refine Lib.hid ?_
            go_wp2_with (first | (go_at_call 37; refine (HDG.out _).mono ?_; rintro ee w2 ⟨rfl, hb⟩; refine Hid.out ?_) | fail)
            refine Lib.hid ?_
            have HB2 : Hid (Below w.heap.size w w2) := HBA.out.trans (hb.mono HBA.out.size)
            have HX2 : Hid (w2.heap[w.heap.size]? = some (.cells #[.int .i64 0, .int .u8 0, .string ⟨#[]⟩] 48 (0, 0))) := (hb.block _ (heap_lt HBN.out)).trans HBN.out
            clear hb
            have hcells := HX2.out
            have p0 : w2.cell? ⟨w.heap.size, 0, none⟩ = some (.int .i64 0) := by simp [World.cell?, hcells]
            have p1 : w2.cell? ⟨w.heap.size, 1, none⟩ = some (.int .u8 0) := by simp [World.cell?, hcells]
            have p2 : w2.cell? ⟨w.heap.size, 2, none⟩ = some (.string ⟨#[]⟩) := by simp [World.cell?, hcells]
            have f0 : w2.frozen? ⟨w.heap.size, 0, none⟩ = false := by simp [World.frozen?, hcells]
            have f1 : w2.frozen? ⟨w.heap.size, 1, none⟩ = false := by simp [World.frozen?, hcells]
            have f2 : w2.frozen? ⟨w.heap.size, 2, none⟩ = false := by simp [World.frozen?, hcells]
            clear hcells
            go_wp2
            go_region
            go_wp2
            generalize hw3 : World.drew (World.setCell _ _ _) = w3
            have hP : PartS w w.heap.size 0 (m.toNat : Int) t w3 := by rw [← hw3]; exact PartS.drew (PartS.write HB2.out (Nat.le_refl _) HX2.out)
            have HP0 := Lib.hid hP
            obtain ⟨_, c0, c1, c2, g0, g1, g2⟩ := hP
            clear hw3 p0 p1 p2 f0 f1 f2 HX2
            go_region
            all_goals
              generalize hw5 : World.drew (World.setCell _ _ _) = w5
              have hq : PartS w w.heap.size 0 (m.toNat : Int) t w5 := by rw [← hw5]; exact PartS.drew (PartS.set2 (PartS.set1 (PartS.set0 HP0.out)))
              obtain ⟨hq1, d0, d1, d2, _⟩ := hq
              clear hw5 c0 c1 c2 g0 g1 g2
              go_wp2
              refine bodyPost_ret (v := .tuple #[.agg #[.int .i64 0, .int .u8 (m.toNat : Int), S t], .bool false]) ?_ rfl ?_
              · simp [results, Tryd.results29, go_sem, d0, d1, d2]
              · exact HE.out _ _ _ _ hq1.1
        | true =>
          obtain ⟨n, hn⟩ : ∃ n, n = num3 L := ⟨_, rfl⟩
          have HNN := Lib.hid hn
          have HD3 := Lib.hid hd
          have HDG : Hid (∀ w1, Calls Tryd.prog 37 #[.string ⟨#[a, b, c]⟩] w1 fun e w' => e = .returned (.tuple #[.int .i64 (n : Int), .bool true]) ∧ Below w1.heap.size w1 w') := by rw [HDN.out, hd, ← hn] at HDG0; exact HDG0
          have HCD : Hid (∀ w1, Calls Tryd.prog 21 #[.int .i64 (n : Int)] w1 (AskEnd (codeB (n : Int)) w1)) := fun w1 => pCode (n : Int) w1
          clear HDG0 HDN hd hn
          cases r with
          | nil =>
            obtain rfl : re = ⟨#[]⟩ := hree
            have k0 : (0 : Int) ≤ 1 := by omega
            have HTX : Hid (∀ w1, Calls Tryd.prog 22 #[S []] w1 fun e w' => e = .returned (.bool true) ∧ Below w1.heap.size w1 w') := fun w1 => pText ⟨#[]⟩ w1 (by show 0 ≤ _; omega)
            cases hcb : codeB (n : Int) with
            | false =>
              have HE := Lib.hid (fun w' (x1 x2 : Int) (x3 : List UInt8) (hb : Below w.heap.size w w') => rd_none (line_code (by rw [← HNN.out]; exact hcb)) (w := w) (w' := w') x1 x2 x3 hb)
              rw [hcb] at HCD
              clear hcb
              go_enter Tryd.func29, Tryd.ntmps29
              go_wp2_with (first | (go_at_call 36; refine (HCS2.out _).mono ?_; rintro ee w1 ⟨rfl, rfl⟩; refine Hid.out ?_) | fail)
              refine Lib.hid ?_
              go_wp2_with (first | (go_at_call 37; refine (HDG.out _).mono ?_; rintro ee w2 ⟨rfl, hb⟩; refine Hid.out ?_) | fail)
              refine Lib.hid ?_
              have HB2 : Hid (Below w.heap.size w w2) := HBA.out.trans (hb.mono HBA.out.size)
              have HX2 : Hid (w2.heap[w.heap.size]? = some (.cells #[.int .i64 0, .int .u8 0, .string ⟨#[]⟩] 48 (0, 0))) := (hb.block _ (heap_lt HBN.out)).trans HBN.out
              clear hb
              have hcells := HX2.out
              have p0 : w2.cell? ⟨w.heap.size, 0, none⟩ = some (.int .i64 0) := by simp [World.cell?, hcells]
              have p1 : w2.cell? ⟨w.heap.size, 1, none⟩ = some (.int .u8 0) := by simp [World.cell?, hcells]
              have p2 : w2.cell? ⟨w.heap.size, 2, none⟩ = some (.string ⟨#[]⟩) := by simp [World.cell?, hcells]
              have f0 : w2.frozen? ⟨w.heap.size, 0, none⟩ = false := by simp [World.frozen?, hcells]
              have f1 : w2.frozen? ⟨w.heap.size, 1, none⟩ = false := by simp [World.frozen?, hcells]
              have f2 : w2.frozen? ⟨w.heap.size, 2, none⟩ = false := by simp [World.frozen?, hcells]
              clear hcells
              go_wp2
              go_region
              go_wp2
              generalize hw3 : World.drew (World.setCell _ _ _) = w3
              have hP : PartS w w.heap.size (n : Int) 32 [] w3 := by rw [← hw3]; exact PartS.drew (PartS.write HB2.out (Nat.le_refl _) HX2.out)
              have HP0 := Lib.hid hP
              obtain ⟨_, c0, c1, c2, g0, g1, g2⟩ := hP
              clear hw3 p0 p1 p2 f0 f1 f2 HX2
              refine wp_region_noPanic ?_
              refine wp_region_held_drew (S := (fun w' => (Below w.heap.size w w' ∧ w.heap.size ≤ w.heap.size ∧ w'.heap[w.heap.size]? = some (.cells #[.int .i64 (n : Int), .int .u8 32, S []] 48 (0, 0))) ∧ w'.cell? ⟨w.heap.size, 0, none⟩ = some (.int .i64 (n : Int)) ∧ w'.cell? ⟨w.heap.size, 1, none⟩ = some (.int .u8 32) ∧ w'.cell? ⟨w.heap.size, 2, none⟩ = some (S []) ∧ w'.frozen? ⟨w.heap.size, 0, none⟩ = false ∧ w'.frozen? ⟨w.heap.size, 1, none⟩ = false ∧ w'.frozen? ⟨w.heap.size, 2, none⟩ = false)) (by kernel_rfl) (PartS.drew HP0.out) (fun hHeld => ?_)
              refine wpAnyH_take (i := 0) (v := ?va1) rfl (by kernel_rfl) (by kernel_rfl) (by kernel_rfl) (fun _ _ _ h => h) (Or.inl ⟨by rfl, ?hya1⟩) (by assumption) ?resta1
              case hya1 => (intro w hSw; (try dsimp only at hSw); go_simp; try with_reducible rfl)
              (try simp only [Act.put, List.getElem_toArray, List.getElem_cons_succ, List.getElem_cons_zero, List.setIfInBounds_toArray, List.set_cons_zero, List.set_cons_succ])
              refine wpAnyH_take (i := 1) (v := ?va2) rfl (by kernel_rfl) (by kernel_rfl) (by kernel_rfl) (fun _ _ _ h => h) (Or.inl ⟨by rfl, ?hya2⟩) (by assumption) ?resta2
              case hya2 => (intro w hSw; (try dsimp only at hSw); go_simp; try with_reducible rfl)
              (try simp only [Act.put, List.getElem_toArray, List.getElem_cons_succ, List.getElem_cons_zero, List.setIfInBounds_toArray, List.set_cons_zero, List.set_cons_succ])
              refine wpAnyH_take (i := 2) (v := ?va3) rfl (by kernel_rfl) (by kernel_rfl) (by kernel_rfl) (fun _ _ _ h => h) (Or.inl ⟨by rfl, ?hya3⟩) (by assumption) ?resta3
              case hya3 => (intro w hSw; (try dsimp only at hSw); go_simp; try with_reducible rfl)
              (try simp only [Act.put, List.getElem_toArray, List.getElem_cons_succ, List.getElem_cons_zero, List.setIfInBounds_toArray, List.set_cons_zero, List.set_cons_succ])
              refine wpAnyH_take (i := 3) (v := ?va4) rfl (by kernel_rfl) (by kernel_rfl) (by kernel_rfl) (fun _ _ _ h => h) (Or.inl ⟨by rfl, ?hya4⟩) (by assumption) ?resta4
              case hya4 => (intro w hSw; (try dsimp only at hSw); go_simp; try with_reducible rfl)
              (try simp only [Act.put, List.getElem_toArray, List.getElem_cons_succ, List.getElem_cons_zero, List.setIfInBounds_toArray, List.set_cons_zero, List.set_cons_succ])
              refine wpAnyH_ready (rs := [4]) (by kernel_rfl) (by simp) ?_
              refine AllReadyH.cons rfl (fun K hK => ?_) AllReadyH.nil
              go_simp
              go_wp2_with (first | (go_at_call 21; refine (HCD.out _).mono ?_; rintro ee w9 ⟨rfl, rfl⟩) | fail)
              refine hK.out _ _ hHeld (fun hHeld => ?_)
              clear hK K
              (try simp only [Act.put, List.getElem_toArray, List.getElem_cons_succ, List.getElem_cons_zero, List.setIfInBounds_toArray, List.set_cons_zero, List.set_cons_succ])
              refine wpAnyH_take (i := 5) (v := ?va6) rfl (by kernel_rfl) (by kernel_rfl) (by kernel_rfl) (fun _ _ _ h => h) (Or.inl ⟨by rfl, ?hya6⟩) (by assumption) ?resta6
              case hya6 => (intro w hSw; (try dsimp only at hSw); go_simp; try with_reducible rfl)
              (try simp only [Act.put, List.getElem_toArray, List.getElem_cons_succ, List.getElem_cons_zero, List.setIfInBounds_toArray, List.set_cons_zero, List.set_cons_succ])
              refine wpAnyH_take (i := 6) (v := ?va7) rfl (by kernel_rfl) (by kernel_rfl) (by kernel_rfl) (fun _ _ _ h => h) (Or.inl ⟨by rfl, ?hya7⟩) (by assumption) ?resta7
              case hya7 => (intro w hSw; (try dsimp only at hSw); go_simp; try with_reducible rfl)
              (try simp only [Act.put, List.getElem_toArray, List.getElem_cons_succ, List.getElem_cons_zero, List.setIfInBounds_toArray, List.set_cons_zero, List.set_cons_succ])
              refine wpAnyH_take (i := 7) (v := undef) rfl (by kernel_rfl) (by kernel_rfl) (by kernel_rfl) (fun _ _ _ h => h) (Or.inr ⟨by rfl, rfl⟩) (by assumption) ?_
              (try simp only [Act.put, List.getElem_toArray, List.getElem_cons_succ, List.getElem_cons_zero, List.setIfInBounds_toArray, List.set_cons_zero, List.set_cons_succ])
              refine wpAnyH_take (i := 8) (v := undef) rfl (by kernel_rfl) (by kernel_rfl) (by kernel_rfl) (fun _ _ _ h => h) (Or.inr ⟨by rfl, rfl⟩) (by assumption) ?_
              (try simp only [Act.put, List.getElem_toArray, List.getElem_cons_succ, List.getElem_cons_zero, List.setIfInBounds_toArray, List.set_cons_zero, List.set_cons_succ])
              refine wpAnyH_take (i := 9) (v := undef) rfl (by kernel_rfl) (by kernel_rfl) (by kernel_rfl) (fun _ _ _ h => h) (Or.inr ⟨by rfl, rfl⟩) (by assumption) ?_
              (try simp only [Act.put, List.getElem_toArray, List.getElem_cons_succ, List.getElem_cons_zero, List.setIfInBounds_toArray, List.set_cons_zero, List.set_cons_succ])
              refine wpAnyH_take (i := 10) (v := undef) rfl (by kernel_rfl) (by kernel_rfl) (by kernel_rfl) (fun _ _ _ h => h) (Or.inr ⟨by rfl, rfl⟩) (by assumption) ?_
              (try simp only [Act.put, List.getElem_toArray, List.getElem_cons_succ, List.getElem_cons_zero, List.setIfInBounds_toArray, List.set_cons_zero, List.set_cons_succ])
              refine wpAnyH_take (i := 11) (v := undef) rfl (by kernel_rfl) (by kernel_rfl) (by kernel_rfl) (fun _ _ _ h => h) (Or.inr ⟨by rfl, rfl⟩) (by assumption) ?_
              (try simp only [Act.put, List.getElem_toArray, List.getElem_cons_succ, List.getElem_cons_zero, List.setIfInBounds_toArray, List.set_cons_zero, List.set_cons_succ])
              refine wpAnyH_take (i := 12) (v := undef) rfl (by kernel_rfl) (by kernel_rfl) (by kernel_rfl) (fun _ _ _ h => h) (Or.inr ⟨by rfl, rfl⟩) (by assumption) ?_
              (try simp only [Act.put, List.getElem_toArray, List.getElem_cons_succ, List.getElem_cons_zero, List.setIfInBounds_toArray, List.set_cons_zero, List.set_cons_succ])
              refine wpAnyH_take (i := 13) (v := undef) rfl (by kernel_rfl) (by kernel_rfl) (by kernel_rfl) (fun _ _ _ h => h) (Or.inr ⟨by rfl, rfl⟩) (by assumption) ?_
              (try simp only [Act.put, List.getElem_toArray, List.getElem_cons_succ, List.getElem_cons_zero, List.setIfInBounds_toArray, List.set_cons_zero, List.set_cons_succ])
              refine wpAnyH_take (i := 14) (v := undef) rfl (by kernel_rfl) (by kernel_rfl) (by kernel_rfl) (fun _ _ _ h => h) (Or.inr ⟨by rfl, rfl⟩) (by assumption) ?_
              (try simp only [Act.put, List.getElem_toArray, List.getElem_cons_succ, List.getElem_cons_zero, List.setIfInBounds_toArray, List.set_cons_zero, List.set_cons_succ])
              refine wpAnyH_take (i := 15) (v := ?va16) rfl (by kernel_rfl) (by kernel_rfl) (by kernel_rfl) (fun _ _ _ h => h) (Or.inl ⟨by rfl, ?hya16⟩) (by assumption) ?resta16
              case hya16 => (intro w hSw; (try dsimp only at hSw); go_simp; try with_reducible rfl)
              (try simp only [Act.put, List.getElem_toArray, List.getElem_cons_succ, List.getElem_cons_zero, List.setIfInBounds_toArray, List.set_cons_zero, List.set_cons_succ])
              refine wpAnyH_take (i := 16) (v := ?va17) rfl (by kernel_rfl) (by kernel_rfl) (by kernel_rfl) (fun _ _ _ h => h) (Or.inl ⟨by rfl, ?hya17⟩) (by assumption) ?resta17
              case hya17 => (intro w hSw; (try dsimp only at hSw); go_simp; try with_reducible rfl)
              (try simp only [Act.put, List.getElem_toArray, List.getElem_cons_succ, List.getElem_cons_zero, List.setIfInBounds_toArray, List.set_cons_zero, List.set_cons_succ])
              refine wpAnyH_take (i := 17) (v := undef) rfl (by kernel_rfl) (by kernel_rfl) (by kernel_rfl) (fun _ _ _ h => h) (Or.inr ⟨by rfl, rfl⟩) (by assumption) ?_
              (try simp only [Act.put, List.getElem_toArray, List.getElem_cons_succ, List.getElem_cons_zero, List.setIfInBounds_toArray, List.set_cons_zero, List.set_cons_succ])
              refine wpAnyH_take (i := 18) (v := undef) rfl (by kernel_rfl) (by kernel_rfl) (by kernel_rfl) (fun _ _ _ h => h) (Or.inr ⟨by rfl, rfl⟩) (by assumption) ?_
              (try simp only [Act.put, List.getElem_toArray, List.getElem_cons_succ, List.getElem_cons_zero, List.setIfInBounds_toArray, List.set_cons_zero, List.set_cons_succ])
              refine wpAnyH_take (i := 19) (v := undef) rfl (by kernel_rfl) (by kernel_rfl) (by kernel_rfl) (fun _ _ _ h => h) (Or.inr ⟨by rfl, rfl⟩) (by assumption) ?_
              (try simp only [Act.put, List.getElem_toArray, List.getElem_cons_succ, List.getElem_cons_zero, List.setIfInBounds_toArray, List.set_cons_zero, List.set_cons_succ])
              refine wpAnyH_take (i := 20) (v := ?va21) rfl (by kernel_rfl) (by kernel_rfl) (by kernel_rfl) (fun _ _ _ h => h) (Or.inl ⟨by rfl, ?hya21⟩) (by assumption) ?resta21
              case hya21 => (intro w hSw; (try dsimp only at hSw); go_simp; try with_reducible rfl)
              (try simp only [Act.put, List.getElem_toArray, List.getElem_cons_succ, List.getElem_cons_zero, List.setIfInBounds_toArray, List.set_cons_zero, List.set_cons_succ])
              refine wpAnyH_ready (rs := [21]) (by kernel_rfl) (by simp) ?_
              refine AllReadyH.cons rfl (fun K hK => ?_) AllReadyH.nil
              go_simp
              refine hK.out _ _ (PartS.set2 (PartS.set1 (PartS.set0 hHeld))) (fun hHeld => ?_)
              clear hK K
              (try simp only [Act.put, List.getElem_toArray, List.getElem_cons_succ, List.getElem_cons_zero, List.setIfInBounds_toArray, List.set_cons_zero, List.set_cons_succ])
              refine wpAnyH_take (i := 22) (v := ?va23) rfl (by kernel_rfl) (by kernel_rfl) (by kernel_rfl) (fun _ _ _ h => h) (Or.inl ⟨by rfl, ?hya23⟩) (by assumption) ?resta23
              case hya23 => (intro w hSw; (try dsimp only at hSw); go_simp; try with_reducible rfl)
              (try simp only [Act.put, List.getElem_toArray, List.getElem_cons_succ, List.getElem_cons_zero, List.setIfInBounds_toArray, List.set_cons_zero, List.set_cons_succ])
              refine wpAnyH_done (by kernel_rfl) ?_ _
              refine NoPanic.normal ?_
              generalize hw5 : World.drew (World.setCell _ _ _) = w5 at hHeld ⊢
              have hq : PartS w w.heap.size (n : Int) 32 [] w5 := hHeld
              obtain ⟨hq1, d0, d1, d2, _⟩ := hq
              clear hw5 hHeld c0 c1 c2 g0 g1 g2
              go_wp2
              refine bodyPost_ret (v := .tuple #[.agg #[.int .i64 (n : Int), .int .u8 32, S []], .bool false]) ?_ rfl ?_
              · simp [results, Tryd.results29, go_sem, d0, d1, d2]
              · exact HE.out _ _ _ _ hq1.1
            | true =>
              have HE := Lib.hid (fun w' (hb : Below w.heap.size w w') => rd_some (line_five HEB.out HD3.out (by rw [← HNN.out]; exact hcb) HL5.out) (w := w) (w' := w') hb)
              rw [← HNN.out] at HE
              rw [hcb] at HCD
              clear hcb
              go_enter Tryd.func29, Tryd.ntmps29
              go_wp2_with (first | (go_at_call 36; refine (HCS2.out _).mono ?_; rintro ee w1 ⟨rfl, rfl⟩; refine Hid.out ?_) | fail)
              refine Lib.hid ?_
              go_wp2_with (first | (go_at_call 37; refine (HDG.out _).mono ?_; rintro ee w2 ⟨rfl, hb⟩; refine Hid.out ?_) | fail)
              refine Lib.hid ?_
              have HB2 : Hid (Below w.heap.size w w2) := HBA.out.trans (hb.mono HBA.out.size)
              have HX2 : Hid (w2.heap[w.heap.size]? = some (.cells #[.int .i64 0, .int .u8 0, .string ⟨#[]⟩] 48 (0, 0))) := (hb.block _ (heap_lt HBN.out)).trans HBN.out
              clear hb
              have hcells := HX2.out
              have p0 : w2.cell? ⟨w.heap.size, 0, none⟩ = some (.int .i64 0) := by simp [World.cell?, hcells]
              have p1 : w2.cell? ⟨w.heap.size, 1, none⟩ = some (.int .u8 0) := by simp [World.cell?, hcells]
              have p2 : w2.cell? ⟨w.heap.size, 2, none⟩ = some (.string ⟨#[]⟩) := by simp [World.cell?, hcells]
              have f0 : w2.frozen? ⟨w.heap.size, 0, none⟩ = false := by simp [World.frozen?, hcells]
              have f1 : w2.frozen? ⟨w.heap.size, 1, none⟩ = false := by simp [World.frozen?, hcells]
              have f2 : w2.frozen? ⟨w.heap.size, 2, none⟩ = false := by simp [World.frozen?, hcells]
              clear hcells
              go_wp2
              go_region
              go_wp2
              generalize hw3 : World.drew (World.setCell _ _ _) = w3
              have hP : PartS w w.heap.size (n : Int) 32 [] w3 := by rw [← hw3]; exact PartS.drew (PartS.write HB2.out (Nat.le_refl _) HX2.out)
              have HP0 := Lib.hid hP
              obtain ⟨_, c0, c1, c2, g0, g1, g2⟩ := hP
              clear hw3 p0 p1 p2 f0 f1 f2 HX2
              refine wp_region_noPanic ?_
              refine wp_region_held_drew (S := (fun w' => (Below w.heap.size w w' ∧ w.heap.size ≤ w.heap.size ∧ w'.heap[w.heap.size]? = some (.cells #[.int .i64 (n : Int), .int .u8 32, S []] 48 (0, 0))) ∧ w'.cell? ⟨w.heap.size, 0, none⟩ = some (.int .i64 (n : Int)) ∧ w'.cell? ⟨w.heap.size, 1, none⟩ = some (.int .u8 32) ∧ w'.cell? ⟨w.heap.size, 2, none⟩ = some (S []) ∧ w'.frozen? ⟨w.heap.size, 0, none⟩ = false ∧ w'.frozen? ⟨w.heap.size, 1, none⟩ = false ∧ w'.frozen? ⟨w.heap.size, 2, none⟩ = false)) (by kernel_rfl) (PartS.drew HP0.out) (fun hHeld => ?_)
              refine wpAnyH_take (i := 0) (v := ?vb1) rfl (by kernel_rfl) (by kernel_rfl) (by kernel_rfl) (fun _ _ _ h => h) (Or.inl ⟨by rfl, ?hyb1⟩) (by assumption) ?restb1
              case hyb1 => (intro w hSw; (try dsimp only at hSw); go_simp; try with_reducible rfl)
              (try simp only [Act.put, List.getElem_toArray, List.getElem_cons_succ, List.getElem_cons_zero, List.setIfInBounds_toArray, List.set_cons_zero, List.set_cons_succ])
              refine wpAnyH_take (i := 1) (v := ?vb2) rfl (by kernel_rfl) (by kernel_rfl) (by kernel_rfl) (fun _ _ _ h => h) (Or.inl ⟨by rfl, ?hyb2⟩) (by assumption) ?restb2
              case hyb2 => (intro w hSw; (try dsimp only at hSw); go_simp; try with_reducible rfl)
              (try simp only [Act.put, List.getElem_toArray, List.getElem_cons_succ, List.getElem_cons_zero, List.setIfInBounds_toArray, List.set_cons_zero, List.set_cons_succ])
              refine wpAnyH_take (i := 2) (v := ?vb3) rfl (by kernel_rfl) (by kernel_rfl) (by kernel_rfl) (fun _ _ _ h => h) (Or.inl ⟨by rfl, ?hyb3⟩) (by assumption) ?restb3
              case hyb3 => (intro w hSw; (try dsimp only at hSw); go_simp; try with_reducible rfl)
              (try simp only [Act.put, List.getElem_toArray, List.getElem_cons_succ, List.getElem_cons_zero, List.setIfInBounds_toArray, List.set_cons_zero, List.set_cons_succ])
              refine wpAnyH_take (i := 3) (v := ?vb4) rfl (by kernel_rfl) (by kernel_rfl) (by kernel_rfl) (fun _ _ _ h => h) (Or.inl ⟨by rfl, ?hyb4⟩) (by assumption) ?restb4
              case hyb4 => (intro w hSw; (try dsimp only at hSw); go_simp; try with_reducible rfl)
              (try simp only [Act.put, List.getElem_toArray, List.getElem_cons_succ, List.getElem_cons_zero, List.setIfInBounds_toArray, List.set_cons_zero, List.set_cons_succ])
              refine wpAnyH_ready (rs := [4]) (by kernel_rfl) (by simp) ?_
              refine AllReadyH.cons rfl (fun K hK => ?_) AllReadyH.nil
              go_simp
              go_wp2_with (first | (go_at_call 21; refine (HCD.out _).mono ?_; rintro ee w9 ⟨rfl, rfl⟩) | fail)
              refine hK.out _ _ hHeld (fun hHeld => ?_)
              clear hK K
              (try simp only [Act.put, List.getElem_toArray, List.getElem_cons_succ, List.getElem_cons_zero, List.setIfInBounds_toArray, List.set_cons_zero, List.set_cons_succ])
              refine wpAnyH_take (i := 5) (v := ?vb6) rfl (by kernel_rfl) (by kernel_rfl) (by kernel_rfl) (fun _ _ _ h => h) (Or.inl ⟨by rfl, ?hyb6⟩) (by assumption) ?restb6
              case hyb6 => (intro w hSw; (try dsimp only at hSw); go_simp; try with_reducible rfl)
              (try simp only [Act.put, List.getElem_toArray, List.getElem_cons_succ, List.getElem_cons_zero, List.setIfInBounds_toArray, List.set_cons_zero, List.set_cons_succ])
              refine wpAnyH_take (i := 6) (v := ?vb7) rfl (by kernel_rfl) (by kernel_rfl) (by kernel_rfl) (fun _ _ _ h => h) (Or.inl ⟨by rfl, ?hyb7⟩) (by assumption) ?restb7
              case hyb7 => (intro w hSw; (try dsimp only at hSw); go_simp; try with_reducible rfl)
              (try simp only [Act.put, List.getElem_toArray, List.getElem_cons_succ, List.getElem_cons_zero, List.setIfInBounds_toArray, List.set_cons_zero, List.set_cons_succ])
              refine wpAnyH_take (i := 7) (v := ?vb8) rfl (by kernel_rfl) (by kernel_rfl) (by kernel_rfl) (fun _ _ _ h => h) (Or.inl ⟨by rfl, ?hyb8⟩) (by assumption) ?restb8
              case hyb8 => (intro w hSw; (try dsimp only at hSw); go_simp; try with_reducible rfl)
              (try simp only [Act.put, List.getElem_toArray, List.getElem_cons_succ, List.getElem_cons_zero, List.setIfInBounds_toArray, List.set_cons_zero, List.set_cons_succ])
              refine wpAnyH_take (i := 8) (v := ?vb9) rfl (by kernel_rfl) (by kernel_rfl) (by kernel_rfl) (fun _ _ _ h => h) (Or.inl ⟨by rfl, ?hyb9⟩) (by assumption) ?restb9
              case hyb9 => (intro w hSw; (try dsimp only at hSw); go_simp; try with_reducible rfl)
              (try simp only [Act.put, List.getElem_toArray, List.getElem_cons_succ, List.getElem_cons_zero, List.setIfInBounds_toArray, List.set_cons_zero, List.set_cons_succ])
              refine wpAnyH_take (i := 9) (v := ?vb10) rfl (by kernel_rfl) (by kernel_rfl) (by kernel_rfl) (fun _ _ _ h => h) (Or.inl ⟨by rfl, ?hyb10⟩) (by assumption) ?restb10
              case hyb10 => (intro w hSw; (try dsimp only at hSw); go_simp; try with_reducible rfl)
              (try simp only [Act.put, List.getElem_toArray, List.getElem_cons_succ, List.getElem_cons_zero, List.setIfInBounds_toArray, List.set_cons_zero, List.set_cons_succ])
              refine wpAnyH_take (i := 10) (v := ?vb11) rfl (by kernel_rfl) (by kernel_rfl) (by kernel_rfl) (fun _ _ _ h => h) (Or.inl ⟨by rfl, ?hyb11⟩) (by assumption) ?restb11
              case hyb11 => (intro w hSw; (try dsimp only at hSw); go_simp; try with_reducible rfl)
              (try simp only [Act.put, List.getElem_toArray, List.getElem_cons_succ, List.getElem_cons_zero, List.setIfInBounds_toArray, List.set_cons_zero, List.set_cons_succ])
              refine wpAnyH_take (i := 11) (v := ?vb12) rfl (by kernel_rfl) (by kernel_rfl) (by kernel_rfl) (fun _ _ _ h => h) (Or.inl ⟨by rfl, ?hyb12⟩) (by assumption) ?restb12
              case hyb12 => (intro w hSw; (try dsimp only at hSw); go_simp; try with_reducible rfl)
              (try simp only [Act.put, List.getElem_toArray, List.getElem_cons_succ, List.getElem_cons_zero, List.setIfInBounds_toArray, List.set_cons_zero, List.set_cons_succ])
              refine wpAnyH_take (i := 12) (v := ?vb13) rfl (by kernel_rfl) (by kernel_rfl) (by kernel_rfl) (fun _ _ _ h => h) (Or.inl ⟨by rfl, ?hyb13⟩) (by assumption) ?restb13
              case hyb13 => (intro w hSw; (try dsimp only at hSw); go_simp; try with_reducible rfl)
              (try simp only [Act.put, List.getElem_toArray, List.getElem_cons_succ, List.getElem_cons_zero, List.setIfInBounds_toArray, List.set_cons_zero, List.set_cons_succ])
              refine wpAnyH_take (i := 13) (v := ?vb14) rfl (by kernel_rfl) (by kernel_rfl) (by kernel_rfl) (fun _ _ _ h => h) (Or.inl ⟨by rfl, ?hyb14⟩) (by assumption) ?restb14
              case hyb14 => (intro w hSw; (try dsimp only at hSw); go_simp; try with_reducible rfl)
              (try simp only [Act.put, List.getElem_toArray, List.getElem_cons_succ, List.getElem_cons_zero, List.setIfInBounds_toArray, List.set_cons_zero, List.set_cons_succ])
              refine wpAnyH_take (i := 14) (v := ?vb15) rfl (by kernel_rfl) (by kernel_rfl) (by kernel_rfl) (fun _ _ _ h => h) (Or.inl ⟨by rfl, ?hyb15⟩) (by assumption) ?restb15
              case hyb15 => (intro w hSw; (try dsimp only at hSw); go_simp; try with_reducible rfl)
              (try simp only [Act.put, List.getElem_toArray, List.getElem_cons_succ, List.getElem_cons_zero, List.setIfInBounds_toArray, List.set_cons_zero, List.set_cons_succ])
              refine wpAnyH_take (i := 15) (v := ?vb16) rfl (by kernel_rfl) (by kernel_rfl) (by kernel_rfl) (fun _ _ _ h => h) (Or.inl ⟨by rfl, ?hyb16⟩) (by assumption) ?restb16
              case hyb16 => (intro w hSw; (try dsimp only at hSw); go_simp; try with_reducible rfl)
              (try simp only [Act.put, List.getElem_toArray, List.getElem_cons_succ, List.getElem_cons_zero, List.setIfInBounds_toArray, List.set_cons_zero, List.set_cons_succ])
              refine wpAnyH_take (i := 16) (v := ?vb17) rfl (by kernel_rfl) (by kernel_rfl) (by kernel_rfl) (fun _ _ _ h => h) (Or.inl ⟨by rfl, ?hyb17⟩) (by assumption) ?restb17
              case hyb17 => (intro w hSw; (try dsimp only at hSw); go_simp; try with_reducible rfl)
              (try simp only [Act.put, List.getElem_toArray, List.getElem_cons_succ, List.getElem_cons_zero, List.setIfInBounds_toArray, List.set_cons_zero, List.set_cons_succ])
              refine wpAnyH_take (i := 17) (v := ?vb18) rfl (by kernel_rfl) (by kernel_rfl) (by kernel_rfl) (fun _ _ _ h => h) (Or.inl ⟨by rfl, ?hyb18⟩) (by assumption) ?restb18
              case hyb18 => (intro w hSw; (try dsimp only at hSw); go_simp; try with_reducible rfl)
              (try simp only [Act.put, List.getElem_toArray, List.getElem_cons_succ, List.getElem_cons_zero, List.setIfInBounds_toArray, List.set_cons_zero, List.set_cons_succ])
              refine wpAnyH_take (i := 18) (v := ?vb19) rfl (by kernel_rfl) (by kernel_rfl) (by kernel_rfl) (fun _ _ _ h => h) (Or.inl ⟨by rfl, ?hyb19⟩) (by assumption) ?restb19
              case hyb19 => (intro w hSw; (try dsimp only at hSw); go_simp; try with_reducible rfl)
              (try simp only [Act.put, List.getElem_toArray, List.getElem_cons_succ, List.getElem_cons_zero, List.setIfInBounds_toArray, List.set_cons_zero, List.set_cons_succ])
              refine wpAnyH_ready (rs := [19]) (by kernel_rfl) (by simp) ?_
              refine AllReadyH.cons rfl (fun K hK => ?_) AllReadyH.nil
              go_simp
              go_wp2_with (first | (go_at_call 22; refine (HTX.out _).mono ?_; rintro ee w9 ⟨rfl, hb⟩) | fail)
              refine hK.out _ _ (PartS.on hHeld hb) (fun hHeld => ?_)
              clear hK K
              (try simp only [Act.put, List.getElem_toArray, List.getElem_cons_succ, List.getElem_cons_zero, List.setIfInBounds_toArray, List.set_cons_zero, List.set_cons_succ])
              refine wpAnyH_take (i := 20) (v := ?vb21) rfl (by kernel_rfl) (by kernel_rfl) (by kernel_rfl) (fun _ _ _ h => h) (Or.inl ⟨by rfl, ?hyb21⟩) (by assumption) ?restb21
              case hyb21 => (intro w hSw; (try dsimp only at hSw); go_simp; try with_reducible rfl)
              (try simp only [Act.put, List.getElem_toArray, List.getElem_cons_succ, List.getElem_cons_zero, List.setIfInBounds_toArray, List.set_cons_zero, List.set_cons_succ])
              refine wpAnyH_ready (rs := [21]) (by kernel_rfl) (by simp) ?_
              refine AllReadyH.cons rfl (fun K hK => ?_) AllReadyH.nil
              go_simp
              refine hK.out _ _ (PartS.set2 (PartS.set1 (PartS.set0 hHeld))) (fun hHeld => ?_)
              clear hK K
              (try simp only [Act.put, List.getElem_toArray, List.getElem_cons_succ, List.getElem_cons_zero, List.setIfInBounds_toArray, List.set_cons_zero, List.set_cons_succ])
              refine wpAnyH_take (i := 22) (v := ?vb23) rfl (by kernel_rfl) (by kernel_rfl) (by kernel_rfl) (fun _ _ _ h => h) (Or.inl ⟨by rfl, ?hyb23⟩) (by assumption) ?restb23
              case hyb23 => (intro w hSw; (try dsimp only at hSw); go_simp; try with_reducible rfl)
              (try simp only [Act.put, List.getElem_toArray, List.getElem_cons_succ, List.getElem_cons_zero, List.setIfInBounds_toArray, List.set_cons_zero, List.set_cons_succ])
              refine wpAnyH_done (by kernel_rfl) ?_ _
              refine NoPanic.normal ?_
              generalize hw5 : World.setCell (World.setCell (World.setCell _ _ _) _ _) _ _ = w5 at hHeld ⊢
              have hq : PartS w w.heap.size (n : Int) 32 [] w5 := hHeld
              obtain ⟨hq1, d0, d1, d2, _⟩ := hq
              clear hw5 hHeld c0 c1 c2 g0 g1 g2
              go_wp2
              refine bodyPost_ret (v := .tuple #[.agg #[.int .i64 (n : Int), .int .u8 32, S []], .bool true]) ?_ rfl ?_
              · simp [results, Tryd.results29, go_sem, d0, d1, d2]
              · exact HE.out _ hq1.1
          | cons m t =>
            have hrs : re.size = t.length + 1 := by rw [hree]; simp [ByteArray.size]
            have hrn : ¬ re.size = 0 := by omega
            obtain ⟨hrn1, hrn2⟩ := str_ne hrn
            have z0 : 0 < re.size := by omega
            have y0 : (0 : Int) < (re.size : Int) := by omega
            have y1 : (1 : Int) ≤ (re.size : Int) := by omega
            have hr0 : re[0]'z0 = m := by have := str_get re 0 z0; rw [← this, hree]; rfl
            have hrx : re.extract 1 re.size = ⟨t.toArray⟩ := by rw [extract_bytes, List.take_of_length_le (by rw [str_len]; omega), hree]; simp
            have htl : t.length ≤ 510 := by simp at hrl; omega
            have hmb := m.toNat_lt
            have HTR2 := Lib.hid (HTR.out m t rfl)
            have HTX : Hid (∀ w1, Calls Tryd.prog 22 #[S t] w1 fun e w' => e = .returned (.bool (textB t)) ∧ Below w1.heap.size w1 w') := fun w1 => pText ⟨t.toArray⟩ w1 (by rw [← str_len]; show t.length ≤ _; omega)
            clear hree hrs
            cases hcb : codeB (n : Int) with
            | false =>
              have HE := Lib.hid (fun w' (x1 x2 : Int) (x3 : List UInt8) (hb : Below w.heap.size w w') => rd_none (line_code (by rw [← HNN.out]; exact hcb)) (w := w) (w' := w') x1 x2 x3 hb)
              rw [hcb] at HCD
              clear hcb
              go_enter Tryd.func29, Tryd.ntmps29
              go_wp2_with (first | (go_at_call 36; refine (HCS2.out _).mono ?_; rintro ee w1 ⟨rfl, rfl⟩; refine Hid.out ?_) | fail)
              refine Lib.hid ?_
              go_wp2_with (first | (go_at_call 37; refine (HDG.out _).mono ?_; rintro ee w2 ⟨rfl, hb⟩; refine Hid.out ?_) | fail)
              refine Lib.hid ?_
              have HB2 : Hid (Below w.heap.size w w2) := HBA.out.trans (hb.mono HBA.out.size)
              have HX2 : Hid (w2.heap[w.heap.size]? = some (.cells #[.int .i64 0, .int .u8 0, .string ⟨#[]⟩] 48 (0, 0))) := (hb.block _ (heap_lt HBN.out)).trans HBN.out
              clear hb
              have hcells := HX2.out
              have p0 : w2.cell? ⟨w.heap.size, 0, none⟩ = some (.int .i64 0) := by simp [World.cell?, hcells]
              have p1 : w2.cell? ⟨w.heap.size, 1, none⟩ = some (.int .u8 0) := by simp [World.cell?, hcells]
              have p2 : w2.cell? ⟨w.heap.size, 2, none⟩ = some (.string ⟨#[]⟩) := by simp [World.cell?, hcells]
              have f0 : w2.frozen? ⟨w.heap.size, 0, none⟩ = false := by simp [World.frozen?, hcells]
              have f1 : w2.frozen? ⟨w.heap.size, 1, none⟩ = false := by simp [World.frozen?, hcells]
              have f2 : w2.frozen? ⟨w.heap.size, 2, none⟩ = false := by simp [World.frozen?, hcells]
              clear hcells
              go_wp2
              go_region
              go_wp2
              generalize hw3 : World.drew (World.setCell _ _ _) = w3
              have hP : PartS w w.heap.size (n : Int) (m.toNat : Int) t w3 := by rw [← hw3]; exact PartS.drew (PartS.write HB2.out (Nat.le_refl _) HX2.out)
              have HP0 := Lib.hid hP
              obtain ⟨_, c0, c1, c2, g0, g1, g2⟩ := hP
              clear hw3 p0 p1 p2 f0 f1 f2 HX2
              refine wp_region_noPanic ?_
              refine wp_region_held_drew (S := (fun w' => (Below w.heap.size w w' ∧ w.heap.size ≤ w.heap.size ∧ w'.heap[w.heap.size]? = some (.cells #[.int .i64 (n : Int), .int .u8 (m.toNat : Int), S t] 48 (0, 0))) ∧ w'.cell? ⟨w.heap.size, 0, none⟩ = some (.int .i64 (n : Int)) ∧ w'.cell? ⟨w.heap.size, 1, none⟩ = some (.int .u8 (m.toNat : Int)) ∧ w'.cell? ⟨w.heap.size, 2, none⟩ = some (S t) ∧ w'.frozen? ⟨w.heap.size, 0, none⟩ = false ∧ w'.frozen? ⟨w.heap.size, 1, none⟩ = false ∧ w'.frozen? ⟨w.heap.size, 2, none⟩ = false)) (by kernel_rfl) (PartS.drew HP0.out) (fun hHeld => ?_)
              refine wpAnyH_take (i := 0) (v := ?vc1) rfl (by kernel_rfl) (by kernel_rfl) (by kernel_rfl) (fun _ _ _ h => h) (Or.inl ⟨by rfl, ?hyc1⟩) (by assumption) ?restc1
              case hyc1 => (intro w hSw; (try dsimp only at hSw); go_simp; try with_reducible rfl)
              (try simp only [Act.put, List.getElem_toArray, List.getElem_cons_succ, List.getElem_cons_zero, List.setIfInBounds_toArray, List.set_cons_zero, List.set_cons_succ])
              refine wpAnyH_take (i := 1) (v := ?vc2) rfl (by kernel_rfl) (by kernel_rfl) (by kernel_rfl) (fun _ _ _ h => h) (Or.inl ⟨by rfl, ?hyc2⟩) (by assumption) ?restc2
              case hyc2 => (intro w hSw; (try dsimp only at hSw); go_simp; try with_reducible rfl)
              (try simp only [Act.put, List.getElem_toArray, List.getElem_cons_succ, List.getElem_cons_zero, List.setIfInBounds_toArray, List.set_cons_zero, List.set_cons_succ])
              refine wpAnyH_take (i := 2) (v := ?vc3) rfl (by kernel_rfl) (by kernel_rfl) (by kernel_rfl) (fun _ _ _ h => h) (Or.inl ⟨by rfl, ?hyc3⟩) (by assumption) ?restc3
              case hyc3 => (intro w hSw; (try dsimp only at hSw); go_simp; try with_reducible rfl)
              (try simp only [Act.put, List.getElem_toArray, List.getElem_cons_succ, List.getElem_cons_zero, List.setIfInBounds_toArray, List.set_cons_zero, List.set_cons_succ])
              refine wpAnyH_take (i := 3) (v := ?vc4) rfl (by kernel_rfl) (by kernel_rfl) (by kernel_rfl) (fun _ _ _ h => h) (Or.inl ⟨by rfl, ?hyc4⟩) (by assumption) ?restc4
              case hyc4 => (intro w hSw; (try dsimp only at hSw); go_simp; try with_reducible rfl)
              (try simp only [Act.put, List.getElem_toArray, List.getElem_cons_succ, List.getElem_cons_zero, List.setIfInBounds_toArray, List.set_cons_zero, List.set_cons_succ])
              refine wpAnyH_ready (rs := [4]) (by kernel_rfl) (by simp) ?_
              refine AllReadyH.cons rfl (fun K hK => ?_) AllReadyH.nil
              go_simp
              go_wp2_with (first | (go_at_call 21; refine (HCD.out _).mono ?_; rintro ee w9 ⟨rfl, rfl⟩) | fail)
              refine hK.out _ _ hHeld (fun hHeld => ?_)
              clear hK K
              (try simp only [Act.put, List.getElem_toArray, List.getElem_cons_succ, List.getElem_cons_zero, List.setIfInBounds_toArray, List.set_cons_zero, List.set_cons_succ])
              refine wpAnyH_take (i := 5) (v := ?vc6) rfl (by kernel_rfl) (by kernel_rfl) (by kernel_rfl) (fun _ _ _ h => h) (Or.inl ⟨by rfl, ?hyc6⟩) (by assumption) ?restc6
              case hyc6 => (intro w hSw; (try dsimp only at hSw); go_simp; try with_reducible rfl)
              (try simp only [Act.put, List.getElem_toArray, List.getElem_cons_succ, List.getElem_cons_zero, List.setIfInBounds_toArray, List.set_cons_zero, List.set_cons_succ])
              refine wpAnyH_take (i := 6) (v := ?vc7) rfl (by kernel_rfl) (by kernel_rfl) (by kernel_rfl) (fun _ _ _ h => h) (Or.inl ⟨by rfl, ?hyc7⟩) (by assumption) ?restc7
              case hyc7 => (intro w hSw; (try dsimp only at hSw); go_simp; try with_reducible rfl)
              (try simp only [Act.put, List.getElem_toArray, List.getElem_cons_succ, List.getElem_cons_zero, List.setIfInBounds_toArray, List.set_cons_zero, List.set_cons_succ])
              refine wpAnyH_take (i := 7) (v := undef) rfl (by kernel_rfl) (by kernel_rfl) (by kernel_rfl) (fun _ _ _ h => h) (Or.inr ⟨by rfl, rfl⟩) (by assumption) ?_
              (try simp only [Act.put, List.getElem_toArray, List.getElem_cons_succ, List.getElem_cons_zero, List.setIfInBounds_toArray, List.set_cons_zero, List.set_cons_succ])
              refine wpAnyH_take (i := 8) (v := undef) rfl (by kernel_rfl) (by kernel_rfl) (by kernel_rfl) (fun _ _ _ h => h) (Or.inr ⟨by rfl, rfl⟩) (by assumption) ?_
              (try simp only [Act.put, List.getElem_toArray, List.getElem_cons_succ, List.getElem_cons_zero, List.setIfInBounds_toArray, List.set_cons_zero, List.set_cons_succ])
              refine wpAnyH_take (i := 9) (v := undef) rfl (by kernel_rfl) (by kernel_rfl) (by kernel_rfl) (fun _ _ _ h => h) (Or.inr ⟨by rfl, rfl⟩) (by assumption) ?_
              (try simp only [Act.put, List.getElem_toArray, List.getElem_cons_succ, List.getElem_cons_zero, List.setIfInBounds_toArray, List.set_cons_zero, List.set_cons_succ])
              refine wpAnyH_take (i := 10) (v := undef) rfl (by kernel_rfl) (by kernel_rfl) (by kernel_rfl) (fun _ _ _ h => h) (Or.inr ⟨by rfl, rfl⟩) (by assumption) ?_
              (try simp only [Act.put, List.getElem_toArray, List.getElem_cons_succ, List.getElem_cons_zero, List.setIfInBounds_toArray, List.set_cons_zero, List.set_cons_succ])
              refine wpAnyH_take (i := 11) (v := undef) rfl (by kernel_rfl) (by kernel_rfl) (by kernel_rfl) (fun _ _ _ h => h) (Or.inr ⟨by rfl, rfl⟩) (by assumption) ?_
              (try simp only [Act.put, List.getElem_toArray, List.getElem_cons_succ, List.getElem_cons_zero, List.setIfInBounds_toArray, List.set_cons_zero, List.set_cons_succ])
              refine wpAnyH_take (i := 12) (v := undef) rfl (by kernel_rfl) (by kernel_rfl) (by kernel_rfl) (fun _ _ _ h => h) (Or.inr ⟨by rfl, rfl⟩) (by assumption) ?_
              (try simp only [Act.put, List.getElem_toArray, List.getElem_cons_succ, List.getElem_cons_zero, List.setIfInBounds_toArray, List.set_cons_zero, List.set_cons_succ])
              refine wpAnyH_take (i := 13) (v := undef) rfl (by kernel_rfl) (by kernel_rfl) (by kernel_rfl) (fun _ _ _ h => h) (Or.inr ⟨by rfl, rfl⟩) (by assumption) ?_
              (try simp only [Act.put, List.getElem_toArray, List.getElem_cons_succ, List.getElem_cons_zero, List.setIfInBounds_toArray, List.set_cons_zero, List.set_cons_succ])
              refine wpAnyH_take (i := 14) (v := undef) rfl (by kernel_rfl) (by kernel_rfl) (by kernel_rfl) (fun _ _ _ h => h) (Or.inr ⟨by rfl, rfl⟩) (by assumption) ?_
              (try simp only [Act.put, List.getElem_toArray, List.getElem_cons_succ, List.getElem_cons_zero, List.setIfInBounds_toArray, List.set_cons_zero, List.set_cons_succ])
              refine wpAnyH_take (i := 15) (v := ?vc16) rfl (by kernel_rfl) (by kernel_rfl) (by kernel_rfl) (fun _ _ _ h => h) (Or.inl ⟨by rfl, ?hyc16⟩) (by assumption) ?restc16
              case hyc16 => (intro w hSw; (try dsimp only at hSw); go_simp; try with_reducible rfl)
              (try simp only [Act.put, List.getElem_toArray, List.getElem_cons_succ, List.getElem_cons_zero, List.setIfInBounds_toArray, List.set_cons_zero, List.set_cons_succ])
              refine wpAnyH_take (i := 16) (v := ?vc17) rfl (by kernel_rfl) (by kernel_rfl) (by kernel_rfl) (fun _ _ _ h => h) (Or.inl ⟨by rfl, ?hyc17⟩) (by assumption) ?restc17
              case hyc17 => (intro w hSw; (try dsimp only at hSw); go_simp; try with_reducible rfl)
              (try simp only [Act.put, List.getElem_toArray, List.getElem_cons_succ, List.getElem_cons_zero, List.setIfInBounds_toArray, List.set_cons_zero, List.set_cons_succ])
              refine wpAnyH_take (i := 17) (v := undef) rfl (by kernel_rfl) (by kernel_rfl) (by kernel_rfl) (fun _ _ _ h => h) (Or.inr ⟨by rfl, rfl⟩) (by assumption) ?_
              (try simp only [Act.put, List.getElem_toArray, List.getElem_cons_succ, List.getElem_cons_zero, List.setIfInBounds_toArray, List.set_cons_zero, List.set_cons_succ])
              refine wpAnyH_take (i := 18) (v := undef) rfl (by kernel_rfl) (by kernel_rfl) (by kernel_rfl) (fun _ _ _ h => h) (Or.inr ⟨by rfl, rfl⟩) (by assumption) ?_
              (try simp only [Act.put, List.getElem_toArray, List.getElem_cons_succ, List.getElem_cons_zero, List.setIfInBounds_toArray, List.set_cons_zero, List.set_cons_succ])
              refine wpAnyH_take (i := 19) (v := undef) rfl (by kernel_rfl) (by kernel_rfl) (by kernel_rfl) (fun _ _ _ h => h) (Or.inr ⟨by rfl, rfl⟩) (by assumption) ?_
              (try simp only [Act.put, List.getElem_toArray, List.getElem_cons_succ, List.getElem_cons_zero, List.setIfInBounds_toArray, List.set_cons_zero, List.set_cons_succ])
              refine wpAnyH_take (i := 20) (v := ?vc21) rfl (by kernel_rfl) (by kernel_rfl) (by kernel_rfl) (fun _ _ _ h => h) (Or.inl ⟨by rfl, ?hyc21⟩) (by assumption) ?restc21
              case hyc21 => (intro w hSw; (try dsimp only at hSw); go_simp; try with_reducible rfl)
              (try simp only [Act.put, List.getElem_toArray, List.getElem_cons_succ, List.getElem_cons_zero, List.setIfInBounds_toArray, List.set_cons_zero, List.set_cons_succ])
              refine wpAnyH_ready (rs := [21]) (by kernel_rfl) (by simp) ?_
              refine AllReadyH.cons rfl (fun K hK => ?_) AllReadyH.nil
              go_simp
              refine hK.out _ _ (PartS.set2 (PartS.set1 (PartS.set0 hHeld))) (fun hHeld => ?_)
              clear hK K
              (try simp only [Act.put, List.getElem_toArray, List.getElem_cons_succ, List.getElem_cons_zero, List.setIfInBounds_toArray, List.set_cons_zero, List.set_cons_succ])
              refine wpAnyH_take (i := 22) (v := ?vc23) rfl (by kernel_rfl) (by kernel_rfl) (by kernel_rfl) (fun _ _ _ h => h) (Or.inl ⟨by rfl, ?hyc23⟩) (by assumption) ?restc23
              case hyc23 => (intro w hSw; (try dsimp only at hSw); go_simp; try with_reducible rfl)
              (try simp only [Act.put, List.getElem_toArray, List.getElem_cons_succ, List.getElem_cons_zero, List.setIfInBounds_toArray, List.set_cons_zero, List.set_cons_succ])
              refine wpAnyH_done (by kernel_rfl) ?_ _
              refine NoPanic.normal ?_
              generalize hw5 : World.drew (World.setCell _ _ _) = w5 at hHeld ⊢
              have hq : PartS w w.heap.size (n : Int) (m.toNat : Int) t w5 := hHeld
              obtain ⟨hq1, d0, d1, d2, _⟩ := hq
              clear hw5 hHeld c0 c1 c2 g0 g1 g2
              go_wp2
              refine bodyPost_ret (v := .tuple #[.agg #[.int .i64 (n : Int), .int .u8 (m.toNat : Int), S t], .bool false]) ?_ rfl ?_
              · simp [results, Tryd.results29, go_sem, d0, d1, d2]
              · exact HE.out _ _ _ _ hq1.1
            | true =>
              have HLT : Hid (lineR L = if textB t && sepB m then some (n, decide (m.toNat = 45), t) else none) := by
                have e := line_text HEB.out HD3.out (by rw [← HNN.out]; exact hcb) (by rw [HL5.out]; simp)
                rw [HTR2.out.1, HTR2.out.2, ← HNN.out] at e
                exact e
              rw [hcb] at HCD
              clear hcb
              by_cases m45 : m.toNat = 45
              · have u1 : ((m.toNat : Int) == 45) = true := by rw [beq_iff_eq]; omega
                have HSP : Hid (sepB m = true) := by show _ = _; unfold sepB; exact decide_eq_true (Or.inl m45)
                have HRT : Hid (∀ w', Below w.heap.size w w' → RdEnd L w (.returned (.tuple #[.agg #[.int .i64 (n : Int), .int .u8 (m.toNat : Int), S t], .bool (textB t)])) w') := fun w' hb => by
                  have e := HLT.out
                  rw [HSP.out, Bool.and_true] at e
                  cases htb : textB t with
                  | false => rw [htb, if_neg (by decide)] at e; exact rd_none e _ _ _ hb
                  | true =>
                    rw [htb, if_pos rfl] at e
                    have := rd_some e (w := w) (w' := w') hb
                    rw [show (m.toNat : Int) = 45 by omega]
                    simpa [m45] using this
                generalize textB t = tb at HTX HRT
                clear m45
                go_enter Tryd.func29, Tryd.ntmps29
                go_wp2_with (first | (go_at_call 36; refine (HCS2.out _).mono ?_; rintro ee w1 ⟨rfl, rfl⟩; refine Hid.out ?_) | fail)
                refine Lib.hid ?_
                go_wp2_with (first | (go_at_call 37; refine (HDG.out _).mono ?_; rintro ee w2 ⟨rfl, hb⟩; refine Hid.out ?_) | fail)
                refine Lib.hid ?_
                have HB2 : Hid (Below w.heap.size w w2) := HBA.out.trans (hb.mono HBA.out.size)
                have HX2 : Hid (w2.heap[w.heap.size]? = some (.cells #[.int .i64 0, .int .u8 0, .string ⟨#[]⟩] 48 (0, 0))) := (hb.block _ (heap_lt HBN.out)).trans HBN.out
                clear hb
                have hcells := HX2.out
                have p0 : w2.cell? ⟨w.heap.size, 0, none⟩ = some (.int .i64 0) := by simp [World.cell?, hcells]
                have p1 : w2.cell? ⟨w.heap.size, 1, none⟩ = some (.int .u8 0) := by simp [World.cell?, hcells]
                have p2 : w2.cell? ⟨w.heap.size, 2, none⟩ = some (.string ⟨#[]⟩) := by simp [World.cell?, hcells]
                have f0 : w2.frozen? ⟨w.heap.size, 0, none⟩ = false := by simp [World.frozen?, hcells]
                have f1 : w2.frozen? ⟨w.heap.size, 1, none⟩ = false := by simp [World.frozen?, hcells]
                have f2 : w2.frozen? ⟨w.heap.size, 2, none⟩ = false := by simp [World.frozen?, hcells]
                clear hcells
                go_wp2
                go_region
                go_wp2
                generalize hw3 : World.drew (World.setCell _ _ _) = w3
                have hP : PartS w w.heap.size (n : Int) (m.toNat : Int) t w3 := by rw [← hw3]; exact PartS.drew (PartS.write HB2.out (Nat.le_refl _) HX2.out)
                have HP0 := Lib.hid hP
                obtain ⟨_, c0, c1, c2, g0, g1, g2⟩ := hP
                clear hw3 p0 p1 p2 f0 f1 f2 HX2
                refine wp_region_noPanic ?_
                refine wp_region_held_drew (S := (fun w' => (Below w.heap.size w w' ∧ w.heap.size ≤ w.heap.size ∧ w'.heap[w.heap.size]? = some (.cells #[.int .i64 (n : Int), .int .u8 (m.toNat : Int), S t] 48 (0, 0))) ∧ w'.cell? ⟨w.heap.size, 0, none⟩ = some (.int .i64 (n : Int)) ∧ w'.cell? ⟨w.heap.size, 1, none⟩ = some (.int .u8 (m.toNat : Int)) ∧ w'.cell? ⟨w.heap.size, 2, none⟩ = some (S t) ∧ w'.frozen? ⟨w.heap.size, 0, none⟩ = false ∧ w'.frozen? ⟨w.heap.size, 1, none⟩ = false ∧ w'.frozen? ⟨w.heap.size, 2, none⟩ = false)) (by kernel_rfl) (PartS.drew HP0.out) (fun hHeld => ?_)
                refine wpAnyH_take (i := 0) (v := ?vd1) rfl (by kernel_rfl) (by kernel_rfl) (by kernel_rfl) (fun _ _ _ h => h) (Or.inl ⟨by rfl, ?hyd1⟩) (by assumption) ?restd1
                case hyd1 => (intro w hSw; (try dsimp only at hSw); go_simp; try with_reducible rfl)
                (try simp only [Act.put, List.getElem_toArray, List.getElem_cons_succ, List.getElem_cons_zero, List.setIfInBounds_toArray, List.set_cons_zero, List.set_cons_succ])
                refine wpAnyH_take (i := 1) (v := ?vd2) rfl (by kernel_rfl) (by kernel_rfl) (by kernel_rfl) (fun _ _ _ h => h) (Or.inl ⟨by rfl, ?hyd2⟩) (by assumption) ?restd2
                case hyd2 => (intro w hSw; (try dsimp only at hSw); go_simp; try with_reducible rfl)
                (try simp only [Act.put, List.getElem_toArray, List.getElem_cons_succ, List.getElem_cons_zero, List.setIfInBounds_toArray, List.set_cons_zero, List.set_cons_succ])
                refine wpAnyH_take (i := 2) (v := ?vd3) rfl (by kernel_rfl) (by kernel_rfl) (by kernel_rfl) (fun _ _ _ h => h) (Or.inl ⟨by rfl, ?hyd3⟩) (by assumption) ?restd3
                case hyd3 => (intro w hSw; (try dsimp only at hSw); go_simp; try with_reducible rfl)
                (try simp only [Act.put, List.getElem_toArray, List.getElem_cons_succ, List.getElem_cons_zero, List.setIfInBounds_toArray, List.set_cons_zero, List.set_cons_succ])
                refine wpAnyH_take (i := 3) (v := ?vd4) rfl (by kernel_rfl) (by kernel_rfl) (by kernel_rfl) (fun _ _ _ h => h) (Or.inl ⟨by rfl, ?hyd4⟩) (by assumption) ?restd4
                case hyd4 => (intro w hSw; (try dsimp only at hSw); go_simp; try with_reducible rfl)
                (try simp only [Act.put, List.getElem_toArray, List.getElem_cons_succ, List.getElem_cons_zero, List.setIfInBounds_toArray, List.set_cons_zero, List.set_cons_succ])
                refine wpAnyH_ready (rs := [4]) (by kernel_rfl) (by simp) ?_
                refine AllReadyH.cons rfl (fun K hK => ?_) AllReadyH.nil
                go_simp
                go_wp2_with (first | (go_at_call 21; refine (HCD.out _).mono ?_; rintro ee w9 ⟨rfl, rfl⟩) | fail)
                refine hK.out _ _ hHeld (fun hHeld => ?_)
                clear hK K
                (try simp only [Act.put, List.getElem_toArray, List.getElem_cons_succ, List.getElem_cons_zero, List.setIfInBounds_toArray, List.set_cons_zero, List.set_cons_succ])
                refine wpAnyH_take (i := 5) (v := ?vd6) rfl (by kernel_rfl) (by kernel_rfl) (by kernel_rfl) (fun _ _ _ h => h) (Or.inl ⟨by rfl, ?hyd6⟩) (by assumption) ?restd6
                case hyd6 => (intro w hSw; (try dsimp only at hSw); go_simp; try with_reducible rfl)
                (try simp only [Act.put, List.getElem_toArray, List.getElem_cons_succ, List.getElem_cons_zero, List.setIfInBounds_toArray, List.set_cons_zero, List.set_cons_succ])
                refine wpAnyH_take (i := 6) (v := ?vd7) rfl (by kernel_rfl) (by kernel_rfl) (by kernel_rfl) (fun _ _ _ h => h) (Or.inl ⟨by rfl, ?hyd7⟩) (by assumption) ?restd7
                case hyd7 => (intro w hSw; (try dsimp only at hSw); go_simp; try with_reducible rfl)
                (try simp only [Act.put, List.getElem_toArray, List.getElem_cons_succ, List.getElem_cons_zero, List.setIfInBounds_toArray, List.set_cons_zero, List.set_cons_succ])
                refine wpAnyH_take (i := 7) (v := ?vd8) rfl (by kernel_rfl) (by kernel_rfl) (by kernel_rfl) (fun _ _ _ h => h) (Or.inl ⟨by rfl, ?hyd8⟩) (by assumption) ?restd8
                case hyd8 => (intro w hSw; (try dsimp only at hSw); go_simp; try with_reducible rfl)
                (try simp only [Act.put, List.getElem_toArray, List.getElem_cons_succ, List.getElem_cons_zero, List.setIfInBounds_toArray, List.set_cons_zero, List.set_cons_succ])
                refine wpAnyH_take (i := 8) (v := ?vd9) rfl (by kernel_rfl) (by kernel_rfl) (by kernel_rfl) (fun _ _ _ h => h) (Or.inl ⟨by rfl, ?hyd9⟩) (by assumption) ?restd9
                case hyd9 => (intro w hSw; (try dsimp only at hSw); go_simp; try with_reducible rfl)
                (try simp only [Act.put, List.getElem_toArray, List.getElem_cons_succ, List.getElem_cons_zero, List.setIfInBounds_toArray, List.set_cons_zero, List.set_cons_succ])
                refine wpAnyH_take (i := 9) (v := ?vd10) rfl (by kernel_rfl) (by kernel_rfl) (by kernel_rfl) (fun _ _ _ h => h) (Or.inl ⟨by rfl, ?hyd10⟩) (by assumption) ?restd10
                case hyd10 => (intro w hSw; (try dsimp only at hSw); go_simp; try with_reducible rfl)
                (try simp only [Act.put, List.getElem_toArray, List.getElem_cons_succ, List.getElem_cons_zero, List.setIfInBounds_toArray, List.set_cons_zero, List.set_cons_succ])
                refine wpAnyH_take (i := 10) (v := ?vd11) rfl (by kernel_rfl) (by kernel_rfl) (by kernel_rfl) (fun _ _ _ h => h) (Or.inl ⟨by rfl, ?hyd11⟩) (by assumption) ?restd11
                case hyd11 => (intro w hSw; (try dsimp only at hSw); go_simp; try with_reducible rfl)
                (try simp only [Act.put, List.getElem_toArray, List.getElem_cons_succ, List.getElem_cons_zero, List.setIfInBounds_toArray, List.set_cons_zero, List.set_cons_succ])
                refine wpAnyH_take (i := 11) (v := undef) rfl (by kernel_rfl) (by kernel_rfl) (by kernel_rfl) (fun _ _ _ h => h) (Or.inr ⟨by rfl, rfl⟩) (by assumption) ?_
                (try simp only [Act.put, List.getElem_toArray, List.getElem_cons_succ, List.getElem_cons_zero, List.setIfInBounds_toArray, List.set_cons_zero, List.set_cons_succ])
                refine wpAnyH_take (i := 12) (v := undef) rfl (by kernel_rfl) (by kernel_rfl) (by kernel_rfl) (fun _ _ _ h => h) (Or.inr ⟨by rfl, rfl⟩) (by assumption) ?_
                (try simp only [Act.put, List.getElem_toArray, List.getElem_cons_succ, List.getElem_cons_zero, List.setIfInBounds_toArray, List.set_cons_zero, List.set_cons_succ])
                refine wpAnyH_take (i := 13) (v := undef) rfl (by kernel_rfl) (by kernel_rfl) (by kernel_rfl) (fun _ _ _ h => h) (Or.inr ⟨by rfl, rfl⟩) (by assumption) ?_
                (try simp only [Act.put, List.getElem_toArray, List.getElem_cons_succ, List.getElem_cons_zero, List.setIfInBounds_toArray, List.set_cons_zero, List.set_cons_succ])
                refine wpAnyH_take (i := 14) (v := ?vd15) rfl (by kernel_rfl) (by kernel_rfl) (by kernel_rfl) (fun _ _ _ h => h) (Or.inl ⟨by rfl, ?hyd15⟩) (by assumption) ?restd15
                case hyd15 => (intro w hSw; (try dsimp only at hSw); go_simp; try with_reducible rfl)
                (try simp only [Act.put, List.getElem_toArray, List.getElem_cons_succ, List.getElem_cons_zero, List.setIfInBounds_toArray, List.set_cons_zero, List.set_cons_succ])
                refine wpAnyH_take (i := 15) (v := ?vd16) rfl (by kernel_rfl) (by kernel_rfl) (by kernel_rfl) (fun _ _ _ h => h) (Or.inl ⟨by rfl, ?hyd16⟩) (by assumption) ?restd16
                case hyd16 => (intro w hSw; (try dsimp only at hSw); go_simp; try with_reducible rfl)
                (try simp only [Act.put, List.getElem_toArray, List.getElem_cons_succ, List.getElem_cons_zero, List.setIfInBounds_toArray, List.set_cons_zero, List.set_cons_succ])
                refine wpAnyH_take (i := 16) (v := ?vd17) rfl (by kernel_rfl) (by kernel_rfl) (by kernel_rfl) (fun _ _ _ h => h) (Or.inl ⟨by rfl, ?hyd17⟩) (by assumption) ?restd17
                case hyd17 => (intro w hSw; (try dsimp only at hSw); go_simp; try with_reducible rfl)
                (try simp only [Act.put, List.getElem_toArray, List.getElem_cons_succ, List.getElem_cons_zero, List.setIfInBounds_toArray, List.set_cons_zero, List.set_cons_succ])
                refine wpAnyH_take (i := 17) (v := ?vd18) rfl (by kernel_rfl) (by kernel_rfl) (by kernel_rfl) (fun _ _ _ h => h) (Or.inl ⟨by rfl, ?hyd18⟩) (by assumption) ?restd18
                case hyd18 => (intro w hSw; (try dsimp only at hSw); go_simp; try with_reducible rfl)
                (try simp only [Act.put, List.getElem_toArray, List.getElem_cons_succ, List.getElem_cons_zero, List.setIfInBounds_toArray, List.set_cons_zero, List.set_cons_succ])
                refine wpAnyH_take (i := 18) (v := ?vd19) rfl (by kernel_rfl) (by kernel_rfl) (by kernel_rfl) (fun _ _ _ h => h) (Or.inl ⟨by rfl, ?hyd19⟩) (by assumption) ?restd19
                case hyd19 => (intro w hSw; (try dsimp only at hSw); go_simp; try with_reducible rfl)
                (try simp only [Act.put, List.getElem_toArray, List.getElem_cons_succ, List.getElem_cons_zero, List.setIfInBounds_toArray, List.set_cons_zero, List.set_cons_succ])
                refine wpAnyH_ready (rs := [19]) (by kernel_rfl) (by simp) ?_
                refine AllReadyH.cons rfl (fun K hK => ?_) AllReadyH.nil
                go_simp
                go_wp2_with (first | (go_at_call 22; refine (HTX.out _).mono ?_; rintro ee w9 ⟨rfl, hb⟩) | fail)
                refine hK.out _ _ (PartS.on hHeld hb) (fun hHeld => ?_)
                clear hK K
                (try simp only [Act.put, List.getElem_toArray, List.getElem_cons_succ, List.getElem_cons_zero, List.setIfInBounds_toArray, List.set_cons_zero, List.set_cons_succ])
                refine wpAnyH_take (i := 20) (v := ?vd21) rfl (by kernel_rfl) (by kernel_rfl) (by kernel_rfl) (fun _ _ _ h => h) (Or.inl ⟨by rfl, ?hyd21⟩) (by assumption) ?restd21
                case hyd21 => (intro w hSw; (try dsimp only at hSw); go_simp; try with_reducible rfl)
                (try simp only [Act.put, List.getElem_toArray, List.getElem_cons_succ, List.getElem_cons_zero, List.setIfInBounds_toArray, List.set_cons_zero, List.set_cons_succ])
                refine wpAnyH_ready (rs := [21]) (by kernel_rfl) (by simp) ?_
                refine AllReadyH.cons rfl (fun K hK => ?_) AllReadyH.nil
                go_simp
                refine hK.out _ _ (PartS.set2 (PartS.set1 (PartS.set0 hHeld))) (fun hHeld => ?_)
                clear hK K
                (try simp only [Act.put, List.getElem_toArray, List.getElem_cons_succ, List.getElem_cons_zero, List.setIfInBounds_toArray, List.set_cons_zero, List.set_cons_succ])
                refine wpAnyH_take (i := 22) (v := ?vd23) rfl (by kernel_rfl) (by kernel_rfl) (by kernel_rfl) (fun _ _ _ h => h) (Or.inl ⟨by rfl, ?hyd23⟩) (by assumption) ?restd23
                case hyd23 => (intro w hSw; (try dsimp only at hSw); go_simp; try with_reducible rfl)
                (try simp only [Act.put, List.getElem_toArray, List.getElem_cons_succ, List.getElem_cons_zero, List.setIfInBounds_toArray, List.set_cons_zero, List.set_cons_succ])
                refine wpAnyH_done (by kernel_rfl) ?_ _
                refine NoPanic.normal ?_
                generalize hw5 : World.setCell (World.setCell (World.setCell _ _ _) _ _) _ _ = w5 at hHeld ⊢
                have hq : PartS w w.heap.size (n : Int) (m.toNat : Int) t w5 := hHeld
                obtain ⟨hq1, d0, d1, d2, _⟩ := hq
                clear hw5 hHeld c0 c1 c2 g0 g1 g2
                go_wp2
                refine bodyPost_ret (v := .tuple #[.agg #[.int .i64 (n : Int), .int .u8 (m.toNat : Int), S t], .bool tb]) ?_ rfl ?_
                · simp [results, Tryd.results29, go_sem, d0, d1, d2]
                · exact HRT.out _ hq1.1
              · have u1 : ((m.toNat : Int) == 45) = false := by rw [beq_eq_false_iff_ne]; omega
                by_cases m32 : m.toNat = 32
                · have u2 : ((m.toNat : Int) == 32) = true := by rw [beq_iff_eq]; omega
                  have HSP : Hid (sepB m = true) := by show _ = _; unfold sepB; exact decide_eq_true (Or.inr m32)
                  have HRT : Hid (∀ w', Below w.heap.size w w' → RdEnd L w (.returned (.tuple #[.agg #[.int .i64 (n : Int), .int .u8 (m.toNat : Int), S t], .bool (textB t)])) w') := fun w' hb => by
                    have e := HLT.out
                    rw [HSP.out, Bool.and_true] at e
                    cases htb : textB t with
                    | false => rw [htb, if_neg (by decide)] at e; exact rd_none e _ _ _ hb
                    | true =>
                      rw [htb, if_pos rfl] at e
                      have := rd_some e (w := w) (w' := w') hb
                      rw [show (m.toNat : Int) = 32 by omega]
                      simpa [m45] using this
                  generalize textB t = tb at HTX HRT
                  clear m45 m32
                  go_enter Tryd.func29, Tryd.ntmps29
                  go_wp2_with (first | (go_at_call 36; refine (HCS2.out _).mono ?_; rintro ee w1 ⟨rfl, rfl⟩; refine Hid.out ?_) | fail)
                  refine Lib.hid ?_
                  go_wp2_with (first | (go_at_call 37; refine (HDG.out _).mono ?_; rintro ee w2 ⟨rfl, hb⟩; refine Hid.out ?_) | fail)
                  refine Lib.hid ?_
                  have HB2 : Hid (Below w.heap.size w w2) := HBA.out.trans (hb.mono HBA.out.size)
                  have HX2 : Hid (w2.heap[w.heap.size]? = some (.cells #[.int .i64 0, .int .u8 0, .string ⟨#[]⟩] 48 (0, 0))) := (hb.block _ (heap_lt HBN.out)).trans HBN.out
                  clear hb
                  have hcells := HX2.out
                  have p0 : w2.cell? ⟨w.heap.size, 0, none⟩ = some (.int .i64 0) := by simp [World.cell?, hcells]
                  have p1 : w2.cell? ⟨w.heap.size, 1, none⟩ = some (.int .u8 0) := by simp [World.cell?, hcells]
                  have p2 : w2.cell? ⟨w.heap.size, 2, none⟩ = some (.string ⟨#[]⟩) := by simp [World.cell?, hcells]
                  have f0 : w2.frozen? ⟨w.heap.size, 0, none⟩ = false := by simp [World.frozen?, hcells]
                  have f1 : w2.frozen? ⟨w.heap.size, 1, none⟩ = false := by simp [World.frozen?, hcells]
                  have f2 : w2.frozen? ⟨w.heap.size, 2, none⟩ = false := by simp [World.frozen?, hcells]
                  clear hcells
                  go_wp2
                  go_region
                  go_wp2
                  generalize hw3 : World.drew (World.setCell _ _ _) = w3
                  have hP : PartS w w.heap.size (n : Int) (m.toNat : Int) t w3 := by rw [← hw3]; exact PartS.drew (PartS.write HB2.out (Nat.le_refl _) HX2.out)
                  have HP0 := Lib.hid hP
                  obtain ⟨_, c0, c1, c2, g0, g1, g2⟩ := hP
                  clear hw3 p0 p1 p2 f0 f1 f2 HX2
                  refine wp_region_noPanic ?_
                  refine wp_region_held_drew (S := (fun w' => (Below w.heap.size w w' ∧ w.heap.size ≤ w.heap.size ∧ w'.heap[w.heap.size]? = some (.cells #[.int .i64 (n : Int), .int .u8 (m.toNat : Int), S t] 48 (0, 0))) ∧ w'.cell? ⟨w.heap.size, 0, none⟩ = some (.int .i64 (n : Int)) ∧ w'.cell? ⟨w.heap.size, 1, none⟩ = some (.int .u8 (m.toNat : Int)) ∧ w'.cell? ⟨w.heap.size, 2, none⟩ = some (S t) ∧ w'.frozen? ⟨w.heap.size, 0, none⟩ = false ∧ w'.frozen? ⟨w.heap.size, 1, none⟩ = false ∧ w'.frozen? ⟨w.heap.size, 2, none⟩ = false)) (by kernel_rfl) (PartS.drew HP0.out) (fun hHeld => ?_)
                  refine wpAnyH_take (i := 0) (v := ?ve1) rfl (by kernel_rfl) (by kernel_rfl) (by kernel_rfl) (fun _ _ _ h => h) (Or.inl ⟨by rfl, ?hye1⟩) (by assumption) ?reste1
                  case hye1 => (intro w hSw; (try dsimp only at hSw); go_simp; try with_reducible rfl)
                  (try simp only [Act.put, List.getElem_toArray, List.getElem_cons_succ, List.getElem_cons_zero, List.setIfInBounds_toArray, List.set_cons_zero, List.set_cons_succ])
                  refine wpAnyH_take (i := 1) (v := ?ve2) rfl (by kernel_rfl) (by kernel_rfl) (by kernel_rfl) (fun _ _ _ h => h) (Or.inl ⟨by rfl, ?hye2⟩) (by assumption) ?reste2
                  case hye2 => (intro w hSw; (try dsimp only at hSw); go_simp; try with_reducible rfl)
                  (try simp only [Act.put, List.getElem_toArray, List.getElem_cons_succ, List.getElem_cons_zero, List.setIfInBounds_toArray, List.set_cons_zero, List.set_cons_succ])
                  refine wpAnyH_take (i := 2) (v := ?ve3) rfl (by kernel_rfl) (by kernel_rfl) (by kernel_rfl) (fun _ _ _ h => h) (Or.inl ⟨by rfl, ?hye3⟩) (by assumption) ?reste3
                  case hye3 => (intro w hSw; (try dsimp only at hSw); go_simp; try with_reducible rfl)
                  (try simp only [Act.put, List.getElem_toArray, List.getElem_cons_succ, List.getElem_cons_zero, List.setIfInBounds_toArray, List.set_cons_zero, List.set_cons_succ])
                  refine wpAnyH_take (i := 3) (v := ?ve4) rfl (by kernel_rfl) (by kernel_rfl) (by kernel_rfl) (fun _ _ _ h => h) (Or.inl ⟨by rfl, ?hye4⟩) (by assumption) ?reste4
                  case hye4 => (intro w hSw; (try dsimp only at hSw); go_simp; try with_reducible rfl)
                  (try simp only [Act.put, List.getElem_toArray, List.getElem_cons_succ, List.getElem_cons_zero, List.setIfInBounds_toArray, List.set_cons_zero, List.set_cons_succ])
                  refine wpAnyH_ready (rs := [4]) (by kernel_rfl) (by simp) ?_
                  refine AllReadyH.cons rfl (fun K hK => ?_) AllReadyH.nil
                  go_simp
                  go_wp2_with (first | (go_at_call 21; refine (HCD.out _).mono ?_; rintro ee w9 ⟨rfl, rfl⟩) | fail)
                  refine hK.out _ _ hHeld (fun hHeld => ?_)
                  clear hK K
                  (try simp only [Act.put, List.getElem_toArray, List.getElem_cons_succ, List.getElem_cons_zero, List.setIfInBounds_toArray, List.set_cons_zero, List.set_cons_succ])
                  refine wpAnyH_take (i := 5) (v := ?ve6) rfl (by kernel_rfl) (by kernel_rfl) (by kernel_rfl) (fun _ _ _ h => h) (Or.inl ⟨by rfl, ?hye6⟩) (by assumption) ?reste6
                  case hye6 => (intro w hSw; (try dsimp only at hSw); go_simp; try with_reducible rfl)
                  (try simp only [Act.put, List.getElem_toArray, List.getElem_cons_succ, List.getElem_cons_zero, List.setIfInBounds_toArray, List.set_cons_zero, List.set_cons_succ])
                  refine wpAnyH_take (i := 6) (v := ?ve7) rfl (by kernel_rfl) (by kernel_rfl) (by kernel_rfl) (fun _ _ _ h => h) (Or.inl ⟨by rfl, ?hye7⟩) (by assumption) ?reste7
                  case hye7 => (intro w hSw; (try dsimp only at hSw); go_simp; try with_reducible rfl)
                  (try simp only [Act.put, List.getElem_toArray, List.getElem_cons_succ, List.getElem_cons_zero, List.setIfInBounds_toArray, List.set_cons_zero, List.set_cons_succ])
                  refine wpAnyH_take (i := 7) (v := ?ve8) rfl (by kernel_rfl) (by kernel_rfl) (by kernel_rfl) (fun _ _ _ h => h) (Or.inl ⟨by rfl, ?hye8⟩) (by assumption) ?reste8
                  case hye8 => (intro w hSw; (try dsimp only at hSw); go_simp; try with_reducible rfl)
                  (try simp only [Act.put, List.getElem_toArray, List.getElem_cons_succ, List.getElem_cons_zero, List.setIfInBounds_toArray, List.set_cons_zero, List.set_cons_succ])
                  refine wpAnyH_take (i := 8) (v := ?ve9) rfl (by kernel_rfl) (by kernel_rfl) (by kernel_rfl) (fun _ _ _ h => h) (Or.inl ⟨by rfl, ?hye9⟩) (by assumption) ?reste9
                  case hye9 => (intro w hSw; (try dsimp only at hSw); go_simp; try with_reducible rfl)
                  (try simp only [Act.put, List.getElem_toArray, List.getElem_cons_succ, List.getElem_cons_zero, List.setIfInBounds_toArray, List.set_cons_zero, List.set_cons_succ])
                  refine wpAnyH_take (i := 9) (v := ?ve10) rfl (by kernel_rfl) (by kernel_rfl) (by kernel_rfl) (fun _ _ _ h => h) (Or.inl ⟨by rfl, ?hye10⟩) (by assumption) ?reste10
                  case hye10 => (intro w hSw; (try dsimp only at hSw); go_simp; try with_reducible rfl)
                  (try simp only [Act.put, List.getElem_toArray, List.getElem_cons_succ, List.getElem_cons_zero, List.setIfInBounds_toArray, List.set_cons_zero, List.set_cons_succ])
                  refine wpAnyH_take (i := 10) (v := ?ve11) rfl (by kernel_rfl) (by kernel_rfl) (by kernel_rfl) (fun _ _ _ h => h) (Or.inl ⟨by rfl, ?hye11⟩) (by assumption) ?reste11
                  case hye11 => (intro w hSw; (try dsimp only at hSw); go_simp; try with_reducible rfl)
                  (try simp only [Act.put, List.getElem_toArray, List.getElem_cons_succ, List.getElem_cons_zero, List.setIfInBounds_toArray, List.set_cons_zero, List.set_cons_succ])
                  refine wpAnyH_take (i := 11) (v := ?ve12) rfl (by kernel_rfl) (by kernel_rfl) (by kernel_rfl) (fun _ _ _ h => h) (Or.inl ⟨by rfl, ?hye12⟩) (by assumption) ?reste12
                  case hye12 => (intro w hSw; (try dsimp only at hSw); go_simp; try with_reducible rfl)
                  (try simp only [Act.put, List.getElem_toArray, List.getElem_cons_succ, List.getElem_cons_zero, List.setIfInBounds_toArray, List.set_cons_zero, List.set_cons_succ])
                  refine wpAnyH_take (i := 12) (v := ?ve13) rfl (by kernel_rfl) (by kernel_rfl) (by kernel_rfl) (fun _ _ _ h => h) (Or.inl ⟨by rfl, ?hye13⟩) (by assumption) ?reste13
                  case hye13 => (intro w hSw; (try dsimp only at hSw); go_simp; try with_reducible rfl)
                  (try simp only [Act.put, List.getElem_toArray, List.getElem_cons_succ, List.getElem_cons_zero, List.setIfInBounds_toArray, List.set_cons_zero, List.set_cons_succ])
                  refine wpAnyH_take (i := 13) (v := ?ve14) rfl (by kernel_rfl) (by kernel_rfl) (by kernel_rfl) (fun _ _ _ h => h) (Or.inl ⟨by rfl, ?hye14⟩) (by assumption) ?reste14
                  case hye14 => (intro w hSw; (try dsimp only at hSw); go_simp; try with_reducible rfl)
                  (try simp only [Act.put, List.getElem_toArray, List.getElem_cons_succ, List.getElem_cons_zero, List.setIfInBounds_toArray, List.set_cons_zero, List.set_cons_succ])
                  refine wpAnyH_take (i := 14) (v := ?ve15) rfl (by kernel_rfl) (by kernel_rfl) (by kernel_rfl) (fun _ _ _ h => h) (Or.inl ⟨by rfl, ?hye15⟩) (by assumption) ?reste15
                  case hye15 => (intro w hSw; (try dsimp only at hSw); go_simp; try with_reducible rfl)
                  (try simp only [Act.put, List.getElem_toArray, List.getElem_cons_succ, List.getElem_cons_zero, List.setIfInBounds_toArray, List.set_cons_zero, List.set_cons_succ])
                  refine wpAnyH_take (i := 15) (v := ?ve16) rfl (by kernel_rfl) (by kernel_rfl) (by kernel_rfl) (fun _ _ _ h => h) (Or.inl ⟨by rfl, ?hye16⟩) (by assumption) ?reste16
                  case hye16 => (intro w hSw; (try dsimp only at hSw); go_simp; try with_reducible rfl)
                  (try simp only [Act.put, List.getElem_toArray, List.getElem_cons_succ, List.getElem_cons_zero, List.setIfInBounds_toArray, List.set_cons_zero, List.set_cons_succ])
                  refine wpAnyH_take (i := 16) (v := ?ve17) rfl (by kernel_rfl) (by kernel_rfl) (by kernel_rfl) (fun _ _ _ h => h) (Or.inl ⟨by rfl, ?hye17⟩) (by assumption) ?reste17
                  case hye17 => (intro w hSw; (try dsimp only at hSw); go_simp; try with_reducible rfl)
                  (try simp only [Act.put, List.getElem_toArray, List.getElem_cons_succ, List.getElem_cons_zero, List.setIfInBounds_toArray, List.set_cons_zero, List.set_cons_succ])
                  refine wpAnyH_take (i := 17) (v := ?ve18) rfl (by kernel_rfl) (by kernel_rfl) (by kernel_rfl) (fun _ _ _ h => h) (Or.inl ⟨by rfl, ?hye18⟩) (by assumption) ?reste18
                  case hye18 => (intro w hSw; (try dsimp only at hSw); go_simp; try with_reducible rfl)
                  (try simp only [Act.put, List.getElem_toArray, List.getElem_cons_succ, List.getElem_cons_zero, List.setIfInBounds_toArray, List.set_cons_zero, List.set_cons_succ])
                  refine wpAnyH_take (i := 18) (v := ?ve19) rfl (by kernel_rfl) (by kernel_rfl) (by kernel_rfl) (fun _ _ _ h => h) (Or.inl ⟨by rfl, ?hye19⟩) (by assumption) ?reste19
                  case hye19 => (intro w hSw; (try dsimp only at hSw); go_simp; try with_reducible rfl)
                  (try simp only [Act.put, List.getElem_toArray, List.getElem_cons_succ, List.getElem_cons_zero, List.setIfInBounds_toArray, List.set_cons_zero, List.set_cons_succ])
                  refine wpAnyH_ready (rs := [19]) (by kernel_rfl) (by simp) ?_
                  refine AllReadyH.cons rfl (fun K hK => ?_) AllReadyH.nil
                  go_simp
                  go_wp2_with (first | (go_at_call 22; refine (HTX.out _).mono ?_; rintro ee w9 ⟨rfl, hb⟩) | fail)
                  refine hK.out _ _ (PartS.on hHeld hb) (fun hHeld => ?_)
                  clear hK K
                  (try simp only [Act.put, List.getElem_toArray, List.getElem_cons_succ, List.getElem_cons_zero, List.setIfInBounds_toArray, List.set_cons_zero, List.set_cons_succ])
                  refine wpAnyH_take (i := 20) (v := ?ve21) rfl (by kernel_rfl) (by kernel_rfl) (by kernel_rfl) (fun _ _ _ h => h) (Or.inl ⟨by rfl, ?hye21⟩) (by assumption) ?reste21
                  case hye21 => (intro w hSw; (try dsimp only at hSw); go_simp; try with_reducible rfl)
                  (try simp only [Act.put, List.getElem_toArray, List.getElem_cons_succ, List.getElem_cons_zero, List.setIfInBounds_toArray, List.set_cons_zero, List.set_cons_succ])
                  refine wpAnyH_ready (rs := [21]) (by kernel_rfl) (by simp) ?_
                  refine AllReadyH.cons rfl (fun K hK => ?_) AllReadyH.nil
                  go_simp
                  refine hK.out _ _ (PartS.set2 (PartS.set1 (PartS.set0 hHeld))) (fun hHeld => ?_)
                  clear hK K
                  (try simp only [Act.put, List.getElem_toArray, List.getElem_cons_succ, List.getElem_cons_zero, List.setIfInBounds_toArray, List.set_cons_zero, List.set_cons_succ])
                  refine wpAnyH_take (i := 22) (v := ?ve23) rfl (by kernel_rfl) (by kernel_rfl) (by kernel_rfl) (fun _ _ _ h => h) (Or.inl ⟨by rfl, ?hye23⟩) (by assumption) ?reste23
                  case hye23 => (intro w hSw; (try dsimp only at hSw); go_simp; try with_reducible rfl)
                  (try simp only [Act.put, List.getElem_toArray, List.getElem_cons_succ, List.getElem_cons_zero, List.setIfInBounds_toArray, List.set_cons_zero, List.set_cons_succ])
                  refine wpAnyH_done (by kernel_rfl) ?_ _
                  refine NoPanic.normal ?_
                  generalize hw5 : World.setCell (World.setCell (World.setCell _ _ _) _ _) _ _ = w5 at hHeld ⊢
                  have hq : PartS w w.heap.size (n : Int) (m.toNat : Int) t w5 := hHeld
                  obtain ⟨hq1, d0, d1, d2, _⟩ := hq
                  clear hw5 hHeld c0 c1 c2 g0 g1 g2
                  go_wp2
                  refine bodyPost_ret (v := .tuple #[.agg #[.int .i64 (n : Int), .int .u8 (m.toNat : Int), S t], .bool tb]) ?_ rfl ?_
                  · simp [results, Tryd.results29, go_sem, d0, d1, d2]
                  · exact HRT.out _ hq1.1
                · have u2 : ((m.toNat : Int) == 32) = false := by rw [beq_eq_false_iff_ne]; omega
                  have HSP : Hid (sepB m = false) := by show _ = _; unfold sepB; exact decide_eq_false (by omega)
                  have HE := Lib.hid (fun w' (x1 x2 : Int) (x3 : List UInt8) (hb : Below w.heap.size w w') => rd_none (by rw [HLT.out, HSP.out, Bool.and_false]; rfl : lineR L = none) (w := w) (w' := w') x1 x2 x3 hb)
                  clear m45 m32
                  go_enter Tryd.func29, Tryd.ntmps29
                  go_wp2_with (first | (go_at_call 36; refine (HCS2.out _).mono ?_; rintro ee w1 ⟨rfl, rfl⟩; refine Hid.out ?_) | fail)
                  refine Lib.hid ?_
                  go_wp2_with (first | (go_at_call 37; refine (HDG.out _).mono ?_; rintro ee w2 ⟨rfl, hb⟩; refine Hid.out ?_) | fail)
                  refine Lib.hid ?_
                  have HB2 : Hid (Below w.heap.size w w2) := HBA.out.trans (hb.mono HBA.out.size)
                  have HX2 : Hid (w2.heap[w.heap.size]? = some (.cells #[.int .i64 0, .int .u8 0, .string ⟨#[]⟩] 48 (0, 0))) := (hb.block _ (heap_lt HBN.out)).trans HBN.out
                  clear hb
                  have hcells := HX2.out
                  have p0 : w2.cell? ⟨w.heap.size, 0, none⟩ = some (.int .i64 0) := by simp [World.cell?, hcells]
                  have p1 : w2.cell? ⟨w.heap.size, 1, none⟩ = some (.int .u8 0) := by simp [World.cell?, hcells]
                  have p2 : w2.cell? ⟨w.heap.size, 2, none⟩ = some (.string ⟨#[]⟩) := by simp [World.cell?, hcells]
                  have f0 : w2.frozen? ⟨w.heap.size, 0, none⟩ = false := by simp [World.frozen?, hcells]
                  have f1 : w2.frozen? ⟨w.heap.size, 1, none⟩ = false := by simp [World.frozen?, hcells]
                  have f2 : w2.frozen? ⟨w.heap.size, 2, none⟩ = false := by simp [World.frozen?, hcells]
                  clear hcells
                  go_wp2
                  go_region
                  go_wp2
                  generalize hw3 : World.drew (World.setCell _ _ _) = w3
                  have hP : PartS w w.heap.size (n : Int) (m.toNat : Int) t w3 := by rw [← hw3]; exact PartS.drew (PartS.write HB2.out (Nat.le_refl _) HX2.out)
                  have HP0 := Lib.hid hP
                  obtain ⟨_, c0, c1, c2, g0, g1, g2⟩ := hP
                  clear hw3 p0 p1 p2 f0 f1 f2 HX2
                  refine wp_region_noPanic ?_
                  refine wp_region_held_drew (S := (fun w' => (Below w.heap.size w w' ∧ w.heap.size ≤ w.heap.size ∧ w'.heap[w.heap.size]? = some (.cells #[.int .i64 (n : Int), .int .u8 (m.toNat : Int), S t] 48 (0, 0))) ∧ w'.cell? ⟨w.heap.size, 0, none⟩ = some (.int .i64 (n : Int)) ∧ w'.cell? ⟨w.heap.size, 1, none⟩ = some (.int .u8 (m.toNat : Int)) ∧ w'.cell? ⟨w.heap.size, 2, none⟩ = some (S t) ∧ w'.frozen? ⟨w.heap.size, 0, none⟩ = false ∧ w'.frozen? ⟨w.heap.size, 1, none⟩ = false ∧ w'.frozen? ⟨w.heap.size, 2, none⟩ = false)) (by kernel_rfl) (PartS.drew HP0.out) (fun hHeld => ?_)
                  refine wpAnyH_take (i := 0) (v := ?vf1) rfl (by kernel_rfl) (by kernel_rfl) (by kernel_rfl) (fun _ _ _ h => h) (Or.inl ⟨by rfl, ?hyf1⟩) (by assumption) ?restf1
                  case hyf1 => (intro w hSw; (try dsimp only at hSw); go_simp; try with_reducible rfl)
                  (try simp only [Act.put, List.getElem_toArray, List.getElem_cons_succ, List.getElem_cons_zero, List.setIfInBounds_toArray, List.set_cons_zero, List.set_cons_succ])
                  refine wpAnyH_take (i := 1) (v := ?vf2) rfl (by kernel_rfl) (by kernel_rfl) (by kernel_rfl) (fun _ _ _ h => h) (Or.inl ⟨by rfl, ?hyf2⟩) (by assumption) ?restf2
                  case hyf2 => (intro w hSw; (try dsimp only at hSw); go_simp; try with_reducible rfl)
                  (try simp only [Act.put, List.getElem_toArray, List.getElem_cons_succ, List.getElem_cons_zero, List.setIfInBounds_toArray, List.set_cons_zero, List.set_cons_succ])
                  refine wpAnyH_take (i := 2) (v := ?vf3) rfl (by kernel_rfl) (by kernel_rfl) (by kernel_rfl) (fun _ _ _ h => h) (Or.inl ⟨by rfl, ?hyf3⟩) (by assumption) ?restf3
                  case hyf3 => (intro w hSw; (try dsimp only at hSw); go_simp; try with_reducible rfl)
                  (try simp only [Act.put, List.getElem_toArray, List.getElem_cons_succ, List.getElem_cons_zero, List.setIfInBounds_toArray, List.set_cons_zero, List.set_cons_succ])
                  refine wpAnyH_take (i := 3) (v := ?vf4) rfl (by kernel_rfl) (by kernel_rfl) (by kernel_rfl) (fun _ _ _ h => h) (Or.inl ⟨by rfl, ?hyf4⟩) (by assumption) ?restf4
                  case hyf4 => (intro w hSw; (try dsimp only at hSw); go_simp; try with_reducible rfl)
                  (try simp only [Act.put, List.getElem_toArray, List.getElem_cons_succ, List.getElem_cons_zero, List.setIfInBounds_toArray, List.set_cons_zero, List.set_cons_succ])
                  refine wpAnyH_ready (rs := [4]) (by kernel_rfl) (by simp) ?_
                  refine AllReadyH.cons rfl (fun K hK => ?_) AllReadyH.nil
                  go_simp
                  go_wp2_with (first | (go_at_call 21; refine (HCD.out _).mono ?_; rintro ee w9 ⟨rfl, rfl⟩) | fail)
                  refine hK.out _ _ hHeld (fun hHeld => ?_)
                  clear hK K
                  (try simp only [Act.put, List.getElem_toArray, List.getElem_cons_succ, List.getElem_cons_zero, List.setIfInBounds_toArray, List.set_cons_zero, List.set_cons_succ])
                  refine wpAnyH_take (i := 5) (v := ?vf6) rfl (by kernel_rfl) (by kernel_rfl) (by kernel_rfl) (fun _ _ _ h => h) (Or.inl ⟨by rfl, ?hyf6⟩) (by assumption) ?restf6
                  case hyf6 => (intro w hSw; (try dsimp only at hSw); go_simp; try with_reducible rfl)
                  (try simp only [Act.put, List.getElem_toArray, List.getElem_cons_succ, List.getElem_cons_zero, List.setIfInBounds_toArray, List.set_cons_zero, List.set_cons_succ])
                  refine wpAnyH_take (i := 6) (v := ?vf7) rfl (by kernel_rfl) (by kernel_rfl) (by kernel_rfl) (fun _ _ _ h => h) (Or.inl ⟨by rfl, ?hyf7⟩) (by assumption) ?restf7
                  case hyf7 => (intro w hSw; (try dsimp only at hSw); go_simp; try with_reducible rfl)
                  (try simp only [Act.put, List.getElem_toArray, List.getElem_cons_succ, List.getElem_cons_zero, List.setIfInBounds_toArray, List.set_cons_zero, List.set_cons_succ])
                  refine wpAnyH_take (i := 7) (v := ?vf8) rfl (by kernel_rfl) (by kernel_rfl) (by kernel_rfl) (fun _ _ _ h => h) (Or.inl ⟨by rfl, ?hyf8⟩) (by assumption) ?restf8
                  case hyf8 => (intro w hSw; (try dsimp only at hSw); go_simp; try with_reducible rfl)
                  (try simp only [Act.put, List.getElem_toArray, List.getElem_cons_succ, List.getElem_cons_zero, List.setIfInBounds_toArray, List.set_cons_zero, List.set_cons_succ])
                  refine wpAnyH_take (i := 8) (v := ?vf9) rfl (by kernel_rfl) (by kernel_rfl) (by kernel_rfl) (fun _ _ _ h => h) (Or.inl ⟨by rfl, ?hyf9⟩) (by assumption) ?restf9
                  case hyf9 => (intro w hSw; (try dsimp only at hSw); go_simp; try with_reducible rfl)
                  (try simp only [Act.put, List.getElem_toArray, List.getElem_cons_succ, List.getElem_cons_zero, List.setIfInBounds_toArray, List.set_cons_zero, List.set_cons_succ])
                  refine wpAnyH_take (i := 9) (v := ?vf10) rfl (by kernel_rfl) (by kernel_rfl) (by kernel_rfl) (fun _ _ _ h => h) (Or.inl ⟨by rfl, ?hyf10⟩) (by assumption) ?restf10
                  case hyf10 => (intro w hSw; (try dsimp only at hSw); go_simp; try with_reducible rfl)
                  (try simp only [Act.put, List.getElem_toArray, List.getElem_cons_succ, List.getElem_cons_zero, List.setIfInBounds_toArray, List.set_cons_zero, List.set_cons_succ])
                  refine wpAnyH_take (i := 10) (v := ?vf11) rfl (by kernel_rfl) (by kernel_rfl) (by kernel_rfl) (fun _ _ _ h => h) (Or.inl ⟨by rfl, ?hyf11⟩) (by assumption) ?restf11
                  case hyf11 => (intro w hSw; (try dsimp only at hSw); go_simp; try with_reducible rfl)
                  (try simp only [Act.put, List.getElem_toArray, List.getElem_cons_succ, List.getElem_cons_zero, List.setIfInBounds_toArray, List.set_cons_zero, List.set_cons_succ])
                  refine wpAnyH_take (i := 11) (v := ?vf12) rfl (by kernel_rfl) (by kernel_rfl) (by kernel_rfl) (fun _ _ _ h => h) (Or.inl ⟨by rfl, ?hyf12⟩) (by assumption) ?restf12
                  case hyf12 => (intro w hSw; (try dsimp only at hSw); go_simp; try with_reducible rfl)
                  (try simp only [Act.put, List.getElem_toArray, List.getElem_cons_succ, List.getElem_cons_zero, List.setIfInBounds_toArray, List.set_cons_zero, List.set_cons_succ])
                  refine wpAnyH_take (i := 12) (v := ?vf13) rfl (by kernel_rfl) (by kernel_rfl) (by kernel_rfl) (fun _ _ _ h => h) (Or.inl ⟨by rfl, ?hyf13⟩) (by assumption) ?restf13
                  case hyf13 => (intro w hSw; (try dsimp only at hSw); go_simp; try with_reducible rfl)
                  (try simp only [Act.put, List.getElem_toArray, List.getElem_cons_succ, List.getElem_cons_zero, List.setIfInBounds_toArray, List.set_cons_zero, List.set_cons_succ])
                  refine wpAnyH_take (i := 13) (v := ?vf14) rfl (by kernel_rfl) (by kernel_rfl) (by kernel_rfl) (fun _ _ _ h => h) (Or.inl ⟨by rfl, ?hyf14⟩) (by assumption) ?restf14
                  case hyf14 => (intro w hSw; (try dsimp only at hSw); go_simp; try with_reducible rfl)
                  (try simp only [Act.put, List.getElem_toArray, List.getElem_cons_succ, List.getElem_cons_zero, List.setIfInBounds_toArray, List.set_cons_zero, List.set_cons_succ])
                  refine wpAnyH_take (i := 14) (v := ?vf15) rfl (by kernel_rfl) (by kernel_rfl) (by kernel_rfl) (fun _ _ _ h => h) (Or.inl ⟨by rfl, ?hyf15⟩) (by assumption) ?restf15
                  case hyf15 => (intro w hSw; (try dsimp only at hSw); go_simp; try with_reducible rfl)
                  (try simp only [Act.put, List.getElem_toArray, List.getElem_cons_succ, List.getElem_cons_zero, List.setIfInBounds_toArray, List.set_cons_zero, List.set_cons_succ])
                  refine wpAnyH_take (i := 15) (v := ?vf16) rfl (by kernel_rfl) (by kernel_rfl) (by kernel_rfl) (fun _ _ _ h => h) (Or.inl ⟨by rfl, ?hyf16⟩) (by assumption) ?restf16
                  case hyf16 => (intro w hSw; (try dsimp only at hSw); go_simp; try with_reducible rfl)
                  (try simp only [Act.put, List.getElem_toArray, List.getElem_cons_succ, List.getElem_cons_zero, List.setIfInBounds_toArray, List.set_cons_zero, List.set_cons_succ])
                  refine wpAnyH_take (i := 16) (v := ?vf17) rfl (by kernel_rfl) (by kernel_rfl) (by kernel_rfl) (fun _ _ _ h => h) (Or.inl ⟨by rfl, ?hyf17⟩) (by assumption) ?restf17
                  case hyf17 => (intro w hSw; (try dsimp only at hSw); go_simp; try with_reducible rfl)
                  (try simp only [Act.put, List.getElem_toArray, List.getElem_cons_succ, List.getElem_cons_zero, List.setIfInBounds_toArray, List.set_cons_zero, List.set_cons_succ])
                  refine wpAnyH_take (i := 17) (v := undef) rfl (by kernel_rfl) (by kernel_rfl) (by kernel_rfl) (fun _ _ _ h => h) (Or.inr ⟨by rfl, rfl⟩) (by assumption) ?_
                  (try simp only [Act.put, List.getElem_toArray, List.getElem_cons_succ, List.getElem_cons_zero, List.setIfInBounds_toArray, List.set_cons_zero, List.set_cons_succ])
                  refine wpAnyH_take (i := 18) (v := undef) rfl (by kernel_rfl) (by kernel_rfl) (by kernel_rfl) (fun _ _ _ h => h) (Or.inr ⟨by rfl, rfl⟩) (by assumption) ?_
                  (try simp only [Act.put, List.getElem_toArray, List.getElem_cons_succ, List.getElem_cons_zero, List.setIfInBounds_toArray, List.set_cons_zero, List.set_cons_succ])
                  refine wpAnyH_take (i := 19) (v := undef) rfl (by kernel_rfl) (by kernel_rfl) (by kernel_rfl) (fun _ _ _ h => h) (Or.inr ⟨by rfl, rfl⟩) (by assumption) ?_
                  (try simp only [Act.put, List.getElem_toArray, List.getElem_cons_succ, List.getElem_cons_zero, List.setIfInBounds_toArray, List.set_cons_zero, List.set_cons_succ])
                  refine wpAnyH_take (i := 20) (v := ?vf21) rfl (by kernel_rfl) (by kernel_rfl) (by kernel_rfl) (fun _ _ _ h => h) (Or.inl ⟨by rfl, ?hyf21⟩) (by assumption) ?restf21
                  case hyf21 => (intro w hSw; (try dsimp only at hSw); go_simp; try with_reducible rfl)
                  (try simp only [Act.put, List.getElem_toArray, List.getElem_cons_succ, List.getElem_cons_zero, List.setIfInBounds_toArray, List.set_cons_zero, List.set_cons_succ])
                  refine wpAnyH_ready (rs := [21]) (by kernel_rfl) (by simp) ?_
                  refine AllReadyH.cons rfl (fun K hK => ?_) AllReadyH.nil
                  go_simp
                  refine hK.out _ _ (PartS.set2 (PartS.set1 (PartS.set0 hHeld))) (fun hHeld => ?_)
                  clear hK K
                  (try simp only [Act.put, List.getElem_toArray, List.getElem_cons_succ, List.getElem_cons_zero, List.setIfInBounds_toArray, List.set_cons_zero, List.set_cons_succ])
                  refine wpAnyH_take (i := 22) (v := ?vf23) rfl (by kernel_rfl) (by kernel_rfl) (by kernel_rfl) (fun _ _ _ h => h) (Or.inl ⟨by rfl, ?hyf23⟩) (by assumption) ?restf23
                  case hyf23 => (intro w hSw; (try dsimp only at hSw); go_simp; try with_reducible rfl)
                  (try simp only [Act.put, List.getElem_toArray, List.getElem_cons_succ, List.getElem_cons_zero, List.setIfInBounds_toArray, List.set_cons_zero, List.set_cons_succ])
                  refine wpAnyH_done (by kernel_rfl) ?_ _
                  refine NoPanic.normal ?_
                  generalize hw5 : World.drew (World.setCell _ _ _) = w5 at hHeld ⊢
                  have hq : PartS w w.heap.size (n : Int) (m.toNat : Int) t w5 := hHeld
                  obtain ⟨hq1, d0, d1, d2, _⟩ := hq
                  clear hw5 hHeld c0 c1 c2 g0 g1 g2
                  go_wp2
                  refine bodyPost_ret (v := .tuple #[.agg #[.int .i64 (n : Int), .int .u8 (m.toNat : Int), S t], .bool false]) ?_ rfl ?_
                  · simp [results, Tryd.results29, go_sem, d0, d1, d2]
                  · exact HE.out _ _ _ _ hq1.1
end Go.Proofs.YthkabehojmncmaaDoor.Reply
