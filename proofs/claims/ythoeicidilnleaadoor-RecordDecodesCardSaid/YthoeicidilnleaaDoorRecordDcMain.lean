/-
  RECORD: the document's Decode.
-/
import Derived.Test.YthoeicidilnleaaDoorRecordDcBox
import Derived.Deep.DeepCutAuto
import Derived.Deep.CutBlock
namespace Go.Proofs.YthoeicidilnleaaDoor.Codec
open Go.RowKit

theorem sAsk_len (ok : Bool) (s : St) : (sAsk ok s).1.length ≤ s.1.length := by
  unfold sAsk sFail; split
  · exact Nat.le_refl _
  · split <;> exact Nat.le_refl _
theorem sNum_len (k : List UInt8) (s : St) : (sNum k s).2.1.length ≤ s.1.length := Nat.le_trans (sTook_len _ _ _) (sFixed_len k s)
theorem sTxt_len (k : List UInt8) (s : St) : (sTxt k s).2.1.length ≤ s.1.length := Nat.le_trans (sTook_len _ _ _) (sFixed_len k s)
theorem sMark_len (s : St) : (sMark s).2.1.length ≤ s.1.length := by
  have := sFixed_len [114] s
  unfold sMark sMk
  generalize sFixed [114] s = t at *
  obtain ⟨t1, t2⟩ := t
  dsimp only at *
  split
  · cases t1 with
    | nil => simp
    | cons c r => simp at this ⊢; omega
  · exact this
theorem sRc_len (s : St) : (sRc s).2.1.length ≤ s.1.length := Nat.le_trans (sAsk_len _ _) (Nat.le_trans (sTxt_len _ _) (sMark_len s))
theorem sRcs_len : ∀ (n : Nat) (s : St) (acc : List Rc), (sRcs n s acc).2.1.length ≤ s.1.length := by
  intro n
  induction n with
  | zero => intro s acc; exact Nat.le_refl _
  | succ n ih =>
    intro s acc
    rw [sRcs]; split
    · exact Nat.le_trans (ih _ _) (sRc_len s)
    · exact Nat.le_refl _
theorem lens (l : List UInt8) : (r1 l).1.length ≤ l.length ∧ (r2 l).2.1.length ≤ l.length ∧ (r3 l).2.1.length ≤ l.length ∧ (r4 l).1.length ≤ l.length ∧ (r5 l).2.1.length ≤ l.length ∧ (r6 l).1.length ≤ l.length ∧ (r7 l).2.1.length ≤ l.length ∧ (r8 l).2.1.length ≤ l.length ∧ (r9 l).1.length ≤ l.length ∧ (r10 l).1.length ≤ l.length ∧ (r11 l).1.length ≤ l.length := by
  have a1 : (r1 l).1.length ≤ l.length := sFixed_len _ _
  have a2 : (r2 l).2.1.length ≤ l.length := Nat.le_trans (sNum_len _ _) a1
  have a3 : (r3 l).2.1.length ≤ l.length := Nat.le_trans (sTxt_len _ _) a2
  have a4 : (r4 l).1.length ≤ l.length := Nat.le_trans (sAsk_len _ _) a3
  have a5 : (r5 l).2.1.length ≤ l.length := Nat.le_trans (sNum_len _ _) a4
  have a6 : (r6 l).1.length ≤ l.length := Nat.le_trans (sAsk_len _ _) a5
  have a7 : (r7 l).2.1.length ≤ l.length := Nat.le_trans (sRcs_len _ _ _) a6
  have a8 : (r8 l).2.1.length ≤ l.length := Nat.le_trans (sTxt_len _ _) a7
  have a9 : (r9 l).1.length ≤ l.length := Nat.le_trans (sFixed_len _ _) a8
  have a10 : (r10 l).1.length ≤ l.length := Nat.le_trans (sTook_len _ _ _) a9
  have a11 : (r11 l).1.length ≤ l.length := Nat.le_trans (sFixed_len _ _) a10
  exact ⟨a1, a2, a3, a4, a5, a6, a7, a8, a9, a10, a11⟩

theorem drew_cells {w : World} {k : Nat} {a b c d : Value} {t : TypeId} (h : w.heap[k]? = some (.cells #[a, b, c, d] t (0, 0))) :
    w.drew.cell? ⟨k, 0, none⟩ = some a ∧ w.drew.cell? ⟨k, 1, none⟩ = some b ∧ w.drew.cell? ⟨k, 2, none⟩ = some c ∧ w.drew.cell? ⟨k, 3, none⟩ = some d ∧ True :=
  let h := four_cells (w := w.drew) h
  ⟨h.1, h.2.1, h.2.2.1, h.2.2.2.1, trivial⟩
def DEnd (m : Msg) (z : Int) (w : World) (e : Ending) (w' : World) : Prop :=
  ∃ A q D c, e = .returned (.tuple #[msgV m A q D c, .int .i64 z]) ∧ ORow w' w.heap.size (.slice A m.rcpts.length q) m.rcpts.length (flatR m.rcpts) ∧ Owns w' w.heap.size (.slice D m.data.length c) m.data ∧ Below w.heap.size w w'

set_option maxHeartbeats 2000000 in
set_option maxRecDepth 100000 in
theorem xDecode (bv : Value) (l : List UInt8) (w : World) (h : Reads w bv l) (hl : l.length ≤ 140737488351232) :
    Calls Tryd.prog 16 #[bv] w (DEnd (refDec l).1 (refDec l).2 w) := by
  obtain ⟨a1, a2, a3, a4, a5, a6, a7, a8, a9, a10, a11⟩ := lens l
  have LL : Hid ((r1 l).1.length ≤ 200000000000000 ∧ (r2 l).2.1.length ≤ 200000000000000 ∧ (r3 l).2.1.length ≤ 200000000000000 ∧ (r4 l).1.length ≤ 200000000000000 ∧ (r5 l).2.1.length ≤ 200000000000000 ∧ (r6 l).1.length ≤ 200000000000000 ∧ (r7 l).2.1.length ≤ 200000000000000 ∧ (r8 l).2.1.length ≤ 200000000000000 ∧ (r9 l).1.length ≤ 200000000000000 ∧ (r10 l).1.length ≤ 200000000000000 ∧ (r11 l).1.length ≤ 200000000000000 ∧ l.length ≤ 200000000000000) := by
    unfold Hid; refine ⟨?_, ?_, ?_, ?_, ?_, ?_, ?_, ?_, ?_, ?_, ?_, ?_⟩ <;> omega
  clear a1 a2 a3 a4 a5 a6 a7 a8 a9 a10 a11
  have F34 : Hid (∀ (k : ByteArray) s wx, k.size ≤ 1000 → Sx wx (w.heap.size + 1) s w.heap.size → s.1.length ≤ 200000000000000 → Calls Tryd.prog 34 #[.pointer (some ⟨w.heap.size + 1, 0, none⟩), .string k] wx fun e w' => (∃ r, e = .returned r) ∧ Sx w' (w.heap.size + 1) (sFixed k.data.toList s) w.heap.size ∧ KeepX (w.heap.size + 1) wx w') := fun k s wx hk h1 h2 => xFixed _ _ k s wx h1 h2 hk
  have F35 : Hid (∀ (k : ByteArray) s wx, k.size ≤ 1000 → Sx wx (w.heap.size + 1) s w.heap.size → s.1.length ≤ 200000000000000 → Calls Tryd.prog 35 #[.pointer (some ⟨w.heap.size + 1, 0, none⟩), .string k] wx fun e w' => e = .returned (.int .i64 (sNum k.data.toList s).1) ∧ Sx w' (w.heap.size + 1) (sNum k.data.toList s).2 w.heap.size ∧ KeepX (w.heap.size + 1) wx w') := fun k s wx hk h1 h2 => xNum _ _ k s wx h1 h2 hk
  have F36 : Hid (∀ (k : ByteArray) s wx, k.size ≤ 1000 → Sx wx (w.heap.size + 1) s w.heap.size → s.1.length ≤ 200000000000000 → Calls Tryd.prog 36 #[.pointer (some ⟨w.heap.size + 1, 0, none⟩), .string k] wx fun e w' => e = .returned (.string ⟨(sTxt k.data.toList s).1.toArray⟩) ∧ Sx w' (w.heap.size + 1) (sTxt k.data.toList s).2 w.heap.size ∧ KeepX (w.heap.size + 1) wx w') := fun k s wx hk h1 h2 => xTxt _ _ k s wx h1 h2 hk
  have F37 : Hid (∀ z s wx, Sx wx (w.heap.size + 1) s w.heap.size → Calls Tryd.prog 37 #[.pointer (some ⟨w.heap.size + 1, 0, none⟩), .int .i64 z] wx fun e w' => (∃ r, e = .returned r) ∧ Sx w' (w.heap.size + 1) (sFail z s) w.heap.size ∧ KeepX (w.heap.size + 1) wx w') := fun z s wx h1 => xFail _ _ z s wx h1
  have F38 : Hid (∀ s wx, Sx wx (w.heap.size + 1) s w.heap.size → s.1.length ≤ 200000000000000 → Calls Tryd.prog 38 #[.pointer (some ⟨w.heap.size + 1, 0, none⟩)] wx fun e w' => e = .returned (.int .u8 ((sMark s).1.toNat : Int)) ∧ Sx w' (w.heap.size + 1) (sMark s).2 w.heap.size ∧ KeepX (w.heap.size + 1) wx w') := fun s wx h1 h2 => xMark _ _ s wx h1 h2
  have F32 := Lib.hid rIsAddr
  have ho : l ≠ [] → Old w.heap.size bv := fun hne a ha => by
    rcases h with ⟨h0, _⟩ | ⟨b, o, c, rfl, _, hc⟩
    · exact absurd h0 hne
    · have hlp : 0 < l.length := List.length_pos_iff.2 hne
      have := cell_lt (hc 0 hlp)
      have e : b = a := by simpa [Value.ownBlock] using ha
      omega
  obtain ⟨A0, cc0, rfl⟩ := h.form
  obtain ⟨w0, hw0⟩ : ∃ w0, w0 = (((w.alloc (.cells #[.int .i64 0, .string ⟨#[]⟩, .slice none 0 0, .slice none 0 0] 25)).alloc (.cells #[.slice A0 l.length cc0, .int .i64 0] 58)).alloc (.cells #[.int .i64 0, .string ⟨#[]⟩, .slice none 0 0, .slice none 0 0] 25)) := ⟨_, rfl⟩
  have D0 : Hid (DX w w0 (l, 0) 0 ⟨#[]⟩ [] (.slice none 0 0) (.slice none 0 0)) := by
    have hbl : Below w.heap.size w w0 := by rw [hw0]; exact ((Below.alloc1 w _).alloc (by simp) _).alloc (by simp; omega) _
    refine ⟨⟨_, ?_, h.on hbl, ho, by omega⟩, ?_, ?_, World.ownsRow_nil _ _ 41 2, hbl⟩
    · rw [hw0, Below.heap_alloc _ _ _ (by simp)]
      have := heap_alloc_new (w.alloc (.cells #[.int .i64 0, .string ⟨#[]⟩, .slice none 0 0, .slice none 0 0] 25)) (.cells #[.slice A0 l.length cc0, .int .i64 0] 58)
      simpa using this
    · rw [hw0]
      have := heap_alloc_new ((w.alloc (.cells #[.int .i64 0, .string ⟨#[]⟩, .slice none 0 0, .slice none 0 0] 25)).alloc (.cells #[.slice A0 l.length cc0, .int .i64 0] 58)) (.cells #[.int .i64 0, .string ⟨#[]⟩, .slice none 0 0, .slice none 0 0] 25)
      simpa using this
    · rw [hw0, Below.heap_alloc _ _ _ (by simp; omega), Below.heap_alloc _ _ _ (by simp)]; exact heap_alloc_new w _
  have HW := Lib.hid hw0
  clear hw0 h ho
  go_enter Tryd.func16, Tryd.ntmps16
  go_wp2_with (go_at_call 34; rw [← HW.out]; refine (F34.out _ _ _ (by decide) D0.out.1 LL.out.2.2.2.2.2.2.2.2.2.2.2).mono ?_; rintro ee w1 ⟨⟨q1, rfl⟩, s1, k1⟩; refine Hid.out ?_)
  refine Lib.hid ?_
  have D1 : Hid (DX w w1 (r1 l) 0 ⟨#[]⟩ [] (.slice none 0 0) (.slice none 0 0)) := D0.out.step s1 k1
  clear s1 k1
  obtain ⟨p0, p1, p2, p3, y0, y1, y2, y3⟩ := D1.out.cells
  go_wp2_with (go_at_call 35; refine (F35.out _ _ _ (by decide) D1.out.1 LL.out.1).mono ?_; rintro ee w2 ⟨rfl, s2, k2⟩; refine Hid.out ?_)
  refine Lib.hid ?_
  have D2 := D1.out.step s2 k2
  have D2' : Hid (DX w (w2.setCell ⟨w.heap.size + 1 + 1, 0, none⟩ (.int .i64 (r2 l).1)) (r2 l).2 (r2 l).1 ⟨#[]⟩ [] (.slice none 0 0) (.slice none 0 0)) := D2.setM 0 _ rfl D2.2.2.2.1
  have e2 : Hid ((sNum (⟨#[116]⟩ : ByteArray).data.toList (r1 l)).1 = (r2 l).1) := rfl
  clear s2 k2 p0 p1 p2 p3 y0 y1 y2 y3
  obtain ⟨p0, p1, p2, p3, y0, y1, y2, y3⟩ := D2.cells
  obtain ⟨u0, u1, u2, u3, v0, v1, v2, v3⟩ := D2'.out.cells
  rw [e2.out]
  clear D2 e2
  go_wp2_with (go_at_call 36; refine (F36.out _ _ _ (by decide) D2'.out.1 LL.out.2.1).mono ?_; rintro ee w3 ⟨rfl, s3, k3⟩; refine Hid.out ?_)
  refine Lib.hid ?_
  have D3 := D2'.out.step s3 k3
  obtain ⟨S, hS⟩ : ∃ S : ByteArray, S = ⟨(r3 l).1.toArray⟩ := ⟨_, rfl⟩
  have D3' : Hid (DX w (w3.setCell ⟨w.heap.size + 1 + 1, 1, none⟩ (.string S)) (r3 l).2 (r2 l).1 S [] (.slice none 0 0) (.slice none 0 0)) := D3.setM 1 _ rfl D3.2.2.2.1
  have e3 : Hid ((⟨(sTxt (⟨#[102]⟩ : ByteArray).data.toList (r2 l).2).1.toArray⟩ : ByteArray) = S) := hS.symm
  have HS := Lib.hid hS
  have HSs : Hid (S.size ≤ 200000000000000) := by unfold Hid; rw [hS]; have := text_len_any (sFixed [102] (r2 l).2).1; have e : (⟨(r3 l).1.toArray⟩ : ByteArray).size = (r3 l).1.length := List.size_toArray; rw [e]; exact Nat.le_trans this (by omega)
  have HSl : Hid (S.data.toList = (r3 l).1) := by unfold Hid; rw [hS]
  clear s3 k3 p0 p1 p2 p3 y0 y1 y2 y3 u0 u1 u2 u3 v0 v1 v2 v3 hS
  obtain ⟨p0, p1, p2, p3, y0, y1, y2, y3⟩ := D3.cells
  rw [e3.out]
  clear e3 D3
  go_upto_region 6 with fail
  clear p0 p1 p2 p3 y0 y1 y2 y3
  go_cut [6] (fun s6 wx => s6 = .bool (fromB (r3 l).1) ∧ Hid (DX w wx (r3 l).2 (r2 l).1 S [] (.slice none 0 0) (.slice none 0 0)))
  case first =>
    obtain ⟨u0, u1, u2, u3, v0, v1, v2, v3⟩ := D3'.out.cells
    by_cases h0 : S.size = 0
    · obtain rfl := str_empty h0
      have hf : Hid (fromB (r3 l).1 = true) := by unfold Hid; rw [← HSl.out]; rfl
      clear h0
      go_wp2_with fail
      go_meet
      exact ⟨by rw [hf.out], D3'⟩
    · obtain ⟨e1, e1'⟩ := str_ne h0
      have hf : Hid (fromB (r3 l).1 = addrB S.data.toList) := by
        unfold Hid fromB; rw [HSl.out]
        have : (r3 l).1.isEmpty = false := by
          rw [← HSl.out]
          cases hd : S.data.toList with
          | nil => exact absurd (by rw [show S.size = S.data.toList.length from (Array.length_toList).symm, hd]; rfl) h0
          | cons _ _ => rfl
        rw [this]; rfl
      go_wp2_with (go_at_call 32; refine (F32.out S _ HSs.out).mono ?_; rintro e w' ⟨rfl, rfl⟩; refine Hid.out ?_)
      refine Lib.hid ?_
      go_wp2_with fail
      go_meet
      exact ⟨by rw [hf.out], D3'⟩
  case rest =>
    obtain ⟨rfl, hD3⟩ := hcut
    clear D3'
    go_upto_if 35 with fail
    go_cut [6] (fun _ wx => Hid (DX w wx (r4 l) (r2 l).1 S [] (.slice none 0 0) (.slice none 0 0)))
    case first =>
      cases hb : fromB (r3 l).1 with
      | true =>
        have h4 : Hid (r4 l = (r3 l).2) := by unfold Hid r4 sAsk; rw [hb]; rfl
        clear hb
        go_wp2_with fail
        go_meet
        unfold Hid at *
        rw [h4]; exact hD3
      | false =>
        have h4 : Hid (r4 l = sFail 30 (r3 l).2) := by unfold Hid r4 sAsk; rw [hb]; rfl
        clear hb
        go_wp2_with (go_at_call 37; refine (F37.out 30 _ _ hD3.out.1).mono ?_; rintro ee w4 ⟨⟨q4, rfl⟩, s4, k4⟩; refine Hid.out ?_)
        refine Lib.hid ?_
        go_wp2_with fail
        go_meet
        have := hD3.out.step s4 k4
        unfold Hid at *
        rw [h4]; exact this
    case rest =>
      have hD4 := hcut
      go_wp2_with (go_at_call 35; refine (F35.out ⟨#[110]⟩ _ _ (by decide) hD4.out.1 LL.out.2.2.2.1).mono ?_; rintro ee w5 ⟨rfl, s5, k5⟩; refine Hid.out ?_)
      refine Lib.hid ?_
      have hD5 : Hid (DX w w5 (r5 l).2 (r2 l).1 S [] (.slice none 0 0) (.slice none 0 0)) := hD4.out.step s5 k5
      have e5 : Hid ((sNum (⟨#[110]⟩ : ByteArray).data.toList (r4 l)).1 = (r5 l).1) := rfl
      rw [e5.out]
      clear s5 k5 hD4 hcut hD3 e5
      go_upto_region 10 with fail
      go_cut [45] (fun s45 wx => s45 = .bool (!decide (1 ≤ (r5 l).1 ∧ (r5 l).1 ≤ 200)) ∧ Hid (DX w wx (r5 l).2 (r2 l).1 S [] (.slice none 0 0) (.slice none 0 0)))
      case first =>
        by_cases b1 : (r5 l).1 < 1
        · have hb : Hid ((!decide (1 ≤ (r5 l).1 ∧ (r5 l).1 ≤ 200)) = true) := by unfold Hid; simp; omega
          go_wp2_with fail
          go_meet
          exact ⟨by rw [hb.out], hD5⟩
        · by_cases b2 : 200 < (r5 l).1
          · have hb : Hid ((!decide (1 ≤ (r5 l).1 ∧ (r5 l).1 ≤ 200)) = true) := by unfold Hid; simp; omega
            go_wp2_with fail
            go_meet
            exact ⟨by rw [hb.out], hD5⟩
          · have hb : Hid ((!decide (1 ≤ (r5 l).1 ∧ (r5 l).1 ≤ 200)) = false) := by unfold Hid; simp; omega
            go_wp2_with fail
            go_meet
            exact ⟨by rw [hb.out], hD5⟩
      case rest =>
        obtain ⟨rfl, hD5'⟩ := hcut
        clear hD5
        go_upto_if 45 with fail
        go_cut [6] (fun _ wx => Hid (DX w wx (r6 l) (r2 l).1 S [] (.slice none 0 0) (.slice none 0 0)))
        case first =>
          cases hb : decide (1 ≤ (r5 l).1 ∧ (r5 l).1 ≤ 200) with
          | true =>
            have h6 : Hid (r6 l = (r5 l).2) := by unfold Hid r6 sAsk; rw [hb]; rfl
            clear hb
            go_wp2_with fail
            go_meet
            unfold Hid at *
            rw [h6]; exact hD5'
          | false =>
            have h6 : Hid (r6 l = sFail 30 (r5 l).2) := by unfold Hid r6 sAsk; rw [hb]; rfl
            clear hb
            go_wp2_with (go_at_call 37; refine (F37.out 30 _ _ hD5'.out.1).mono ?_; rintro ee w4 ⟨⟨q4, rfl⟩, s4, k4⟩; refine Hid.out ?_)
            refine Lib.hid ?_
            go_wp2_with fail
            go_meet
            have := hD5'.out.step s4 k4
            unfold Hid at *
            rw [h6]; exact this
        case rest =>
          have hD6 := hcut
          clear hcut hD5'
          have hM0 : Hid (0 ≤ (r5 l).1 ∧ (r5 l).1 ≤ 9007199254740992) := by
            unfold Hid r5 sNum; dsimp only
            rcases takeNumber_cases (sFixed [110] (r4 l)).1 with ⟨z, h1, h2, h3⟩ | ⟨n, k, h1, h2, h3, h4⟩
            · rw [h3]; exact ⟨by simp, by simp⟩
            · rw [h4]; dsimp only; omega
          have h200 : Hid ((r6 l).2 = 0 → (r5 l).1 ≤ 200) := by
            unfold Hid r6 sAsk sFail; intro h
            by_cases hb : 1 ≤ (r5 l).1 ∧ (r5 l).1 ≤ 200
            · exact hb.2
            · rw [if_neg (by simpa using hb)] at h
              split at h
              · exact absurd h (by simp)
              · exact absurd h (by assumption)
          have hL6 : Hid ((r6 l).1.length ≤ 200000000000000) := LL.out.2.2.2.2.2.1
          have hR6 : Hid (r7 l = sRcs ((r5 l).1.toNat - 0) (r6 l) []) := rfl
          go_upto_block 0 with fail
          go_cut [8] (fun _ wx => ∃ A q, Hid (DX w wx (r7 l).2 (r2 l).1 S (r7 l).1 (.slice A (r7 l).1.length q) (.slice none 0 0)))
          case first =>
            go_wp2_with fail
            go_loopw [8] (fun i wr => ∃ (k : Nat) (u : St) (rs : List Rc) (A : Option Addr) (q : Nat), k ≤ (r5 l).1.toNat ∧ i = .int .i64 k ∧ Hid (DX w wr u (r2 l).1 S rs (.slice A k q) (.slice none 0 0)) ∧ Hid (rs.length = k) ∧ Hid (r7 l = sRcs ((r5 l).1.toNat - k) u rs) ∧ Hid (u.1.length ≤ 200000000000000) ∧ Hid (u.2 = 0 → (r5 l).1 ≤ 200)) (fun i _ => (r5 l).1.toNat - (intOf i).toNat)
            case atStart => exact ⟨0, r6 l, [], none, 0, by omega, rfl, hD6, rfl, hR6, hL6, h200⟩
            case round =>
              obtain ⟨k, u, rs, A, q, hk, rfl, hD, hrs, hrun, hul, hu2⟩ := hrel
              obtain ⟨bv, c0, c1, _⟩ := hD.out.rd
              by_cases hlt : (k : Int) < (r5 l).1
              · by_cases h0 : u.2 = 0
                · have e0 : (u.2 == 0) = true := by simpa using h0
                  have hrun2 : Hid (r7 l = sRcs ((r5 l).1.toNat - (k + 1)) (sRc u).2 (rs ++ [(sRc u).1])) := by
                    unfold Hid; rw [hrun.out, show (r5 l).1.toNat - k = ((r5 l).1.toNat - (k + 1)) + 1 by omega, sRcs, if_pos h0]
                  have hk200 : Hid (k ≤ 200) := by have := hu2.out h0; unfold Hid; omega
                  have hk2 : k ≤ 200 := hk200.out
                  obtain ⟨T, hT⟩ : ∃ T : ByteArray, T = ⟨(sTxt [] (sMark u).2).1.toArray⟩ := ⟨_, rfl⟩
                  obtain ⟨mm, hmm⟩ : ∃ mm : Int, mm = ((sMark u).1.toNat : Int) := ⟨_, rfl⟩
                  have HT := Lib.hid hT
                  have HM := Lib.hid hmm
                  have HTs : Hid (T.size ≤ 200000000000000) := by unfold Hid; rw [hT]; have := text_len_any (sFixed [] (sMark u).2).1; have e : (⟨(sTxt [] (sMark u).2).1.toArray⟩ : ByteArray).size = (sTxt [] (sMark u).2).1.length := List.size_toArray; rw [e]; exact Nat.le_trans this (by omega)
                  have hc : Hid (sRc u = ((T, (sMark u).1), sAsk (addrB T.data.toList) (sTxt [] (sMark u).2).2)) := by unfold Hid; rw [hT]; rfl
                  have hlm : Hid ((sMark u).2.1.length ≤ 200000000000000) := Nat.le_trans (sMark_len u) hul.out
                  have hlc : Hid ((sRc u).2.1.length ≤ 200000000000000) := Nat.le_trans (sRc_len u) hul.out
                  have hl2 : Hid ((sRc u).2.2 = 0 → (r5 l).1 ≤ 200) := fun _ => hu2.out h0
                  have hX3 : w.heap.size + 3 ≤ wr.heap.size := by have := heap_lt hD.out.2.1; omega
                  have hXr : Hid (∀ b, (Value.slice A k q).ownBlock = some b → b ≠ wr.heap.size) := fun b hb => by have := (hD.out.2.2.2.1.ge b hb).2; omega
                  have a0 : Below wr.heap.size wr (wr.alloc (.cells #[.string ⟨#[]⟩, .int .u8 0] 41)) := Below.alloc1 _ _
                  have DA0 := hD.out.on a0
                  have hx0 : (wr.alloc (.cells #[.string ⟨#[]⟩, .int .u8 0] 41)).heap[wr.heap.size]? = some (.cells #[.string ⟨#[]⟩, .int .u8 0] 41 (0, 0)) := heap_alloc_new wr _
                  have HA0 := Lib.hid DA0
                  have HX0 := Lib.hid hx0
                  have HX3 := Lib.hid hX3
                  clear h0 hT hmm a0 DA0 hx0 hX3 c0 c1
                  obtain ⟨bv, c0, c1, _⟩ := hD.out.rd
                  go_wp2_with (go_at_call 38; refine (F38.out _ _ HA0.out.1 hul.out).mono ?_; rintro ee wA ⟨rfl, sA, kA⟩; refine Hid.out ?_)
                  refine Lib.hid ?_
                  rw [← HM.out]
                  have DA := HA0.out.step sA kA
                  have xA : wA.heap[wr.heap.size]? = some (.cells #[.string ⟨#[]⟩, .int .u8 0] 41 (0, 0)) := by rw [kA.block _ (by simp) (by have := HX3.out; omega)]; exact HX0.out
                  have DB := Lib.hid (DA.setX HX3.out (heap_lt xA) hXr.out 1 (.int .u8 mm))
                  have xB : (wA.setCell ⟨wr.heap.size, 1, none⟩ (.int .u8 mm)).heap[wr.heap.size]? = some (.cells #[.string ⟨#[]⟩, .int .u8 mm] 41 (0, 0)) := by rw [heap_setCell_same wA _ 1 _ _ _ xA]; rfl
                  have XB := Lib.hid xB
                  clear c0 c1 sA kA DA xB
                  obtain ⟨t0, t1, t2, t3⟩ := two_cells xA
                  clear xA
                  go_wp2_with (go_at_call 36; refine (F36.out ⟨#[]⟩ _ _ (by decide) DB.out.1 hlm.out).mono ?_; rintro ee wC ⟨rfl, sC, kC⟩; refine Hid.out ?_)
                  refine Lib.hid ?_
                  have eC : Hid ((⟨(sTxt (⟨#[]⟩ : ByteArray).data.toList (sMark u).2).1.toArray⟩ : ByteArray) = T) := HT.out.symm
                  rw [eC.out]
                  have DC := DB.out.step sC kC
                  have xC : wC.heap[wr.heap.size]? = some (.cells #[.string ⟨#[]⟩, .int .u8 mm] 41 (0, 0)) := by rw [kC.block _ (heap_lt XB.out) (by have := HX3.out; omega)]; exact XB.out
                  have DD := Lib.hid (DC.setX HX3.out (heap_lt xC) hXr.out 0 (.string T))
                  have xD : (wC.setCell ⟨wr.heap.size, 0, none⟩ (.string T)).heap[wr.heap.size]? = some (.cells #[.string T, .int .u8 mm] 41 (0, 0)) := by rw [heap_setCell_same wC _ 0 _ _ _ xC]; rfl
                  have XD := Lib.hid xD
                  clear t0 t1 t2 t3 sC kC DC eC
                  obtain ⟨t0, t1, t2, t3⟩ := two_cells xC
                  obtain ⟨z0, z1, z2, z3⟩ := two_cells xD
                  clear xC xD
                  go_wp2_with (go_at_call 32; refine (F32.out T _ HTs.out).mono ?_; rintro ee wE ⟨rfl, rfl⟩; refine Hid.out ?_)
                  refine Lib.hid ?_
                  clear t0 t1 t2 t3 z0 z1 z2 z3
                  generalize hwd : wC.setCell ⟨wr.heap.size, 0, none⟩ (.string T) = wD at *
                  clear hwd
                  cases hb : addrB T.data.toList with
                  | true =>
                    have hst : Hid ((sRc u).2 = (sTxt [] (sMark u).2).2) := by unfold Hid; rw [hc.out, hb]; rfl
                    clear hb
                    have DQ : Hid (DX w wD (sRc u).2 (r2 l).1 S rs (.slice A k q) (.slice none 0 0)) := by unfold Hid; rw [hst.out]; exact DD.out
                    have a1 : Below wD.heap.size wD (wD.alloc (.cells #[.string T, .int .u8 mm] 41)) := Below.alloc1 _ _
                    have DQ1 := Lib.hid (DQ.out.on a1)
                    have g0 : Hid ((wD.alloc (.cells #[.string T, .int .u8 mm] 41)).cell? ⟨wD.heap.size, 0, none⟩ = some (.string (T, (sMark u).1).1)) := by unfold Hid; go_simp
                    have g1 : Hid ((wD.alloc (.cells #[.string T, .int .u8 mm] 41)).cell? ⟨wD.heap.size, 1, none⟩ = some (.int .u8 ((T, (sMark u).1).2.toNat : Int))) := by unfold Hid; dsimp only; rw [← HM.out]; go_simp
                    have hlim : Hid (rs.length ≤ 1000) := by have := hrs.out; have := hk200.out; unfold Hid; omega
                    have hBB : Hid (w.heap.size + 3 ≤ (wD.alloc (.cells #[.string T, .int .u8 mm] 41)).heap.size) := by have := heap_lt DQ.out.2.1; unfold Hid; simp; omega
                    have hlen : Hid ((rs ++ [(T, (sMark u).1)]).length = k + 1) := by unfold Hid; rw [List.length_append, hrs.out]; rfl
                    clear a1 hst
                    obtain ⟨p0, p1, p2, p3, y0, y1, y2, y3⟩ := DQ.out.cells
                    obtain ⟨z0, z1, z2, z3⟩ := two_cells XD.out
                    go_wp2_with (at_builtin; refine wp_append_rc _ rfl (.tmp 75) (.tmp 77) rfl (w.heap.size + 3) _ rs rs.length (T, (sMark u).1) wD.heap.size 1 rfl rfl rfl DQ1.out.2.2.2.1 g0.out g1.out hlim.out hBB.out ?_; intro v' wF own' bF; refine Hid.out ?_)
                    refine Lib.hid ?_
                    obtain ⟨A', q', rfl⟩ := own'.form'
                    have DG := Lib.hid (DQ1.out.grow bF own')
                    rw [hlen.out] at DG
                    rw [hlen.out]
                    have eF : wF.heap[w.heap.size + 1 + 1]? = _ := (bF.block _ (by omega)).trans DQ1.out.2.1
                    clear p0 p1 p2 p3 y0 y1 y2 y3 z0 z1 z2 z3 own' bF
                    obtain ⟨p0, p1, p2, p3, y0, y1, y2, y3⟩ := four_cells eF
                    clear eF
                    have hrun3 : Hid (r7 l = sRcs ((r5 l).1.toNat - (k + 1)) (sRc u).2 (rs ++ [(T, (sMark u).1)])) := by
                      have := hrun2.out
                      unfold Hid
                      rw [hc.out] at this ⊢
                      exact this
                    go_wp2
                    go_roundw
                    case rel => exact ⟨k + 1, (sRc u).2, _, A', q', by omega, by go_num, DG, hlen, hrun3, hlc, hl2⟩
                    case measure => simp [intOf]; omega
                  | false =>
                    have hst : Hid ((sRc u).2 = sFail 30 (sTxt [] (sMark u).2).2) := by unfold Hid; rw [hc.out, hb]; rfl
                    clear hb
                    go_wp2_with (go_at_call 37; refine (F37.out 30 _ _ DD.out.1).mono ?_; rintro ee wE ⟨⟨qE, rfl⟩, sE, kE⟩; refine Hid.out ?_)
                    refine Lib.hid ?_
                    have DE := Lib.hid (DD.out.step sE kE)
                    have XE : Hid (wE.heap[wr.heap.size]? = some (.cells #[.string T, .int .u8 mm] 41 (0, 0))) := by unfold Hid; rw [kE.block _ (heap_lt XD.out) (by have := HX3.out; omega)]; exact XD.out
                    clear sE kE
                    have DQ : Hid (DX w wE (sRc u).2 (r2 l).1 S rs (.slice A k q) (.slice none 0 0)) := by unfold Hid; rw [hst.out]; exact DE.out
                    have a1 : Below wE.heap.size wE (wE.alloc (.cells #[.string T, .int .u8 mm] 41)) := Below.alloc1 _ _
                    have DQ1 := Lib.hid (DQ.out.on a1)
                    have g0 : Hid ((wE.alloc (.cells #[.string T, .int .u8 mm] 41)).cell? ⟨wE.heap.size, 0, none⟩ = some (.string (T, (sMark u).1).1)) := by unfold Hid; go_simp
                    have g1 : Hid ((wE.alloc (.cells #[.string T, .int .u8 mm] 41)).cell? ⟨wE.heap.size, 1, none⟩ = some (.int .u8 ((T, (sMark u).1).2.toNat : Int))) := by unfold Hid; dsimp only; rw [← HM.out]; go_simp
                    have hlim : Hid (rs.length ≤ 1000) := by have := hrs.out; have := hk200.out; unfold Hid; omega
                    have hBB : Hid (w.heap.size + 3 ≤ (wE.alloc (.cells #[.string T, .int .u8 mm] 41)).heap.size) := by have := heap_lt DQ.out.2.1; unfold Hid; simp; omega
                    have hlen : Hid ((rs ++ [(T, (sMark u).1)]).length = k + 1) := by unfold Hid; rw [List.length_append, hrs.out]; rfl
                    clear a1 hst
                    obtain ⟨p0, p1, p2, p3, y0, y1, y2, y3⟩ := DQ.out.cells
                    obtain ⟨z0, z1, z2, z3⟩ := two_cells XE.out
                    go_wp2_with (at_builtin; refine wp_append_rc _ rfl (.tmp 75) (.tmp 77) rfl (w.heap.size + 3) _ rs rs.length (T, (sMark u).1) wE.heap.size 1 rfl rfl rfl DQ1.out.2.2.2.1 g0.out g1.out hlim.out hBB.out ?_; intro v' wF own' bF; refine Hid.out ?_)
                    refine Lib.hid ?_
                    obtain ⟨A', q', rfl⟩ := own'.form'
                    have DG := Lib.hid (DQ1.out.grow bF own')
                    rw [hlen.out] at DG
                    rw [hlen.out]
                    have eF : wF.heap[w.heap.size + 1 + 1]? = _ := (bF.block _ (by omega)).trans DQ1.out.2.1
                    clear p0 p1 p2 p3 y0 y1 y2 y3 z0 z1 z2 z3 own' bF
                    obtain ⟨p0, p1, p2, p3, y0, y1, y2, y3⟩ := four_cells eF
                    clear eF
                    have hrun3 : Hid (r7 l = sRcs ((r5 l).1.toNat - (k + 1)) (sRc u).2 (rs ++ [(T, (sMark u).1)])) := by
                      have := hrun2.out
                      unfold Hid
                      rw [hc.out] at this ⊢
                      exact this
                    go_wp2
                    go_roundw
                    case rel => exact ⟨k + 1, (sRc u).2, _, A', q', by omega, by go_num, DG, hlen, hrun3, hlc, hl2⟩
                    case measure => simp [intOf]; omega
                · have e0 : (u.2 == 0) = false := by simpa using h0
                  have hF : Hid (r7 l = (rs, u)) := by unfold Hid; rw [hrun.out, sRcs_st h0]
                  clear h0
                  go_wp2_with fail
                  go_meet
                  refine ⟨A, q, ?_⟩
                  unfold Hid at *
                  rw [hF]; dsimp only; rw [hrs]; exact hD
              · have hF : Hid (r7 l = (rs, u)) := by unfold Hid; rw [hrun.out, show (r5 l).1.toNat - k = 0 by omega]; rfl
                go_wp2_with fail
                go_meet
                refine ⟨A, q, ?_⟩
                unfold Hid at *
                rw [hF]; dsimp only; rw [hrs]; exact hD
          case rest =>
            obtain ⟨A, q, hD7⟩ := hcut
            clear hD6 hR6 hL6 h200 hM0
            go_wp2_with (go_at_call 36; refine (F36.out ⟨#[100]⟩ _ _ (by decide) hD7.out.1 LL.out.2.2.2.2.2.2.1).mono ?_; rintro ee w8 ⟨rfl, s8, k8⟩; refine Hid.out ?_)
            refine Lib.hid ?_
            obtain ⟨Dd, hDd⟩ : ∃ Dd : ByteArray, Dd = ⟨(r8 l).1.toArray⟩ := ⟨_, rfl⟩
            have e8 : Hid ((⟨(sTxt (⟨#[100]⟩ : ByteArray).data.toList (r7 l).2).1.toArray⟩ : ByteArray) = Dd) := hDd.symm
            have hD8 : Hid (DX w w8 (r8 l).2 (r2 l).1 S (r7 l).1 (.slice A (r7 l).1.length q) (.slice none 0 0)) := hD7.out.step s8 k8
            have HDs : Hid (Dd.size ≤ 1048576) := by unfold Hid; rw [hDd]; have := text_len_any (sFixed [100] (r7 l).2).1; have e : (⟨(r8 l).1.toArray⟩ : ByteArray).size = (r8 l).1.length := List.size_toArray; rw [e]; exact this
            have HDl : Hid (Dd.data.toList = (r8 l).1) := by unfold Hid; rw [hDd]
            rw [e8.out]
            have h8z : Hid (w.heap.size + 3 ≤ w8.heap.size) := by have := heap_lt hD8.out.2.1; unfold Hid; omega
            clear s8 k8 hD7 hDd e8
            obtain ⟨p0, p1, p2, p3, y0, y1, y2, y3⟩ := hD8.out.cells
            go_wp2_with (at_builtin; refine wp_append_str _ rfl (.tmp 83) (.tmp 84) rfl w8.heap.size (.slice none 0 0) [] Dd rfl rfl (owns_nil _ _) (by have := HDs.out; simp; omega) (Nat.le_refl _) ?_; intro v9 w9 own9 b9; refine Hid.out ?_)
            refine Lib.hid ?_
            rw [List.nil_append, HDl.out] at own9
            obtain ⟨D, c, rfl⟩ := own9.reads.form
            have hD9 := hD8.out.on b9
            have hD9' := Lib.hid (DY.of hD9 (own9.mono h8z.out))
            clear p0 p1 p2 p3 y0 y1 y2 y3 own9 b9
            obtain ⟨p0, p1, p2, p3, y0, y1, y2, y3⟩ := hD9.cells
            clear hD9
            go_wp2_with (go_at_call 34; refine (F34.out ⟨#[101]⟩ _ _ (by decide) hD9'.out.1.1 LL.out.2.2.2.2.2.2.2.1).mono ?_; rintro ee w10 ⟨⟨q10, rfl⟩, s10, k10⟩; refine Hid.out ?_)
            refine Lib.hid ?_
            have hDA : Hid (DY w w10 (r9 l) (r2 l).1 S (r7 l).1 (.slice A (r7 l).1.length q) (.slice D (r8 l).1.length c) (r8 l).1) := hD9'.out.step s10 k10
            clear p0 p1 p2 p3 y0 y1 y2 y3 s10 k10 hD9' hD8
            obtain ⟨bv, c0, c1, hrA⟩ := hDA.out.1.rd
            have HRA := Lib.hid hrA
            clear hrA
            have F39 : Hid (∀ wx, Reads wx bv (r9 l).1 → Calls Tryd.prog 39 #[bv] wx (HexEnd (takeHex (r9 l).1) wx)) := fun wx h => rTakeHex bv _ wx h LL.out.2.2.2.2.2.2.2.2.1
            have hHN : Hid (8 ≤ (r9 l).1.length ∨ (takeHex (r9 l).1).2 ≠ 0) := by
              unfold Hid takeHex
              by_cases hx : (r9 l).1.length < 8
              · rw [if_pos hx]; right; simp
              · left; omega
            have F40 : Hid (∀ wx, Sx wx (w.heap.size + 1) (r9 l) w.heap.size → Calls Tryd.prog 40 #[.pointer (some ⟨w.heap.size + 1, 0, none⟩), .int .i64 8, .int .i64 (takeHex (r9 l).1).2] wx fun e w' => (∃ r, e = .returned r) ∧ Sx w' (w.heap.size + 1) (r10 l) w.heap.size ∧ KeepX (w.heap.size + 1) wx w') := fun wx h => xTook _ _ 8 _ _ wx h hHN.out
            go_wp2_with (go_at_call 39; refine (F39.out _ HRA.out).mono ?_; rintro ee w11 ⟨rfl, rfl⟩; refine Hid.out ?_)
            refine Lib.hid ?_
            go_wp2_with (go_at_call 40; refine (F40.out _ hDA.out.1.1).mono ?_; rintro ee w12 ⟨⟨q12, rfl⟩, s12, k12⟩; refine Hid.out ?_)
            refine Lib.hid ?_
            have hDB := Lib.hid (hDA.out.step s12 k12)
            clear c0 c1 s12 k12 hDA HRA
            go_wp2_with (go_at_call 34; refine (F34.out ⟨#[10]⟩ _ _ (by decide) hDB.out.1.1 LL.out.2.2.2.2.2.2.2.2.2.1).mono ?_; rintro ee w13 ⟨⟨q13, rfl⟩, s13, k13⟩; refine Hid.out ?_)
            refine Lib.hid ?_
            have hDC : Hid (DY w w13 (r11 l) (r2 l).1 S (r7 l).1 (.slice A (r7 l).1.length q) (.slice D (r8 l).1.length c) (r8 l).1) := hDB.out.step s13 k13
            clear s13 k13 hDB
            obtain ⟨bw, c0, c1, hrC⟩ := hDC.out.1.rd
            obtain ⟨Aw, cw, rfl⟩ := hrC.form
            clear hrC
            go_upto_region 28 with fail
            go_cut [107] (fun s107 wx => s107 = .bool (!(r11 l).1.isEmpty) ∧ Hid (DY w wx (r11 l) (r2 l).1 S (r7 l).1 (.slice A (r7 l).1.length q) (.slice D (r8 l).1.length c) (r8 l).1))
            case first =>
              have hb : Hid (decide (0 < (r11 l).1.length) = !(r11 l).1.isEmpty) := by
                unfold Hid; cases (r11 l).1 <;> simp
              go_wp2_with fail
              go_meet
              exact ⟨by rw [hb.out], hDC⟩
            case rest =>
              obtain ⟨rfl, hDC'⟩ := hcut
              clear c0 c1 hDC
              go_upto_if 107 with fail
              go_cut [6] (fun _ wx => Hid (DY w wx (r12 l) (r2 l).1 S (r7 l).1 (.slice A (r7 l).1.length q) (.slice D (r8 l).1.length c) (r8 l).1))
              case first =>
                cases hb : (r11 l).1.isEmpty with
                | true =>
                  have h12 : Hid (r12 l = r11 l) := by unfold Hid r12 sAsk; rw [hb]; rfl
                  clear hb
                  go_wp2_with fail
                  go_meet
                  unfold Hid at *
                  rw [h12]; exact hDC'
                | false =>
                  have h12 : Hid (r12 l = sFail 30 (r11 l)) := by unfold Hid r12 sAsk; rw [hb]; rfl
                  clear hb
                  go_wp2_with (go_at_call 37; refine (F37.out 30 _ _ hDC'.out.1.1).mono ?_; rintro ee w4 ⟨⟨q4, rfl⟩, s4, k4⟩; refine Hid.out ?_)
                  refine Lib.hid ?_
                  go_wp2_with fail
                  go_meet
                  have := hDC'.out.step s4 k4
                  unfold Hid at *
                  rw [h12]; exact this
              case rest =>
                have hDE := hcut
                clear hcut hDC'
                obtain ⟨bv, c0, c1, _⟩ := hDE.out.1.rd
                obtain ⟨x0, x1, x2, x3, z0, z1, z2, z3⟩ := hDE.out.1.res
                by_cases h12 : (r12 l).2 = 0
                · have hv := r12_valid h12
                  have hMS : Hid ((rM l).sender = S) := by unfold Hid; exact HS.out.symm
                  have hmr : ∀ wx, DY w wx (r12 l) (r2 l).1 S (r7 l).1 (.slice A (r7 l).1.length q) (.slice D (r8 l).1.length c) (r8 l).1 → MR wx (.agg #[.int .i64 (r2 l).1, .string S, .slice A (r7 l).1.length q, .slice D (r8 l).1.length c]) (rM l) := fun wx h =>
                    ⟨A, q, D, c, by unfold msgV; rw [hMS.out]; rfl, h.1.2.2.2.1.rr, h.2.reads⟩
                  have NH : Hid (∀ wx, DY w wx (r12 l) (r2 l).1 S (r7 l).1 (.slice A (r7 l).1.length q) (.slice D (r8 l).1.length c) (r8 l).1 → Calls Tryd.prog 21 #[.agg #[.int .i64 (r2 l).1, .string S, .slice A (r7 l).1.length q, .slice D (r8 l).1.length c], .int .i64 (r7 l).1.length, .bool true] wx fun e w' => ∃ b, e = .returned b ∧ Owns w' wx.heap.size b (headOf (rM l) ++ rcsBytes true (rM l).rcpts) ∧ Below wx.heap.size wx w') := fun wx h => by
                    have := rHead _ (rM l) (r7 l).1.length true wx hv (hmr wx h) (by have h5 : (r7 l).1.length ≤ 200 := hv.2.2.2.2.1; omega)
                    unfold refHead at this
                    rwa [if_neg (by show ¬ ((r7 l).1.length : Int) < ((r7 l).1.length : Int); omega)] at this
                  have hl1 := bodyOf_len hv true
                  have hbody : bodyOf true (rM l) = headOf (rM l) ++ rcsBytes true (rM l).rcpts ++ 100 :: textBytes (r8 l).1 := rfl
                  have hXl : (headOf (rM l) ++ rcsBytes true (rM l).rcpts).length ≤ 1000000000 := by rw [hbody, List.length_append] at hl1; omega
                  have NT : Hid (∀ b w1 B, Owns w1 B b (headOf (rM l) ++ rcsBytes true (rM l).rcpts) → B ≤ w1.heap.size → Calls Tryd.prog 20 #[b, .int .u8 100, .string Dd] w1 (AddEnd B (bodyOf true (rM l)) w1)) := fun b w1 B ho hB => by
                    have := rText B b _ 100 100 rfl Dd w1 (Or.inl ho) hB hXl HDs.out
                    rwa [HDl.out] at this
                  have S1 : Hid (∀ v w, Reads w v (bodyOf true (rM l)) → Calls Tryd.prog 23 #[v] w fun e w' => e = .returned (.int .u32 (crc (bodyOf true (rM l)) : Nat)) ∧ w = w') := fun v w h => rSum v _ w h (by omega)
                  have e12 : ((r12 l).2 != 0) = false := by simpa using h12
                  have href : Hid (refDec l = if (takeHex (r9 l).1).1 ≠ crc (bodyOf true (rM l)) then (msg0, 33) else (rM l, 0)) := by unfold Hid refDec; rw [if_neg (by simp [h12])]
                  have hmv : Hid (msgV (rM l) A q D c = .agg #[.int .i64 (r2 l).1, .string S, .slice A (r7 l).1.length q, .slice D (r8 l).1.length c]) := by unfold Hid msgV; rw [hMS.out]; rfl
                  clear h12 hv hmr hl1 hbody hXl
                  generalize crc (bodyOf true (rM l)) = cr at *
                  generalize hth : (takeHex (r9 l).1).1 = th at *
                  obtain ⟨p0, p1, p2, p3, y0, y1, y2, y3⟩ := hDE.out.1.cells
                  clear hth
                  go_wp2_with (go_at_call 21; refine (NH.out _ hDE.out).mono ?_; rintro ee w14 ⟨b14, rfl, o14, k14⟩; refine Hid.out ?_)
                  refine Lib.hid ?_
                  have hDF := Lib.hid (hDE.out.on k14)
                  go_wp2_with (go_at_call 20; refine (NT.out _ _ _ o14 k14.size).mono ?_; rintro ee w15 ⟨b15, rfl, o15, k15⟩; refine Hid.out ?_)
                  refine Lib.hid ?_
                  have hDG : Hid (DY w w15 (r12 l) (r2 l).1 S (r7 l).1 (.slice A (r7 l).1.length q) (.slice D (r8 l).1.length c) (r8 l).1) := hDE.out.on (k14.trans k15)
                  have RS := Lib.hid o15.reads
                  clear o14 k14 o15 k15 hDF p0 p1 p2 p3 y0 y1 y2 y3 c0 c1 x0 x1 x2 x3 z0 z1 z2 z3
                  obtain ⟨p0, p1, p2, p3, y0, y1, y2, y3⟩ := hDG.out.1.cells
                  obtain ⟨x0, x1, x2, x3, z0, z1, z2, z3⟩ := hDG.out.1.res
                  by_cases h5 : th = cr
                  · have e5 : ((th : Int) != (cr : Int)) = false := by rw [h5]; simp
                    have hr2 : Hid (refDec l = (rM l, 0)) := by unfold Hid; rw [href.out, if_neg (by simpa using h5)]
                    have F4 := set_four hDG.out.1.2.2.1 (Value.int .i64 (r2 l).1) (Value.string S) (Value.slice A (r7 l).1.length q) (Value.slice D (r8 l).1.length c)
                    have B4 := Lib.hid (((((hDG.out.1.2.2.2.2.setCell (p := ⟨w.heap.size, 0, none⟩) (Nat.le_refl _) (Value.int .i64 (r2 l).1)).setCell (p := ⟨w.heap.size, 1, none⟩) (Nat.le_refl _) (Value.string S)).setCell (p := ⟨w.heap.size, 2, none⟩) (Nat.le_refl _) (Value.slice A (r7 l).1.length q)).setCell (p := ⟨w.heap.size, 3, none⟩) (Nat.le_refl _) (Value.slice D (r8 l).1.length c)))
                    have K4 : ∀ wx, ORow wx (w.heap.size + 3) (.slice A (r7 l).1.length q) (r7 l).1.length (flatR (r7 l).1) ∧ Owns wx (w.heap.size + 3) (.slice D (r8 l).1.length c) (r8 l).1 → ∀ i u, ORow (wx.setCell ⟨w.heap.size, i, none⟩ u) (w.heap.size + 3) (.slice A (r7 l).1.length q) (r7 l).1.length (flatR (r7 l).1) ∧ Owns (wx.setCell ⟨w.heap.size, i, none⟩ u) (w.heap.size + 3) (.slice D (r8 l).1.length c) (r8 l).1 := fun wx h i u =>
                      ⟨h.1.keptB fun b hb _ => Below.heap_setCell wx ⟨w.heap.size, i, none⟩ u b (by show b ≠ w.heap.size; have := (h.1.ge b hb).1; omega), h.2.keptB fun b hb _ => Below.heap_setCell wx ⟨w.heap.size, i, none⟩ u b (by show b ≠ w.heap.size; have := (h.2.ge b hb).1; omega)⟩
                    have R4 := Lib.hid (K4 _ (K4 _ (K4 _ (K4 _ ⟨hDG.out.1.2.2.2.1, hDG.out.2⟩ 0 (Value.int .i64 (r2 l).1)) 1 (Value.string S)) 2 (Value.slice A (r7 l).1.length q)) 3 (Value.slice D (r8 l).1.length c))
                    have HF4 := Lib.hid F4
                    clear h5 F4 K4
                    go_wp2_with (go_at_call 23; refine (S1.out _ _ RS.out).mono ?_; rintro ee w16 ⟨rfl, rfl⟩; refine Hid.out ?_)
                    refine Lib.hid ?_
                    go_wp2
                    obtain ⟨v0, v1, v2, v3, _⟩ := four_cells HF4.out
                    refine bodyPost_ret (v := .tuple #[.agg #[.int .i64 (r2 l).1, .string S, .slice A (r7 l).1.length q, .slice D (r8 l).1.length c], .int .i64 0]) ?_ rfl ?_
                    · simp [results, Tryd.results16, go_sem, v0, v1, v2, v3]
                    · rw [hr2.out]
                      exact ⟨A, q, D, c, by rw [hmv.out], R4.out.1.mono (by omega), R4.out.2.mono (by omega), B4.out⟩
                  · have e5 : ((th : Int) != (cr : Int)) = true := by rw [bne_iff_ne]; omega
                    have hr2 : Hid (refDec l = (msg0, 33)) := by unfold Hid; rw [href.out, if_pos h5]
                    have F4 := set_four hDG.out.1.2.2.1 (Value.int .i64 0) (Value.string ⟨#[]⟩) (Value.slice none 0 0) (Value.slice none 0 0)
                    have B4 := Lib.hid (((((hDG.out.1.2.2.2.2.setCell (p := ⟨w.heap.size, 0, none⟩) (Nat.le_refl _) (Value.int .i64 0)).setCell (p := ⟨w.heap.size, 1, none⟩) (Nat.le_refl _) (Value.string ⟨#[]⟩)).setCell (p := ⟨w.heap.size, 2, none⟩) (Nat.le_refl _) (Value.slice none 0 0)).setCell (p := ⟨w.heap.size, 3, none⟩) (Nat.le_refl _) (Value.slice none 0 0)))
                    have HF4 := Lib.hid F4
                    clear h5 F4
                    go_wp2_with (go_at_call 23; refine (S1.out _ _ RS.out).mono ?_; rintro ee w16 ⟨rfl, rfl⟩; refine Hid.out ?_)
                    refine Lib.hid ?_
                    go_wp2
                    obtain ⟨v0, v1, v2, v3, _⟩ := four_cells HF4.out
                    refine bodyPost_ret (v := .tuple #[.agg #[.int .i64 0, .string ⟨#[]⟩, .slice none 0 0, .slice none 0 0], .int .i64 33]) ?_ rfl ?_
                    · simp [results, Tryd.results16, go_sem, v0, v1, v2, v3]
                    · rw [hr2.out]
                      exact ⟨none, 0, none, 0, rfl, World.ownsRow_nil _ _ 41 2, owns_nil _ _, B4.out⟩
                · have e12 : ((r12 l).2 != 0) = true := by simpa using h12
                  have hbad : Hid (refDec l = (msg0, (r12 l).2)) := ref_bad rfl h12
                  have F4 := set_four hDE.out.1.2.2.1 (Value.int .i64 0) (Value.string ⟨#[]⟩) (Value.slice none 0 0) (Value.slice none 0 0)
                  have B4 := Lib.hid (((((hDE.out.1.2.2.2.2.setCell (p := ⟨w.heap.size, 0, none⟩) (Nat.le_refl _) (Value.int .i64 0)).setCell (p := ⟨w.heap.size, 1, none⟩) (Nat.le_refl _) (Value.string ⟨#[]⟩)).setCell (p := ⟨w.heap.size, 2, none⟩) (Nat.le_refl _) (Value.slice none 0 0)).setCell (p := ⟨w.heap.size, 3, none⟩) (Nat.le_refl _) (Value.slice none 0 0)))
                  have HF4 := Lib.hid F4
                  clear h12 F4
                  go_wp2_with fail
                  go_region_held3 (fun w' => w'.cell? ⟨w.heap.size + 1, 1, none⟩ = some (.int .i64 (r12 l).2)) (first | exact c1.drew | exact c1 | (go_simp; done) | fail) (fail)
                  all_goals
                    go_wp2
                    obtain ⟨v0, v1, v2, v3, _⟩ := drew_cells HF4.out
                    refine bodyPost_ret (v := .tuple #[.agg #[.int .i64 0, .string ⟨#[]⟩, .slice none 0 0, .slice none 0 0], .int .i64 (r12 l).2]) ?_ rfl ?_
                    · simp [results, Tryd.results16, go_sem, v0, v1, v2, v3]
                    · rw [hbad.out]
                      exact ⟨none, 0, none, 0, rfl, World.ownsRow_nil _ _ 41 2, owns_nil _ _, B4.out.os, B4.out.tape, B4.out.output, B4.out.size, B4.out.block⟩
end Go.Proofs.YthoeicidilnleaaDoor.Codec
