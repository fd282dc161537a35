/-
  HEADER, the given answers: a field's bytes.
-/
import Derived.Test.YtnogpoojhhmadaaDoorHdrFold
import Derived.Test.YtnogpoojhhmadaaDoorHdrLine
namespace Go.Proofs.YtnogpoojhhmadaaDoor.Header
open Go.RowKit Base
/-- May no field's body have it? -/
def badB (c : UInt8) : Bool := decide ((c.toNat < 32 ∧ c.toNat ≠ 9) ∨ c.toNat = 127)
/-- Is a line too long, from a place on? -/
def longF (l : List UInt8) : Nat → Nat → Bool
  | 0, _ => false
  | n + 1, a => if a < l.length then (if 998 < (lineOf l a).1 - a then true else longF l n (lineOf l a).2) else false
def fieldB (nm bd : List UInt8) : List UInt8 := nm ++ [58, 32] ++ foldOf bd ((nm.length + 2 : Nat) : Int) ++ [13, 10]
def writeOf (nm bd : List UInt8) : Nat ⊕ List UInt8 :=
  if nameB nm = true then (if bd.any badB = true then .inl 110 else if longF (fieldB nm bd) (fieldB nm bd).length 0 = true then .inl 111 else .inr (fieldB nm bd)) else .inl 110
def WriteEnd (r : Nat ⊕ List UInt8) (w : World) (e : Ending) (w' : World) : Prop :=
  Below w.heap.size w w' ∧ match r with
    | .inl code => e = .returned (.tuple #[.slice none 0 0, .int .i64 (code : Int)])
    | .inr l => ∃ g c, e = .returned (.tuple #[.slice (some ⟨g, 0, none⟩) l.length c, .int .i64 0]) ∧ w.heap.size ≤ g ∧ BytesAt w' g c l ∧ (∃ cs : Array Value, w'.heap[g]? = some (.cells cs 5 (c, c + 1)) ∧ cs.size = c)
theorem BytesAt.on {w w' : World} {g c : Nat} {l : List UInt8} (h : BytesAt w g c l) (hb : Below w.heap.size w w') : BytesAt w' g c l := by
  obtain ⟨cs, h1, h2⟩ := h
  exact ⟨cs, (hb.block g (heap_lt h1)).trans h1, h2⟩
theorem fold_le (l : List UInt8) (c : Int) : (foldOf l c).length ≤ 3 * (l.length + 1) := by
  have h1 := fold_len (wordsOf l) true (colOf c)
  have h2 := words_sum l []
  unfold foldOf
  unfold wordsOf at h1 ⊢
  simp at h2
  omega
set_option maxHeartbeats 8000000 in
set_option maxRecDepth 100000 in
theorem rWrite (nm bd : ByteArray) (w : World) (hn : nm.size ≤ 1000000000000) (hs : bd.size ≤ 1000000000000) : Calls Tryd.prog 15 #[.string nm, .string bd] w (WriteEnd (writeOf nm.data.toList bd.data.toList) w) := by
  have HN := Lib.hid (rName nm w (by omega))
  cases hb : nameB nm.data.toList
  · have HN2 : Hid (Calls Tryd.prog 31 #[.string nm] w fun e w' => e = .returned (.bool false) ∧ w = w') := by have := HN.out; rw [hb] at this; exact this
    have HE : Hid (WriteEnd (writeOf nm.data.toList bd.data.toList) w (.returned (.tuple #[.slice none 0 0, .int .i64 110])) w) := ⟨Below.refl _ _, by unfold writeOf; rw [if_neg (by rw [hb]; simp)]; rfl⟩
    clear hb HN
    go_enter Tryd.func15, Tryd.ntmps15
    go_wp2_with (first | (go_at_call 31; refine HN2.out.mono ?_; rintro ee w' ⟨rfl, rfl⟩; refine Hid.out ?_) | fail)
    refine Lib.hid ?_
    go_wp2
    go_ret2
    exact HE.out
  · have HN2 : Hid (Calls Tryd.prog 31 #[.string nm] w fun e w' => e = .returned (.bool true) ∧ w = w') := by have := HN.out; rw [hb] at this; exact this
    have HBAD : Hid (bd.data.toList.any badB = true → WriteEnd (writeOf nm.data.toList bd.data.toList) w (.returned (.tuple #[.slice none 0 0, .int .i64 110])) w) := fun h => ⟨Below.refl _ _, by unfold writeOf; rw [if_pos hb, if_pos h]; rfl⟩
    have HOK : Hid (bd.data.toList.any badB = false → writeOf nm.data.toList bd.data.toList = if longF (fieldB nm.data.toList bd.data.toList) (fieldB nm.data.toList bd.data.toList).length 0 = true then .inl 111 else .inr (fieldB nm.data.toList bd.data.toList)) := fun h => by unfold writeOf; rw [if_pos hb, if_neg (by rw [h]; simp)]
    have HFO := Lib.hid (rFold bd (nm.size + 2) w hs (by omega) (by omega))
    have HFL : Hid ((foldOf bd.data.toList ((nm.size + 2 : Nat) : Int)).length ≤ 3 * (bd.size + 1)) := by have := fold_le bd.data.toList ((nm.size + 2 : Nat) : Int); rw [str_len] at this; exact this
    clear hb HN
    go_enter Tryd.func15, Tryd.ntmps15
    go_wp2_with (first | (go_at_call 31; refine HN2.out.mono ?_; rintro ee w' ⟨rfl, rfl⟩; refine Hid.out ?_) | fail)
    refine Lib.hid ?_
    go_wp2
    go_loop [7] (fun i => ∃ j : Nat, j ≤ bd.size ∧ i = .int .i64 (j : Int) ∧ Hid (∀ c ∈ bd.data.toList.take j, badB c = false)) (fun i => bd.size - (intOf i).toNat)
    case atStart => exact ⟨0, by omega, rfl, fun c hc => by simp at hc⟩
    case round =>
      obtain ⟨j, hj, rfl, HC⟩ := hrel
      by_cases hlt : j < bd.size
      · have i0 : (0 : Int) ≤ (j : Int) := by omega
        have i1 : (j : Int) < (bd.size : Int) := by omega
        have hjl : j < bd.data.toList.length := by rw [str_len]; exact hlt
        have HYES : badB bd[j] = true → Hid (WriteEnd (writeOf nm.data.toList bd.data.toList) w (.returned (.tuple #[.slice none 0 0, .int .i64 110])) w) := fun h => HBAD.out (List.any_eq_true.2 ⟨bd.data.toList[j], List.getElem_mem hjl, by rw [str_getL bd j hlt hjl]; exact h⟩)
        have HNEXT : badB bd[j] = false → Hid (∀ c ∈ bd.data.toList.take (j + 1), badB c = false) := fun h c hc => by
          rw [List.take_succ_eq_append_getElem hjl] at hc
          rcases List.mem_append.1 hc with hc | hc
          · exact HC.out c hc
          · rw [List.mem_singleton.1 hc, str_getL bd j hlt hjl]; exact h
        by_cases h32 : bd[j].toNat < 32
        · have e1 : (bd[j].toNat : Int) < 32 := by omega
          by_cases h9 : bd[j].toNat = 9
          · have e2 : ((bd[j].toNat : Int) != 9) = false := by rw [h9]; rfl
            have e3 : ((bd[j].toNat : Int) == 127) = false := by rw [beq_eq_false_iff_ne]; omega
            have HC2 := HNEXT (by unfold badB; rw [decide_eq_false_iff_not]; omega)
            clear h32 h9 HYES HNEXT HC
            go_wp2
            go_round
            case rel => exact ⟨j + 1, by omega, by go_num, HC2⟩
            case measure => simp [intOf]; omega
          · have e2 : ((bd[j].toNat : Int) != 9) = true := by rw [bne_iff_ne]; omega
            have HE := HYES (by unfold badB; rw [decide_eq_true_eq]; omega)
            clear h32 h9 HYES HNEXT HC
            go_wp2
            go_ret2
            exact HE.out
        · have e1 : ¬ (bd[j].toNat : Int) < 32 := by omega
          by_cases h127 : bd[j].toNat = 127
          · have e2 : ((bd[j].toNat : Int) == 127) = true := by rw [h127]; rfl
            have HE := HYES (by unfold badB; rw [decide_eq_true_eq]; omega)
            clear h32 h127 HYES HNEXT HC
            go_wp2
            go_ret2
            exact HE.out
          · have e2 : ((bd[j].toNat : Int) == 127) = false := by rw [beq_eq_false_iff_ne]; omega
            have HC2 := HNEXT (by unfold badB; rw [decide_eq_false_iff_not]; omega)
            clear h32 h127 HYES HNEXT HC
            go_wp2
            go_round
            case rel => exact ⟨j + 1, by omega, by go_num, HC2⟩
            case measure => simp [intOf]; omega
      · have i1 : ¬ (j : Int) < (bd.size : Int) := by omega
        have HOK2 := Lib.hid (HOK.out (by
          rw [List.any_eq_false]
          intro x hx
          have := HC.out x (by rw [List.take_of_length_le (by rw [str_len]; omega)]; exact hx)
          rw [this]; simp))
        clear HC HOK HBAD
        obtain ⟨fr, hfr⟩ : ∃ fr, fr = foldOf bd.data.toList ((nm.size + 2 : Nat) : Int) := ⟨_, rfl⟩
        have HFB : Hid (fieldB nm.data.toList bd.data.toList = (nm ++ ⟨#[58, 32]⟩ ++ ⟨fr.toArray⟩ ++ ⟨#[13, 10]⟩ : ByteArray).data.toList) := by
          show _ = _
          unfold fieldB
          rw [str_len, ← hfr]; simp
        unfold FoldEnd at HFO
        rw [← hfr] at HFO HFL
        have hfl := HFL.out
        have HFO2 : Hid (Calls Tryd.prog 32 #[.string bd, .int .i64 ((nm.size : Int) + 2)] w fun e w' => e = .returned (S fr) ∧ Below w.heap.size w w') := HFO.out
        clear hfr HFL HFO
        go_wp2_with (first | (go_at_call 32; refine HFO2.out.mono ?_; rintro ee w1 ⟨rfl, hb1⟩; refine Hid.out ?_) | fail)
        refine Lib.hid ?_
        obtain ⟨X, hX⟩ : ∃ X : ByteArray, X = nm ++ ⟨#[58, 32]⟩ ++ ⟨fr.toArray⟩ ++ ⟨#[13, 10]⟩ := ⟨_, rfl⟩
        have hXs : X.size ≤ 10000000000000 := by
          rw [hX, ByteArray.size_append, ByteArray.size_append, ByteArray.size_append, show (⟨#[58, 32]⟩ : ByteArray).size = 2 from rfl, show (⟨#[13, 10]⟩ : ByteArray).size = 2 from rfl, show (⟨fr.toArray⟩ : ByteArray).size = fr.length by show fr.toArray.size = _; simp]
          omega
        obtain ⟨cap, hcap, hconv⟩ := ref_bytes w1 X
        have HA0 := Lib.hid (BytesAt.new w1 X cap hcap)
        have HBB : Hid (Below w.heap.size w (w1.drew.alloc (.cells (bytesRow X cap) 5 ((bytesRow X cap).size, (bytesRow X cap).size + 1)))) := (hb1.trans (Below.mono (Below.refl _ _).drew hb1.size)).alloc hb1.size _
        have HGE : Hid (w.heap.size ≤ w1.heap.size) := hb1.size
        have hrs : (bytesRow X cap).size = cap := by unfold bytesRow; simp; exact Nat.add_sub_cancel' hcap
        have HFU : Hid (∃ cs : Array Value, (w1.drew.alloc (.cells (bytesRow X cap) 5 ((bytesRow X cap).size, (bytesRow X cap).size + 1))).heap[w1.heap.size]? = some (.cells cs 5 (cap, cap + 1)) ∧ cs.size = cap) := ⟨bytesRow X cap, (MapKept.heap_alloc w1.drew (.cells (bytesRow X cap) 5 ((bytesRow X cap).size, (bytesRow X cap).size + 1))).1.trans (by rw [hrs]), hrs⟩
        obtain ⟨w2, hw2⟩ : ∃ w2, w2 = w1.drew.alloc (.cells (bytesRow X cap) 5 ((bytesRow X cap).size, (bytesRow X cap).size + 1)) := ⟨_, rfl⟩
        rw [← hw2] at hconv HA0 HBB HFU
        clear hrs
        obtain ⟨L, hL⟩ : ∃ L, L = X.data.toList := ⟨_, rfl⟩
        have hLl : L.length = X.size := by rw [hL, str_len]
        have HWO : Hid (writeOf nm.data.toList bd.data.toList = if longF L L.length 0 = true then .inl 111 else .inr L) := by
          show _ = _
          rw [HOK2.out, HFB.out, ← hX, ← hL]
        rw [← hL] at HA0
        have HLN : Hid (∀ a : Nat, a ≤ X.size → Calls Tryd.prog 21 #[.slice (some ⟨w1.heap.size, 0, none⟩) X.size cap, .int .i64 (a : Int)] w2 fun e w' => e = .returned (.tuple #[.int .i64 ((lineOf L a).1 : Int), .int .i64 ((lineOf L a).2 : Int)]) ∧ w2 = w') := fun a ha => by
          have := rLine (some ⟨w1.heap.size, 0, none⟩) cap L a w2 (BytesAt.reads HA0.out rfl) (by omega) (by omega)
          rwa [hLl] at this
        obtain ⟨lg, hlg⟩ : ∃ lg, lg = longF L L.length 0 := ⟨_, rfl⟩
        have HLG : Hid (longF L L.length 0 = lg) := hlg.symm
        have HLL := Lib.hid hLl
        rw [← hlg] at HWO
        rw [hX] at hconv
        have m1 : X.size = nm.size + 2 + fr.length + 2 := by
          rw [hX, ByteArray.size_append, ByteArray.size_append, ByteArray.size_append, show (⟨#[58, 32]⟩ : ByteArray).size = 2 from rfl, show (⟨#[13, 10]⟩ : ByteArray).size = 2 from rfl, show (⟨fr.toArray⟩ : ByteArray).size = fr.length by show fr.toArray.size = _; simp]
        rw [← hX] at hconv
        have HXX := Lib.hid hX
        clear hw2 hL hlg hb1 HOK2 HFB HFO2 hLl
        rw [hX] at hconv
        clear hX
        go_wp2
        rw [← m1]
        clear m1 hconv HXX
        obtain ⟨xs, hxs⟩ : ∃ xs, X.size = xs := ⟨_, rfl⟩
        rw [hxs] at HLN HLL hXs ⊢
        clear hxs
        go_loop [9, 10, 11] (fun av _ _ => ∃ (n a : Nat), a ≤ xs ∧ av = .int .i64 (a : Int) ∧ xs ≤ a + n ∧ Hid (longF L n a = lg)) (fun av _ _ => xs - (intOf av).toNat)
        case atStart => exact ⟨L.length, 0, by omega, rfl, by have := HLL.out; omega, HLG⟩
        case round =>
          clear HLG
          obtain ⟨n, a, ha, rfl, han, HF⟩ := hrel
          have a0 : (0 : Int) ≤ (a : Int) := by omega
          by_cases hax : a < xs
          · have a1 : (a : Int) < (xs : Int) := by omega
            obtain ⟨n, rfl⟩ : ∃ m, n = m + 1 := ⟨n - 1, by omega⟩
            have HCL := Lib.hid (HLN.out a ha)
            have hbd := line_bounds (l := L) (at_ := a) (by have := HLL.out; omega)
            have hF := HF.out
            rw [longF, if_pos (by have := HLL.out; omega)] at hF
            obtain ⟨e, x, hex⟩ : ∃ e x, lineOf L a = (e, x) := ⟨_, _, rfl⟩
            rw [hex] at hF hbd HCL
            obtain ⟨b1, b2, b3, b4⟩ : a ≤ e ∧ e ≤ x ∧ x ≤ L.length ∧ a < x := hbd
            rw [HLL.out] at b3
            clear hex HF
            by_cases hlo : 998 < e - a
            · have j1 : (998 : Int) < (e : Int) - (a : Int) := by omega
              have HE : Hid (WriteEnd (writeOf nm.data.toList bd.data.toList) w (.returned (.tuple #[.slice none 0 0, .int .i64 111])) w2) := by
                refine ⟨HBB.out, ?_⟩
                have : lg = true := by rw [← hF]; exact if_pos hlo
                rw [HWO.out, this]; rfl
              clear hF hlo
              go_wp2_with (first | (go_at_call 21; refine HCL.out.mono ?_; rintro ee w' ⟨rfl, rfl⟩; refine Hid.out ?_) | fail)
              refine Lib.hid ?_
              go_wp2
              go_ret2
              exact HE.out
            · have j1 : ¬ (998 : Int) < (e : Int) - (a : Int) := by omega
              have HF2 : Hid (longF L n x = lg) := by show _ = _; rw [← hF]; exact (if_neg hlo).symm
              clear hF hlo
              go_wp2_with (first | (go_at_call 21; refine HCL.out.mono ?_; rintro ee w' ⟨rfl, rfl⟩; refine Hid.out ?_) | fail)
              refine Lib.hid ?_
              go_wp2
              go_round
              case rel => exact ⟨n, x, b3, rfl, by omega, HF2⟩
              case measure => simp [intOf]; omega
          · have a1 : ¬ (a : Int) < (xs : Int) := by omega
            have HE : Hid (WriteEnd (writeOf nm.data.toList bd.data.toList) w (.returned (.tuple #[.slice (some ⟨w1.heap.size, 0, none⟩) xs cap, .int .i64 0])) w2) := by
              refine ⟨HBB.out, ?_⟩
              have : lg = false := by
                rw [← HF.out]
                cases n with
                | zero => rfl
                | succ n => rw [longF, if_neg (by have := HLL.out; omega)]
              rw [HWO.out, this]
              exact ⟨w1.heap.size, cap, by rw [HLL.out], HGE.out, HA0.out, HFU.out⟩
            clear HF
            go_wp2
            go_ret2
            exact HE.out
end Go.Proofs.YtnogpoojhhmadaaDoor.Header
