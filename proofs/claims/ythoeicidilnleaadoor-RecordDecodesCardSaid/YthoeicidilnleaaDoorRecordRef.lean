/-
  RECORD: the document's answer for a message's bytes.
-/
import Derived.Test.YthoeicidilnleaaDoorRecordEnc
namespace Go.Proofs.YthoeicidilnleaaDoor.Codec
open Go.RowKit

def refHead (m : Msg) (i : Int) (plain : Bool) : List UInt8 := if i < m.rcpts.length then headOf m ++ rcsBytes plain (m.rcpts.take i.toNat) ++ [114] else headOf m ++ rcsBytes plain m.rcpts

set_option maxHeartbeats 1000000 in
set_option maxRecDepth 100000 in
theorem rHead (v : Value) (m : Msg) (i : Int) (plain : Bool) (w : World) (hv : Valid m) (hm : MR w v m) (hi : 0 ≤ i ∧ i ≤ 9223372036854775807) :
    Calls Tryd.prog 21 #[v, .int .i64 i, .bool plain] w fun e w' => ∃ b, e = .returned b ∧ Owns w' w.heap.size b (refHead m i plain) ∧ Below w.heap.size w w' := by
  obtain ⟨A, c, D, e, rfl, hr, _⟩ := hm
  unfold msgV
  have hlen := headOf_len hv
  obtain ⟨h1, h2, h3, h4, h5, h6, h7⟩ := hv
  obtain ⟨t, ht⟩ := Int.eq_ofNat_of_zero_le h1
  obtain ⟨out, ho⟩ : ∃ out, out = refHead m i plain := ⟨_, rfl⟩
  rw [← ho]
  unfold refHead at ho
  obtain ⟨s, hs⟩ : ∃ s, s = m.sender := ⟨_, rfl⟩
  generalize hd : m.data.length = dn at *
  have hnt : (headOf m) = [87, 49, 59] ++ 116 :: numBytes t ++ 102 :: textBytes s.data.toList ++ 110 :: numBytes m.rcpts.length := by unfold headOf; rw [ht, hs]; rfl
  have hl1 := (numBytes_len (n := t) (by omega)).2
  have hsl : s.data.toList.length = s.size := Array.length_toList
  rw [← hs] at h3
  have hl2 := (textBytes_len (s := s.data.toList) (by omega)).2
  have hl3 := (numBytes_len (n := m.rcpts.length) (by omega)).2
  rw [ht, ← hs]
  generalize hn : m.rcpts.length = n at h4 h5 ho hnt hl3 ⊢
  have kc := fun (o : Obj) (C : Array Value) (n c : Nat) => conv_const2 w o C n c
  have HR := Lib.hid hr
  have HNT := Lib.hid hnt
  have HN := Lib.hid hn
  have HO := Lib.hid ho
  have H6 := Lib.hid h6
  have N1 : Hid (∀ v w1, Apps w1 (w.heap.size + 1) v [87, 49, 59] → w.heap.size + 1 ≤ w1.heap.size → Calls Tryd.prog 48 #[v, .int .u8 116, .int .i64 t] w1 (AddEnd (w.heap.size + 1) ([87, 49, 59] ++ 116 :: numBytes t) w1)) := fun v w1 ha hb => rNumber _ v _ 116 116 rfl t w1 ha hb (by simp) (by omega)
  have N2 : Hid (∀ v w1, Owns w1 (w.heap.size + 1) v ([87, 49, 59] ++ 116 :: numBytes t) → w.heap.size + 1 ≤ w1.heap.size → Calls Tryd.prog 20 #[v, .int .u8 102, .string s] w1 (AddEnd (w.heap.size + 1) ([87, 49, 59] ++ 116 :: numBytes t ++ 102 :: textBytes s.data.toList) w1)) := fun v w1 ha hb => rText _ v _ 102 102 rfl s w1 (Or.inl ha) hb (by simp; omega) (by omega)
  have N3 : Hid (∀ v w1, Owns w1 (w.heap.size + 1) v ([87, 49, 59] ++ 116 :: numBytes t ++ 102 :: textBytes s.data.toList) → w.heap.size + 1 ≤ w1.heap.size → Calls Tryd.prog 48 #[v, .int .u8 110, .int .i64 n] w1 (AddEnd (w.heap.size + 1) (headOf m) w1)) := fun v w1 ha hb => by
    have := rNumber _ v _ 110 110 rfl n w1 (Or.inl ha) hb (by simp; omega) (by omega)
    rwa [← hnt] at this
  clear hr hnt hsl hn hs ht hd h6 h1 h2 ho hl1 hl2 hl3
  go_enter Tryd.func21, Tryd.ntmps21
  go_wp2_with (go_at_call 48; refine (N1.out _ _ (Or.inr ⟨⟨_, _, rfl⟩, reads_lit2 _ _ _ [87, 49, 59] 3 _ rfl rfl _ (by simp)⟩) (by simp)).mono ?_; rintro e w1 ⟨v1, rfl, own1, hb1⟩; refine Hid.out ?_)
  refine Lib.hid ?_
  have bx := ((BoxAt.new w t s (.slice A n c) (.slice D dn e) 25).on ((Below.refl (w.heap.size + 1) _).alloc (by simp) (.cells #[.int .u8 87, .int .u8 49, .int .u8 59] 5 (3, 4))) (Nat.lt_succ_self _)).on hb1 (Nat.lt_succ_self _)
  have bw : Below w.heap.size w w1 := (((Below.refl w.heap.size w).alloc (Nat.le_refl _) _).alloc (by simp) _).trans (hb1.mono (by omega))
  have z1 : w.heap.size + 1 ≤ w1.heap.size := by have := hb1.size; simp at this; omega
  obtain ⟨b0, b1, b2, b3⟩ := bx
  clear kc N1
  go_wp2_with (go_at_call 20; refine (N2.out _ _ own1 z1).mono ?_; rintro e w2 ⟨v2, rfl, own2, hb2⟩; refine Hid.out ?_)
  refine Lib.hid ?_
  have bx : BoxAt w2 w.heap.size t s (.slice A n c) (.slice D dn e) := BoxAt.on (w := w1) ⟨b0, b1, b2, b3⟩ hb2 (Nat.lt_succ_self _)
  have bw2 := bw.trans (hb2.mono (Nat.le_succ _))
  have z2 := Nat.le_trans z1 hb2.size
  clear b0 b1 b2 b3 hb1
  obtain ⟨b0, b1, b2, b3⟩ := bx
  go_wp2_with (go_at_call 48; refine (N3.out _ _ own2 z2).mono ?_; rintro e w3 ⟨v3, rfl, own3, hb3⟩; refine Hid.out ?_)
  refine Lib.hid ?_
  have bx : BoxAt w3 w.heap.size t s (.slice A n c) (.slice D dn e) := BoxAt.on (w := w2) ⟨b0, b1, b2, b3⟩ hb3 (Nat.lt_succ_self _)
  have bw3 := bw2.trans (hb3.mono (Nat.le_succ _))
  have z3 := Nat.le_trans z2 hb3.size
  clear b0 b1 b2 b3 own1 own2 N2 N3 hb2 hb3
  obtain ⟨c0, c1, c2, c3⟩ := bx
  have hown0 : Owns w3 (w.heap.size + 1) v3 (headOf m ++ rcsBytes plain (m.rcpts.take 0)) := by simpa [rcsBytes] using own3
  go_wp2_with fail
  go_loopw [7, 8] (fun s7 i8 wr => ∃ k : Nat, k ≤ n ∧ (k : Int) ≤ i ∧ i8 = .int .i64 k ∧ Owns wr (w.heap.size + 1) s7 (headOf m ++ rcsBytes plain (m.rcpts.take k)) ∧ Below (w.heap.size + 1) w3 wr) (fun _ i8 _ => n - (intOf i8).toNat)
  case atStart => exact ⟨0, by omega, by omega, rfl, hown0, Below.refl _ _⟩
  case round =>
    obtain ⟨k, hk, hki, rfl, hown, hbr⟩ := hrel
    have bxr : BoxAt wr w.heap.size t s (.slice A n c) (.slice D dn e) := BoxAt.on (w := w3) ⟨c0, c1, c2, c3⟩ hbr (Nat.lt_succ_self _)
    obtain ⟨d0, d1, d2, d3⟩ := bxr
    have zr := Nat.le_trans z3 hbr.size
    have hml := rcsBytes_len_le plain (m.rcpts.take k) (fun r hr => H6.out r (List.mem_of_mem_take hr))
    have htl : (m.rcpts.take k).length ≤ k := List.length_take_le _ _
    have hxl : (headOf m ++ rcsBytes plain (m.rcpts.take k)).length ≤ 80000 := by rw [List.length_append]; omega
    by_cases hlt : k < n
    · by_cases hkeq : (k : Int) = i
      · have HF : Hid (out = headOf m ++ rcsBytes plain (m.rcpts.take k) ++ [114]) := by unfold Hid; rw [HO.out, if_pos (by omega), show i.toNat = k by omega]
        generalize headOf m ++ rcsBytes plain (m.rcpts.take k) = X at hown hxl HF
        obtain rfl := hkeq.symm
        clear hml htl hkeq
        go_wp2_with (at_builtin; refine wp_append_apps _ rfl (.tmp 39) (.tmp 40) rfl (w.heap.size + 1) _ _ X [114] rfl rfl (Or.inl (hown.on (Below.alloc1 _ _))) (reads_one _ _ _ 114 rfl) (Nat.succ_pos 0) (by simp; omega) (by simp; omega) ?_; intro v7 w7 own7 hb7 sp7; refine Hid.out ?_)
        refine Lib.hid ?_
        rw [← HF.out] at own7
        go_wp2
        go_ret
        exact ⟨v7, rfl, own7.mono (Nat.le_succ _), bw3.trans ((hbr.trans (((Below.refl _ _).alloc zr _).trans hb7)).mono (Nat.le_succ _))⟩
      · have hkl : (k : Int) < i := by omega
        have hne : ((k : Int) == i) = false := by rw [beq_eq_false_iff_ne]; exact hkeq
        obtain ⟨rb, ro, rfl, hcell⟩ := (HR.out.on (bw3.trans (hbr.mono (Nat.le_succ _)))).2 (by rw [HN.out]; omega)
        obtain ⟨hc1, hc2⟩ := hcell k (by rw [HN.out]; omega)
        have hs := H6.out _ (getD_mem (rs := m.rcpts) (i := k) (by rw [HN.out]; omega))
        have hstep := rcs_take (rs := m.rcpts) (k := k) (by rw [HN.out]; omega) plain
        obtain ⟨X, hX⟩ : ∃ X, X = headOf m ++ rcsBytes plain (m.rcpts.take k) := ⟨_, rfl⟩
        generalize m.rcpts.getD k rc0 = r at hc1 hc2 hs hstep
        obtain ⟨S, x⟩ := r
        dsimp only at hc1 hc2 hs
        rw [← hX] at hown hxl
        have hsl : S.data.toList.length = S.size := Array.length_toList
        have HX2 : Hid (headOf m ++ rcsBytes plain (m.rcpts.take (k + 1)) = X ++ [114] ++ [if plain then 80 else x] ++ textBytes S.data.toList) := by unfold Hid; rw [hstep, hX]; simp [rcBytes]
        have hrb : rb < w.heap.size + 1 := by
          have h0 : 0 < m.rcpts.length := by rw [HN.out]; omega
          obtain ⟨b, o, he, hc⟩ := HR.out.2 h0
          cases he
          exact Nat.lt_succ_of_lt (cell_lt (hc 0 h0).1)
        have N5 := Lib.hid (fun w => rText_yes S w (by omega))
        have htb := textBytes_len (s := S.data.toList) (by omega)
        rw [hsl] at htb
        generalize textBytes S.data.toList = TB at N5 HX2 htb
        clear hcell hstep hml htl hX hsl hkeq
        go_wp2_with (at_builtin; refine wp_append_apps _ rfl (.tmp 39) (.tmp 40) rfl (w.heap.size + 1) _ _ X [114] rfl rfl (Or.inl (hown.on (Below.alloc1 _ _))) (reads_one _ _ _ 114 rfl) (Nat.succ_pos 0) (by simp; omega) (by simp; omega) ?_; intro v7 w7 own7 hb7 sp7; refine Hid.out ?_)
        refine Lib.hid ?_
        have hb7' : Below (w.heap.size + 1) wr w7 := ((Below.refl _ _).alloc zr _).trans hb7
        have z7 := Nat.le_trans zr hb7'.size
        have e0 := (hb7'.cell (p := ⟨w.heap.size, 2, none⟩) (Nat.lt_succ_self _)).trans d2
        have e1 := (hb7'.cell (p := ⟨rb, ro + k * 2, none⟩) hrb).trans hc1
        have e2 := (hb7'.cell (p := ⟨rb, ro + k * 2 + 1, none⟩) hrb).trans hc2
        cases plain with
        | false =>
          simp only [Bool.false_eq_true, ↓reduceIte] at HX2
          go_wp2_with (at_builtin; refine wp_append_apps _ rfl (.tmp 53) (.tmp 55) rfl (w.heap.size + 1) _ _ (X ++ [114]) [x] rfl rfl (Or.inl (own7.on (Below.alloc1 _ _))) (reads_one _ _ _ x rfl) (Nat.succ_pos 0) (by simp; omega) (by simp; omega) ?_; intro v8 w8 own8 hb8 sp8; refine Hid.out ?_)
          refine Lib.hid ?_
          have hb8' : Below (w.heap.size + 1) w7 w8 := ((Below.refl _ _).alloc z7 _).trans hb8
          have z8 := Nat.le_trans z7 hb8'.size
          have g0 := (hb8'.cell (p := ⟨w.heap.size, 2, none⟩) (Nat.lt_succ_self _)).trans e0
          have g1 := (hb8'.cell (p := ⟨rb, ro + k * 2, none⟩) hrb).trans e1
          go_wp2_with (go_at_call 47; refine (N5.out _).mono ?_; rintro e w9 ⟨v9, rfl, rd9, hb9⟩; refine Hid.out ?_)
          refine Lib.hid ?_
          go_wp2_with (at_builtin; refine wp_append_apps _ rfl (.tmp 67) (.tmp 68) rfl (w.heap.size + 1) _ _ (X ++ [114] ++ [x]) TB rfl rfl (Or.inl (own8.on hb9)) rd9 htb.1 (by simp; omega) (Nat.le_trans z8 hb9.size) ?_; intro va wa owna hba spa; refine Hid.out ?_)
          refine Lib.hid ?_
          rw [← HX2.out] at owna
          have hbA := (hb7'.trans hb8').trans ((hb9.mono z8).trans hba)
          go_wp2
          go_roundw
          case rel => exact ⟨k + 1, by omega, by omega, by go_num, owna, hbr.trans hbA⟩
          case measure => simp [intOf]; omega
        | true =>
          simp only [↓reduceIte] at HX2
          go_wp2_with (at_builtin; refine wp_append_apps _ rfl (.tmp 53) (.tmp 55) rfl (w.heap.size + 1) _ _ (X ++ [114]) [80] rfl rfl (Or.inl (own7.on (Below.alloc1 _ _))) (reads_one _ _ _ 80 rfl) (Nat.succ_pos 0) (by simp; omega) (by simp; omega) ?_; intro v8 w8 own8 hb8 sp8; refine Hid.out ?_)
          refine Lib.hid ?_
          have hb8' : Below (w.heap.size + 1) w7 w8 := ((Below.refl _ _).alloc z7 _).trans hb8
          have z8 := Nat.le_trans z7 hb8'.size
          have g0 := (hb8'.cell (p := ⟨w.heap.size, 2, none⟩) (Nat.lt_succ_self _)).trans e0
          have g1 := (hb8'.cell (p := ⟨rb, ro + k * 2, none⟩) hrb).trans e1
          go_wp2_with (go_at_call 47; refine (N5.out _).mono ?_; rintro e w9 ⟨v9, rfl, rd9, hb9⟩; refine Hid.out ?_)
          refine Lib.hid ?_
          go_wp2_with (at_builtin; refine wp_append_apps _ rfl (.tmp 67) (.tmp 68) rfl (w.heap.size + 1) _ _ (X ++ [114] ++ [80]) TB rfl rfl (Or.inl (own8.on hb9)) rd9 htb.1 (by simp; omega) (Nat.le_trans z8 hb9.size) ?_; intro va wa owna hba spa; refine Hid.out ?_)
          refine Lib.hid ?_
          rw [← HX2.out] at owna
          have hbA := (hb7'.trans hb8').trans ((hb9.mono z8).trans hba)
          go_wp2
          go_roundw
          case rel => exact ⟨k + 1, by omega, by omega, by go_num, owna, hbr.trans hbA⟩
          case measure => simp [intOf]; omega
    · have hkn : k = n := by omega
      have HF : Hid (out = headOf m ++ rcsBytes plain (m.rcpts.take k)) := by
        unfold Hid; rw [HO.out, if_neg (by omega), List.take_of_length_le (by rw [HN.out]; omega)]
      rw [← HF.out] at hown
      subst hkn
      clear hml htl hxl
      go_wp2
      go_ret
      exact ⟨_, rfl, hown.mono (Nat.le_succ _), bw3.trans (hbr.mono (Nat.le_succ _))⟩
end Go.Proofs.YthoeicidilnleaaDoor.Codec
