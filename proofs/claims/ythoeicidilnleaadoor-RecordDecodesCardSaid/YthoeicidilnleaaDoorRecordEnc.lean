/-
  RECORD: Encode and MarkAt of the program.
-/
import Derived.Test.YthoeicidilnleaaDoorRecordHead
namespace Go.Proofs.YthoeicidilnleaaDoor.Codec
open Go.RowKit

/-- The bytes ahead of the sum when the first k marks stand in their places. -/
def markedTo (m : Msg) (k : Nat) : List UInt8 := headOf m ++ rcsBytes false (m.rcpts.take k) ++ rcsBytes true (m.rcpts.drop k) ++ 100 :: textBytes m.data
theorem markedTo_zero (m : Msg) : markedTo m 0 = bodyOf true m := by simp [markedTo, bodyOf, rcsBytes]
theorem markedTo_all (m : Msg) : markedTo m m.rcpts.length = bodyOf false m := by simp [markedTo, bodyOf, rcsBytes]
theorem drop_consR {rs : List Rc} {k : Nat} (h : k < rs.length) : rs.drop k = rs.getD k rc0 :: rs.drop (k + 1) := by
  rw [List.drop_eq_getElem_cons h]; simp [List.getD, List.getElem?_eq_getElem h]
theorem set_mid (P Q : List UInt8) (a b c : UInt8) (n : Nat) (h : n = P.length + 1) : (P ++ a :: b :: Q).set n c = P ++ a :: c :: Q := by
  subst h
  rw [List.set_append_right _ _ (by omega), show P.length + 1 - P.length = 1 by omega]
  rfl
theorem markedTo_step {m : Msg} {k : Nat} (h : k < m.rcpts.length) : (markedTo m k).set (markAt m k) (m.rcpts.getD k rc0).2 = markedTo m (k + 1) := by
  have e1 : markedTo m k = (headOf m ++ rcsBytes false (m.rcpts.take k)) ++ 114 :: 80 :: (textBytes (m.rcpts.getD k rc0).1.data.toList ++ rcsBytes true (m.rcpts.drop (k + 1)) ++ 100 :: textBytes m.data) := by
    unfold markedTo
    rw [drop_consR h]
    simp [rcsBytes, rcBytes]
  have e2 : markedTo m (k + 1) = (headOf m ++ rcsBytes false (m.rcpts.take k)) ++ 114 :: (m.rcpts.getD k rc0).2 :: (textBytes (m.rcpts.getD k rc0).1.data.toList ++ rcsBytes true (m.rcpts.drop (k + 1)) ++ 100 :: textBytes m.data) := by
    unfold markedTo
    rw [rcs_take h false]
    simp [rcBytes]
  rw [e1, e2]
  refine set_mid _ _ _ _ _ _ ?_
  unfold markAt
  rw [List.length_append, rcsBytes_len false true]
theorem markedTo_len (m : Msg) (k : Nat) : (markedTo m k).length = (bodyOf true m).length := by
  rw [← markedTo_zero]
  unfold markedTo
  simp only [List.length_append]
  have h1 := rcsBytes_len false true (m.rcpts.take k)
  have h2 : (rcsBytes true m.rcpts).length = (rcsBytes true (m.rcpts.take k)).length + (rcsBytes true (m.rcpts.drop k)).length := by
    rw [← List.length_append]; simp only [rcsBytes, ← List.flatMap_append, List.take_append_drop]
  have h3 : rcsBytes false (m.rcpts.take 0) = [] := rfl
  rw [h3, List.drop_zero, h2, h1]
  simp
  omega
theorem markAt_lt {m : Msg} {k : Nat} (h : k < m.rcpts.length) : markAt m k < (bodyOf true m).length := by
  rw [← markedTo_len m k]
  have := rcsBytes_len false true (m.rcpts.take k)
  unfold markAt markedTo
  rw [drop_consR h]
  simp [rcsBytes, rcBytes] at this ⊢
  omega
theorem bodyOf_len {m : Msg} (h : Valid m) (p : Bool) : (bodyOf p m).length ≤ 1200000 := by
  have h1 := headOf_len h
  obtain ⟨_, _, _, _, h5, h6, h7⟩ := h
  have h2 := rcsBytes_len_le p m.rcpts h6
  have h3 := (textBytes_len h7).2
  unfold bodyOf
  simp only [List.length_append, List.length_cons]
  omega

theorem cEncode_no (v : Value) (m : Msg) (w : World) (hf : Fits m) (hm : MR w v m) (hr : rightOf m ≠ 0) :
    Calls Tryd.prog 10 #[v] w (OwnEnd [] (rightOf m) w) := by
  have R1 := Lib.hid (fun w1 (hb : Below w.heap.size w w1) => cRight v m w1 hf (hm.on hb))
  obtain ⟨A, c, D, e, rfl, hrr, hd⟩ := hm
  unfold msgV at *
  have hne : (rightOf m != 0) = true := by simpa using hr
  generalize rightOf m = z at *
  clear hrr hd hf hr
  go_enter Tryd.func10, Tryd.ntmps10
  go_wp2_with (go_at_call 11; refine (R1.out _ (Below.alloc1 _ _)).mono ?_; rintro e w1 ⟨rfl, hb1⟩; refine Hid.out ?_)
  refine Lib.hid ?_
  go_wp2
  go_ret2
  exact ⟨_, rfl, owns_nil _ _, (Below.alloc1 _ _).trans (hb1.mono (by simp))⟩

set_option maxHeartbeats 1000000 in
set_option maxRecDepth 100000 in
theorem cEncode_yes (v : Value) (m : Msg) (w : World) (hf : Fits m) (hm : MR w v m) (hr : rightOf m = 0) (htab : Tab w.heap.size w) :
    Calls Tryd.prog 10 #[v] w (OwnEnd (bytesOf m) 0 w) := by
  have hv := (valid_of hr).1
  have R1 : Hid (∀ w1, Below w.heap.size w w1 → Calls Tryd.prog 11 #[v] w1 fun e w' => e = .returned (.int .i64 0) ∧ Below w1.heap.size w1 w') := fun w1 hb => by have := cRight v m w1 hf (hm.on hb); rwa [hr] at this
  have R2 := Lib.hid (fun w1 (hb : Below w.heap.size w w1) => cHead v m w1 hv (hm.on hb) ((htab.on hb).up hb.size))
  have HT := Lib.hid htab
  have hlen := bodyOf_len hv true
  have hv' := hv
  obtain ⟨_, _, _, _, h5, _, h7⟩ := hv'
  obtain ⟨A, c, D, e, rfl, hrr, hd⟩ := hm
  unfold msgV at *
  have HR := Lib.hid hrr
  have HD := Lib.hid hd
  clear hrr hd hr htab hf hv
  obtain ⟨w1, hw1⟩ : ∃ w1, w1 = w.alloc (.cells #[.int .i64 m.time, .string m.sender, .slice A m.rcpts.length c, .slice D m.data.length e] 25) := ⟨_, rfl⟩
  have hb1 : Below w.heap.size w w1 := by rw [hw1]; exact Below.alloc1 _ _
  have bx1 : BoxAt w1 w.heap.size m.time m.sender (.slice A m.rcpts.length c) (.slice D m.data.length e) := by rw [hw1]; exact BoxAt.new ..
  have z1 : w.heap.size < w1.heap.size := by rw [hw1]; simp
  go_enter Tryd.func10, Tryd.ntmps10
  have HW := Lib.hid hw1
  clear hw1
  go_wp2_with (go_at_call 11; refine (R1.out _ (Below.alloc1 _ _)).mono ?_; rintro e w2 ⟨rfl, hb2⟩; refine Hid.out ?_)
  refine Lib.hid ?_
  rw [← HW.out] at hb2
  have bx2 := bx1.on hb2 z1
  obtain ⟨c0, c1, c2, c3⟩ := bx2
  clear bx1 HW
  go_wp2_with (go_at_call 24; refine (R2.out _ (hb1.trans (hb2.mono (Nat.le_of_lt z1)))).mono ?_; rintro e w3 ⟨b3, mv3, rfl, own3, mk3, hb3⟩; refine Hid.out ?_)
  refine Lib.hid ?_
  have z2 := hb2.size
  have z3 := hb3.size
  have bx3 : BoxAt w3 w.heap.size m.time m.sender (.slice A m.rcpts.length c) (.slice D m.data.length e) := BoxAt.on (w := w2) ⟨c0, c1, c2, c3⟩ hb3 (by omega)
  have bw3 : Below w.heap.size w w3 := (hb1.trans (hb2.mono (Nat.le_of_lt z1))).trans (hb3.mono (by omega))
  replace own3 := own3.mono (B' := w.heap.size + 1) (by omega)
  replace mk3 := mk3.mono (B' := w.heap.size + 1) (by omega)
  have zz : w.heap.size + 1 ≤ w3.heap.size := by omega
  clear c0 c1 c2 c3 R1 R2 hb1 hb2 hb3 z1 z2 z3
  have HT3 : Hid (Tab (w.heap.size + 1) w3) := (HT.out.on bw3).up (Nat.le_succ _)
  obtain ⟨DS, hDS⟩ : ∃ DS : ByteArray, DS = ⟨m.data.toArray⟩ := ⟨_, rfl⟩
  have hDSl : DS.data.toList = m.data := by rw [hDS]
  have hDSs : DS.size = m.data.length := by rw [hDS]; exact List.size_toArray
  have hplain : headOf m ++ rcsBytes true m.rcpts ++ [100] ++ textBytes DS.data.toList = markedTo m 0 := by rw [markedTo_zero, hDSl]; simp [bodyOf]
  have hcv : ∀ wx, Below w.heap.size w wx → (convert 23 9 (.slice D m.data.length e)).run Tryd.prog wx = .ok (.string DS) wx := fun wx hb => by rw [hDS]; exact conv_reads (HD.out.on hb)
  have hxl : (headOf m ++ rcsBytes true m.rcpts).length ≤ 1200000 := by
    have : (headOf m ++ rcsBytes true m.rcpts ++ [100] ++ textBytes DS.data.toList).length ≤ 1200000 := by rw [hplain, markedTo_len]; exact hlen
    simp only [List.length_append] at this ⊢
    omega
  have HPL := Lib.hid hplain
  have HMD : Hid (∀ k, (markedTo m k).length = (bodyOf true m).length) := markedTo_len m
  generalize hX : headOf m ++ rcsBytes true m.rcpts = X at own3 HPL hxl
  have N4 : Hid (∀ v w4, Owns w4 (w.heap.size + 1) v (X ++ [100]) → Below (w.heap.size + 1) w3 w4 → Calls Tryd.prog 25 #[v, .string DS] w4 (AddEnd2 (w.heap.size + 1) v ((X ++ [100]) ++ textBytes DS.data.toList) w4)) := fun v w4 ha hb => cAddText _ v _ DS w4 (Or.inl ha) (Nat.le_trans zz hb.size) (by simp; omega) (by omega) (HT3.out.on hb)
  have hbA : Below w.heap.size w (w3.alloc (.cells #[.int .u8 100] 5)).drew := (bw3.alloc (by omega) _).drew
  have HCV := Lib.hid hcv
  clear hplain hDS hX hcv hDSl
  obtain ⟨c0, c1, c2, c3⟩ := bx3
  have hcA : (w3.alloc (.cells #[.int .u8 100] 5)).drew.cell? ⟨w.heap.size, 3, none⟩ = some (.slice D m.data.length e) := (((Below.refl (w.heap.size + 1) w3).alloc zz _).drew.cell (p := ⟨w.heap.size, 3, none⟩) (Nat.lt_succ_self _)).trans c3
  refine Hid.out ?_
  refine Lib.hid ?_
  go_wp2_with fail
  go_region_held3 (fun w' => w'.cell? ⟨w.heap.size, 3, none⟩ = some (.slice D m.data.length e) ∧ (convert 23 9 (.slice D m.data.length e)).run Tryd.prog w' = .ok (.string DS) w')
    (first
      | (exact ⟨c3, HCV.out _ bw3.drew⟩)
      | (exact ⟨hcA, HCV.out _ hbA⟩)
      | (exact ⟨hc4, HCV.out _ hw4⟩)
      | (exact ⟨hc5, HCV.out _ hw5⟩)
      | fail)
    (first
      | (refine step_append_apps _ rfl (.tmp 20) (.tmp 21) rfl (w.heap.size + 1) b3 (.slice (some ⟨w3.heap.size, 0, none⟩) 1 1) X [100] rfl rfl (Or.inl (own3.on ((Below.refl _ _).alloc (Nat.le_refl _) _).drew)) (reads_one _ _ _ 100 rfl).drew (Nat.succ_pos 0) (by simp; omega) (by simp; omega) ?_; intro v4 w4 own4 hb4 sp4; have hw4 := hbA.trans (hb4.mono (Nat.le_succ _)); have hc4 := (hb4.cell (p := ⟨w.heap.size, 3, none⟩) (Nat.lt_succ_self _)).trans hcA)
      | (go_at_call 25; refine (N4.out _ _ own4 (((Below.refl _ _).alloc zz _).drew.trans hb4)).mono ?_; rintro e w5 ⟨v5, rfl, own5, hb5, sp5⟩; have hw5 := hw4.trans (hb5.mono (Nat.le_succ _)); have hc5 := (hb5.cell (p := ⟨w.heap.size, 3, none⟩) (Nat.lt_succ_self _)).trans hc4))
  rw [HPL.out] at own5
  have sp45 : Marks w5 (w.heap.size + 1) mv3 (marksTo m m.rcpts.length) :=
    ((mk3.on ((Below.refl _ _).alloc (Nat.le_refl _) _).drew).spared sp4 (own3.on ((Below.refl _ _).alloc (Nat.le_refl _) _).drew)).spared sp5 own4
  have hbb : Below (w.heap.size + 1) w3 w5 := (((Below.refl _ _).alloc zz _).drew.trans hb4).trans hb5
  have bx5 : BoxAt w5 w.heap.size m.time m.sender (.slice A m.rcpts.length c) (.slice D m.data.length e) := BoxAt.on (w := w3) ⟨c0, c1, c2, c3⟩ hbb (Nat.lt_succ_self _)
  have z5 := Nat.le_trans zz hbb.size
  have HT5 : Hid (Tab (w.heap.size + 1) w5) := HT3.out.on hbb
  have S1 : Hid (∀ v w, Reads w v (markedTo m 0) → Calls Tryd.prog 26 #[v] w fun e w' => e = .returned (.int .u32 (crc (bodyOf true m) : Nat)) ∧ w = w') := fun v w h => by
    have := cSum v _ w h (by rw [HMD.out]; omega)
    rw [markedTo_zero] at this; exact this
  have hcr := crc_le (bodyOf true m)
  have S2 : Hid (∀ w, Calls Tryd.prog 27 #[.int .u32 (crc (bodyOf true m) : Nat)] w fun e w' => e = .returned (.string ⟨(hexOf (crc (bodyOf true m))).toArray⟩) ∧ Below w.heap.size w w') := fun w => cHex_any _ hcr w
  have HB : Hid (bytesOf m = markedTo m m.rcpts.length ++ [101] ++ hexOf (crc (bodyOf true m)) ++ [10]) := by unfold Hid; rw [markedTo_all]; simp [bytesOf]
  have hhl : (hexOf (crc (bodyOf true m))).length = 8 := rfl
  obtain ⟨H, hH⟩ : ∃ H, H = hexOf (crc (bodyOf true m)) := ⟨_, rfl⟩
  rw [← hH] at S2 HB hhl
  generalize crc (bodyOf true m) = cr at S1 S2
  clear hH hcr mk3 own3 own4 sp4 sp5 hb4 hb5 hw4 hc4 hw5 hc5 hbA hcA N4 HT3 hxl HPL HT c0 c1 c2 c3
  obtain ⟨c0, c1, c2, c3⟩ := bx5
  refine Hid.out ?_
  refine Lib.hid ?_
  go_wp2_with (go_at_call 26; refine (S1.out _ _ own5.reads).mono ?_; rintro e w6 ⟨rfl, rfl⟩; refine Hid.out ?_)
  refine Lib.hid ?_
  obtain ⟨g5, q5, hv5, hq5, hq5'⟩ := own5.form2 (by unfold markedTo; simp only [List.length_append, List.length_cons]; omega)
  rw [HMD.out] at hv5
  generalize hL : (bodyOf true m).length = L at *
  subst hv5
  obtain ⟨gm, qm, hvm, hqm, hgmB⟩ : ∃ gm qm, mv3 = .slice (some ⟨gm, 0, none⟩) m.rcpts.length qm ∧ m.rcpts.length ≤ qm ∧ w.heap.size + 1 ≤ gm := by
    rcases sp45.2 with ⟨_, hn⟩ | ⟨g, cap, cur, hv, h1, _, h3, _⟩
    · rw [marksTo_len] at hn; omega
    · rw [marksTo_len] at hv h3; exact ⟨g, cap, hv, h3, h1⟩
  subst hvm
  have hL5 := Lib.hid hL
  clear hL
  have hown0 : Owns w5 (w.heap.size + 1) (.slice (some ⟨g5, 0, none⟩) L q5) (markedTo m 0) := own5
  generalize hn : m.rcpts.length = n at sp45 HB hqm h5 c2 ⊢
  have hMk : Hid (∀ k, k < n → (marksTo m n).getD k 0 = markAt m k ∧ markAt m k < L) := fun k hk => by
    refine ⟨?_, by rw [← hL5.out]; exact markAt_lt (by omega)⟩
    unfold marksTo; rw [hn]; simp [List.getD, hk]
  have hstep : Hid (∀ k, k < n → (markedTo m k).set (markAt m k) (m.rcpts.getD k rc0).2 = markedTo m (k + 1)) := fun k hk => markedTo_step (by omega)
  have hml : Hid ((marksTo m n).length = n) := by unfold Hid; rw [marksTo_len, hn]
  have HN := Lib.hid hn
  have hMk0 : Marks w5 (w.heap.size + 1) (.slice (some ⟨gm, 0, none⟩) n qm) (marksTo m n) := sp45
  clear hn own5 sp45
  go_wp2_with fail
  go_loopw [31] (fun i wr => ∃ k : Nat, k ≤ n ∧ i = .int .i64 k ∧ Owns wr (w.heap.size + 1) (.slice (some ⟨g5, 0, none⟩) L q5) (markedTo m k) ∧ Marks wr (w.heap.size + 1) (.slice (some ⟨gm, 0, none⟩) n qm) (marksTo m n) ∧ Below (w.heap.size + 1) w5 wr) (fun i _ => n - (intOf i).toNat)
  case atStart => exact ⟨0, by omega, rfl, hown0, hMk0, Below.refl _ _⟩
  case round =>
    obtain ⟨k, hk, rfl, hown, hmarks, hbr⟩ := hrel
    by_cases hlt : k < n
    · have hrr : RR w A c m.rcpts := HR.out
      obtain ⟨rb, ro, rfl, hcell⟩ := (hrr.on ((bw3.trans (hbb.mono (Nat.le_succ _))).trans (hbr.mono (Nat.le_succ _)))).2 (by rw [HN.out]; omega)
      obtain ⟨hc1, hc2⟩ := hcell k (by rw [HN.out]; omega)
      obtain ⟨e1, e2⟩ := hMk.out k hlt
      have e3 := hstep.out k hlt
      generalize m.rcpts.getD k rc0 = r at hc1 hc2 e3
      obtain ⟨S, x⟩ := r
      dsimp only at hc1 hc2 e3
      have mk' : wr.ownsRow (w.heap.size + 1) 3 1 (.slice (some ⟨gm, 0, none⟩) n qm) n ((marksTo m n).map fun (k : Nat) => Value.int .i64 (k : Int)) := by have := hmarks; unfold Marks at this; rwa [hml.out] at this
      have hcg : wr.cell? ⟨gm, k, none⟩ = some (.int .i64 (markAt m k : Nat)) := by
        rw [mk'.cellAt k (by omega), ← e1]
        have : k < (marksTo m n).length := by rw [hml.out]; exact hlt
        simp [List.getD, List.getElem?_eq_getElem this]
      generalize markAt m k = M at e1 e2 e3 hcg
      have hown' : Owns wr (w.heap.size + 1) (.slice (some ⟨g5, 0, none⟩) (markedTo m k).length q5) (markedTo m k) := by rw [HMD.out]; exact hown
      have hbc := hown'.cell M (by rw [HMD.out]; exact e2)
      have hbf := hown'.free M
      have hst := hown'.stored M x (by rw [HMD.out]; exact e2)
      rw [e3, HMD.out] at hst
      have hms : Marks (wr.setCell ⟨g5, M, none⟩ (.int .u8 (x.toNat : Int))) (w.heap.size + 1) (.slice (some ⟨gm, 0, none⟩) n qm) (marksTo m n) := by
        refine ownsRow_setCell_other hmarks ?_ _
        rcases own_apart hown hmarks (by decide) with h | h
        · simp [Value.ownBlock] at h
        · exact fun e => h (by rw [e]; rfl)
      have hg5 := (World.ownsRow.lt hown g5 rfl).1
      have bxr : BoxAt wr w.heap.size m.time m.sender (.slice (some ⟨rb, ro, none⟩) n c) (.slice D m.data.length e) := BoxAt.on (w := w5) ⟨c0, c1, c2, c3⟩ hbr (Nat.lt_succ_self _)
      obtain ⟨d0, d1, d2, d3⟩ := bxr
      generalize (markedTo m k).getD M 0 = bo at hbc
      have HST := Lib.hid hst
      have HMS := Lib.hid hms
      clear hcell e1 e3 mk' hown' hst hms hown hmarks hrr
      go_wp2_with fail
      go_roundw
      case rel => exact ⟨k + 1, by omega, by go_num, HST.out, HMS.out, hbr.setCell hg5 _⟩
      case measure => simp [intOf]; omega
    · obtain rfl : k = n := by omega
      have HO := Lib.hid hown
      have hzr := hbr.size
      have hlL : (markedTo m k).length = L := HMD.out k
      obtain ⟨Y, hY⟩ : ∃ Y, Y = markedTo m k := ⟨_, rfl⟩
      rw [← hY] at hlL HO HB
      clear hlt hown hmarks hY
      have hll : Y.length ≤ 1200000 := by omega
      refine Hid.out ?_
      refine Lib.hid ?_
      go_wp2_with (at_builtin; refine wp_append_apps _ rfl (.tmp 46) (.tmp 47) rfl (w.heap.size + 1) _ _ Y [101] rfl rfl (Or.inl (HO.out.on (Below.alloc1 _ _))) (reads_one _ _ _ 101 rfl) (Nat.succ_pos 0) (by simp; omega) (by simp; omega) ?_; intro v7 w7 own7 hb7 sp7; refine Hid.out ?_)
      refine Lib.hid ?_
      have hb7' : Below (w.heap.size + 1) wr w7 := ((Below.refl _ _).alloc (by omega) _).trans hb7
      have hz7 := hb7'.size
      go_wp2_with (go_at_call 27; refine (S2.out _).mono ?_; rintro e w8 ⟨rfl, hb8⟩; refine Hid.out ?_)
      refine Lib.hid ?_
      have hz8 := hb8.size
      go_wp2_with (at_builtin; refine wp_append_str _ rfl (.tmp 49) (.tmp 51) rfl (w.heap.size + 1) v7 (Y ++ [101]) ⟨H.toArray⟩ rfl rfl (own7.on hb8) (by simp [ByteArray.size]; omega) (by omega) ?_; intro v9 w9 own9 hb9; refine Hid.out ?_)
      refine Lib.hid ?_
      have hz9 := hb9.size
      have own9' : Owns w9 (w.heap.size + 1) v9 (Y ++ [101] ++ H) := own9
      clear own9
      go_wp2_with (at_builtin; refine wp_append_apps _ rfl (.tmp 53) (.tmp 54) rfl (w.heap.size + 1) _ _ (Y ++ [101] ++ H) [10] rfl rfl (Or.inl (own9'.on (Below.alloc1 _ _))) (reads_one _ _ _ 10 rfl) (Nat.succ_pos 0) (by simp; omega) (by simp; omega) ?_; intro va wa owna hba spa; refine Hid.out ?_)
      refine Lib.hid ?_
      rw [← HB.out] at owna
      go_wp2
      go_ret2
      refine ⟨_, rfl, owna.mono (Nat.le_succ _), ?_⟩
      have t1 : Below (w.heap.size + 1) w3 w9 := (((hbb.trans hbr).trans hb7').trans (hb8.mono (by omega))).trans hb9
      have t2 : Below (w.heap.size + 1) w3 wa := (t1.alloc (by omega) _).trans hba
      exact bw3.trans (t2.mono (Nat.le_succ _))

theorem cMarkAt_no (v : Value) (m : Msg) (i : Int) (w : World) (hf : Fits m) (hm : MR w v m) (hr : rightOf m ≠ 0) :
    Calls Tryd.prog 12 #[v, .int .i64 i] w fun e w' => e = .returned (.tuple #[.int .i64 0, .int .i64 (rightOf m)]) ∧ Below w.heap.size w w' := by
  have R1 := Lib.hid (fun w1 (hb : Below w.heap.size w w1) => cRight v m w1 hf (hm.on hb))
  obtain ⟨A, c, D, e, rfl, hrr, hd⟩ := hm
  unfold msgV at *
  have hne : (rightOf m != 0) = true := by simpa using hr
  generalize rightOf m = z at *
  clear hrr hd hf hr
  go_enter Tryd.func12, Tryd.ntmps12
  go_wp2_with (go_at_call 11; refine (R1.out _ (Below.alloc1 _ _)).mono ?_; rintro e w1 ⟨rfl, hb1⟩; refine Hid.out ?_)
  refine Lib.hid ?_
  go_wp2
  go_ret2
  exact ⟨rfl, (Below.alloc1 _ _).trans (hb1.mono (by simp))⟩
set_option maxHeartbeats 1000000 in
set_option maxRecDepth 100000 in
theorem cMarkAt_yes (v : Value) (m : Msg) (i : Int) (w : World) (hf : Fits m) (hm : MR w v m) (hr : rightOf m = 0) (htab : Tab w.heap.size w) :
    Calls Tryd.prog 12 #[v, .int .i64 i] w fun e w' => e = .returned (if 0 ≤ i ∧ i < m.rcpts.length then .tuple #[.int .i64 (markAt m i.toNat : Nat), .int .i64 0] else .tuple #[.int .i64 0, .int .i64 1]) ∧ Below w.heap.size w w' := by
  have hv := (valid_of hr).1
  have R1 : Hid (∀ w1, Below w.heap.size w w1 → Calls Tryd.prog 11 #[v] w1 fun e w' => e = .returned (.int .i64 0) ∧ Below w1.heap.size w1 w') := fun w1 hb => by have := cRight v m w1 hf (hm.on hb); rwa [hr] at this
  have R2 := Lib.hid (fun w1 (hb : Below w.heap.size w w1) => cHead v m w1 hv (hm.on hb) ((htab.on hb).up hb.size))
  obtain ⟨_, _, _, h4, h5, _, h7⟩ := hv
  obtain ⟨A, c, D, e, rfl, hrr, hd⟩ := hm
  unfold msgV at *
  clear hrr hd hr htab hf
  obtain ⟨w1, hw1⟩ : ∃ w1, w1 = w.alloc (.cells #[.int .i64 m.time, .string m.sender, .slice A m.rcpts.length c, .slice D m.data.length e] 25) := ⟨_, rfl⟩
  have hb1 : Below w.heap.size w w1 := by rw [hw1]; exact Below.alloc1 _ _
  have bx1 : BoxAt w1 w.heap.size m.time m.sender (.slice A m.rcpts.length c) (.slice D m.data.length e) := by rw [hw1]; exact BoxAt.new ..
  have z1 : w.heap.size < w1.heap.size := by rw [hw1]; simp
  have hMk : Hid (∀ k, k < m.rcpts.length → (marksTo m m.rcpts.length).getD k 0 = markAt m k) := fun k hk => by
    unfold marksTo; simp [List.getD, hk]
  have hml := Lib.hid (marksTo_len m m.rcpts.length)
  generalize hn : m.rcpts.length = n at h4 h5 bx1 hMk hml R1 R2 hw1 ⊢
  clear hn
  obtain ⟨out, ho⟩ : ∃ out, out = (if 0 ≤ i ∧ i < n then Value.tuple #[.int .i64 (markAt m i.toNat : Nat), .int .i64 0] else .tuple #[.int .i64 0, .int .i64 1]) := ⟨_, rfl⟩
  rw [← ho]
  have HO := Lib.hid ho
  clear ho
  go_enter Tryd.func12, Tryd.ntmps12
  have HW := Lib.hid hw1
  clear hw1
  go_wp2_with (go_at_call 11; refine (R1.out _ (Below.alloc1 _ _)).mono ?_; rintro e w2 ⟨rfl, hb2⟩; refine Hid.out ?_)
  refine Lib.hid ?_
  rw [← HW.out] at hb2
  have bx2 := bx1.on hb2 z1
  obtain ⟨c0, c1, c2, c3⟩ := bx2
  clear bx1 HW
  have bw2 := hb1.trans (hb2.mono (Nat.le_of_lt z1))
  by_cases hi0 : i < 0
  · go_wp2
    go_ret2
    exact ⟨by rw [HO.out, if_neg (by omega)]; rfl, bw2⟩
  by_cases hi1 : (n : Int) ≤ i
  · go_wp2
    go_ret2
    exact ⟨by rw [HO.out, if_neg (by omega)]; rfl, bw2⟩
  obtain ⟨k, rfl⟩ := Int.eq_ofNat_of_zero_le (show 0 ≤ i by omega)
  have hk : k < n := by omega
  have HO2 : Hid (out = .tuple #[.int .i64 (markAt m k : Nat), .int .i64 0]) := by unfold Hid; rw [HO.out, if_pos (by omega), show (k : Int).toNat = k by omega]
  clear HO
  go_wp2_with (go_at_call 24; refine (R2.out _ bw2).mono ?_; rintro e w3 ⟨b3, mv3, rfl, own3, mk3, hb3⟩; refine Hid.out ?_)
  refine Lib.hid ?_
  obtain ⟨gm, qm, hvm⟩ : ∃ gm qm, mv3 = .slice (some ⟨gm, 0, none⟩) n qm := by
    rcases mk3.2 with ⟨_, hn⟩ | ⟨g, cap, cur, hv, h1, _, h3, _⟩
    · rw [hml.out] at hn; omega
    · rw [hml.out] at hv; exact ⟨g, cap, hv⟩
  subst hvm
  have mk' : w3.ownsRow w2.heap.size 3 1 (.slice (some ⟨gm, 0, none⟩) n qm) n ((marksTo m n).map fun (k : Nat) => Value.int .i64 (k : Int)) := by have := mk3; unfold Marks at this; rwa [hml.out] at this
  have hcg : w3.cell? ⟨gm, k, none⟩ = some (.int .i64 (markAt m k : Nat)) := by
    rw [mk'.cellAt k (by omega), ← hMk.out k hk]
    have : k < (marksTo m n).length := by rw [hml.out]; exact hk
    simp [List.getD, List.getElem?_eq_getElem this]
  generalize markAt m k = M at hcg HO2
  clear own3 mk3 mk' hi0 hi1
  go_wp2
  go_ret2
  exact ⟨by rw [HO2.out]; rfl, bw2.trans (hb3.mono bw2.size)⟩
end Go.Proofs.YthoeicidilnleaaDoor.Codec
