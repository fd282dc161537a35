/-
  RECORD: the document's answer: Encode, MarkAt; a copy; whether two are the same.
-/
import Derived.Test.YthoeicidilnleaaDoorRecordRef
namespace Go.Proofs.YthoeicidilnleaaDoor.Codec
open Go.RowKit

theorem rEncode_no (v : Value) (m : Msg) (w : World) (hf : Fits m) (hm : MR w v m) (hr : rightOf m ≠ 0) :
    Calls Tryd.prog 9 #[v] w (OwnEnd [] (rightOf m) w) := by
  have R1 := Lib.hid (fun w1 (hb : Below w.heap.size w w1) => rRight v m w1 hf (hm.on hb))
  obtain ⟨A, c, D, e, rfl, hrr, hd⟩ := hm
  unfold msgV at *
  have hne : (rightOf m != 0) = true := by simpa using hr
  generalize rightOf m = z at *
  clear hrr hd hf hr
  go_enter Tryd.func9, Tryd.ntmps9
  go_wp2_with (go_at_call 15; refine (R1.out _ (Below.alloc1 _ _)).mono ?_; rintro e w1 ⟨rfl, hb1⟩; refine Hid.out ?_)
  refine Lib.hid ?_
  go_wp2
  go_ret2
  exact ⟨_, rfl, owns_nil _ _, (Below.alloc1 _ _).trans (hb1.mono (by simp))⟩

set_option maxHeartbeats 1000000 in
set_option maxRecDepth 100000 in
theorem rEncode_yes (v : Value) (m : Msg) (w : World) (hf : Fits m) (hm : MR w v m) (hr : rightOf m = 0) :
    Calls Tryd.prog 9 #[v] w (OwnEnd (bytesOf m) 0 w) := by
  have hv := (valid_of hr).1
  have R1 : Hid (∀ w1, Below w.heap.size w w1 → Calls Tryd.prog 15 #[v] w1 fun e w' => e = .returned (.int .i64 0) ∧ Below w1.heap.size w1 w') := fun w1 hb => by have := rRight v m w1 hf (hm.on hb); rwa [hr] at this
  have hl1 := bodyOf_len hv true
  have hl2 := bodyOf_len hv false
  have NH : Hid (∀ plain w1, Below w.heap.size w w1 → Calls Tryd.prog 21 #[v, .int .i64 m.rcpts.length, .bool plain] w1 fun e w' => ∃ b, e = .returned b ∧ Owns w' w1.heap.size b (headOf m ++ rcsBytes plain m.rcpts) ∧ Below w1.heap.size w1 w') := fun plain w1 hb => by
    have := rHead v m m.rcpts.length plain w1 hv (hm.on hb) (by have := hf.2.1; omega)
    unfold refHead at this
    rwa [if_neg (by omega)] at this
  obtain ⟨_, _, _, _, h5, _, h7⟩ := hv
  obtain ⟨A, c, D, e, rfl, hrr, hd⟩ := hm
  unfold msgV at *
  have HD := Lib.hid hd
  clear hrr hd hr hf
  obtain ⟨DS, hDS⟩ : ∃ DS : ByteArray, DS = ⟨m.data.toArray⟩ := ⟨_, rfl⟩
  have hDSl : DS.data.toList = m.data := by rw [hDS]
  have hDSs : DS.size = m.data.length := by rw [hDS]; exact List.size_toArray
  have hcv : ∀ wx, Below w.heap.size w wx → (convert 23 9 (.slice D m.data.length e)).run Tryd.prog wx = .ok (.string DS) wx := fun wx hb => by rw [hDS]; exact conv_reads (HD.out.on hb)
  have hXl : ∀ plain, (headOf m ++ rcsBytes plain m.rcpts).length ≤ 1200000 := fun plain => by
    cases plain
    · unfold bodyOf at hl2; rw [List.length_append] at hl2; omega
    · unfold bodyOf at hl1; rw [List.length_append] at hl1; omega
  have NT : Hid (∀ plain b w1 B, Owns w1 B b (headOf m ++ rcsBytes plain m.rcpts) → B ≤ w1.heap.size → Calls Tryd.prog 20 #[b, .int .u8 100, .string DS] w1 (AddEnd B (bodyOf plain m) w1)) := fun plain b w1 B ho hB => by
    have := rText B b _ 100 100 rfl DS w1 (Or.inl ho) hB (by have := hXl plain; omega) (by omega)
    rwa [hDSl] at this
  have S1 : Hid (∀ v w, Reads w v (bodyOf true m) → Calls Tryd.prog 23 #[v] w fun e w' => e = .returned (.int .u32 (crc (bodyOf true m) : Nat)) ∧ w = w') := fun v w h => rSum v _ w h (by omega)
  have hcr := crc_le (bodyOf true m)
  have S2 : Hid (∀ w, Calls Tryd.prog 22 #[.int .u32 (crc (bodyOf true m) : Nat)] w fun e w' => e = .returned (.string ⟨(hexOf (crc (bodyOf true m))).toArray⟩) ∧ Below w.heap.size w w') := fun w => rHex_any _ hcr w
  have HB : Hid (bytesOf m = bodyOf false m ++ [101] ++ hexOf (crc (bodyOf true m)) ++ [10]) := by unfold Hid; simp [bytesOf]
  have hhl : (hexOf (crc (bodyOf true m))).length = 8 := rfl
  obtain ⟨H, hH⟩ : ∃ H, H = hexOf (crc (bodyOf true m)) := ⟨_, rfl⟩
  rw [← hH] at S2 HB hhl
  generalize crc (bodyOf true m) = cr at S1 S2
  have HCV := Lib.hid hcv
  clear hDS hDSl hcv hXl hH hcr
  generalize m.rcpts.length = n at *
  obtain ⟨w1, hw1⟩ : ∃ w1, w1 = w.alloc (.cells #[.int .i64 m.time, .string m.sender, .slice A n c, .slice D m.data.length e] 25) := ⟨_, rfl⟩
  have hb1 : Below w.heap.size w w1 := by rw [hw1]; exact Below.alloc1 _ _
  have bx1 : BoxAt w1 w.heap.size m.time m.sender (.slice A n c) (.slice D m.data.length e) := by rw [hw1]; exact BoxAt.new ..
  have z1 : w.heap.size < w1.heap.size := by rw [hw1]; simp
  have HW := Lib.hid hw1
  clear hw1
  go_enter Tryd.func9, Tryd.ntmps9
  go_wp2_with (go_at_call 15; refine (R1.out _ (Below.alloc1 _ _)).mono ?_; rintro e w2 ⟨rfl, hb2⟩; refine Hid.out ?_)
  refine Lib.hid ?_
  rw [← HW.out] at hb2
  have bx2 := bx1.on hb2 z1
  have bw2 := hb1.trans (hb2.mono (Nat.le_of_lt z1))
  have z2 := hb2.size
  obtain ⟨c0, c1, c2, c3⟩ := bx2
  have d1 := HCV.out _ bw2
  clear bx1 HW
  go_wp2_with fail
  go_region_held3 (fun w' => w'.cell? ⟨w.heap.size, 0, none⟩ = some (.int .i64 m.time) ∧ w'.cell? ⟨w.heap.size, 1, none⟩ = some (.string m.sender) ∧ w'.cell? ⟨w.heap.size, 2, none⟩ = some (.slice A n c) ∧ w'.cell? ⟨w.heap.size, 3, none⟩ = some (.slice D m.data.length e) ∧ (convert 23 9 (.slice D m.data.length e)).run Tryd.prog w' = .ok (.string DS) w')
    (first
      | (exact ⟨c0, c1, c2, c3, HCV.out _ bw2.drew⟩)
      | (exact ⟨f0, f1, f2, f3, HCV.out _ bw3⟩)
      | (exact ⟨e0, e1, e2, e3, HCV.out _ bw4⟩)
      | fail)
    (first
      | (go_at_call 21; refine (NH.out false _ bw2.drew).mono ?_; rintro ee w3 ⟨bA, rfl, owA, hbA⟩; have f0 := (hbA.cell (p := ⟨w.heap.size, 0, none⟩) (Nat.lt_of_lt_of_le z1 z2)).trans c0; have f1 := (hbA.cell (p := ⟨w.heap.size, 1, none⟩) (Nat.lt_of_lt_of_le z1 z2)).trans c1; have f2 := (hbA.cell (p := ⟨w.heap.size, 2, none⟩) (Nat.lt_of_lt_of_le z1 z2)).trans c2; have f3 := (hbA.cell (p := ⟨w.heap.size, 3, none⟩) (Nat.lt_of_lt_of_le z1 z2)).trans c3; have bw3 := bw2.drew.trans (hbA.mono bw2.size))
      | (go_at_call 20; refine (NT.out false _ _ _ owA hbA.size).mono ?_; rintro ee w4 ⟨bB, rfl, owB, hbB⟩; have e0 := (hbB.cell (p := ⟨w.heap.size, 0, none⟩) (Nat.lt_of_lt_of_le z1 z2)).trans f0; have e1 := (hbB.cell (p := ⟨w.heap.size, 1, none⟩) (Nat.lt_of_lt_of_le z1 z2)).trans f1; have e2 := (hbB.cell (p := ⟨w.heap.size, 2, none⟩) (Nat.lt_of_lt_of_le z1 z2)).trans f2; have e3 := (hbB.cell (p := ⟨w.heap.size, 3, none⟩) (Nat.lt_of_lt_of_le z1 z2)).trans f3; have bw4 := bw3.trans (hbB.mono bw2.size)))
  have z4 := Nat.le_trans z2 (Nat.le_trans hbA.size hbB.size)
  have OB := Lib.hid owB
  clear c0 c1 c2 c3 d1 f0 f1 f2 f3 owA owB
  refine Hid.out ?_
  refine Lib.hid ?_
  go_wp2_with fail
  go_region_held3 (fun w' => w'.cell? ⟨w.heap.size, 0, none⟩ = some (.int .i64 m.time) ∧ w'.cell? ⟨w.heap.size, 1, none⟩ = some (.string m.sender) ∧ w'.cell? ⟨w.heap.size, 2, none⟩ = some (.slice A n c) ∧ w'.cell? ⟨w.heap.size, 3, none⟩ = some (.slice D m.data.length e) ∧ (convert 23 9 (.slice D m.data.length e)).run Tryd.prog w' = .ok (.string DS) w')
    (first
      | (exact ⟨e0, e1, e2, e3, HCV.out _ bw4.drew⟩)
      | (exact ⟨h0, h1, h2, h3, HCV.out _ bw5⟩)
      | (exact ⟨k0, k1, k2, k3, HCV.out _ bw6⟩)
      | fail)
    (first
      | (go_at_call 21; refine (NH.out true _ bw4.drew).mono ?_; rintro ee w5 ⟨bC, rfl, owC, hbC⟩; have h0 := (hbC.cell (p := ⟨w.heap.size, 0, none⟩) (Nat.lt_of_lt_of_le z1 z4)).trans e0; have h1 := (hbC.cell (p := ⟨w.heap.size, 1, none⟩) (Nat.lt_of_lt_of_le z1 z4)).trans e1; have h2 := (hbC.cell (p := ⟨w.heap.size, 2, none⟩) (Nat.lt_of_lt_of_le z1 z4)).trans e2; have h3 := (hbC.cell (p := ⟨w.heap.size, 3, none⟩) (Nat.lt_of_lt_of_le z1 z4)).trans e3; have bw5 := bw4.drew.trans (hbC.mono bw4.size))
      | (go_at_call 20; refine (NT.out true _ _ _ owC hbC.size).mono ?_; rintro ee w6 ⟨bD, rfl, owD, hbD⟩; have k0 := (hbD.cell (p := ⟨w.heap.size, 0, none⟩) (Nat.lt_of_lt_of_le z1 z4)).trans h0; have k1 := (hbD.cell (p := ⟨w.heap.size, 1, none⟩) (Nat.lt_of_lt_of_le z1 z4)).trans h1; have k2 := (hbD.cell (p := ⟨w.heap.size, 2, none⟩) (Nat.lt_of_lt_of_le z1 z4)).trans h2; have k3 := (hbD.cell (p := ⟨w.heap.size, 3, none⟩) (Nat.lt_of_lt_of_le z1 z4)).trans h3; have bw6 := bw5.trans (hbD.mono bw4.size)))
  have ob := (OB.out.mono (B' := w.heap.size) bw2.size).on (((Below.refl w4.heap.size w4).drew).trans (hbC.trans hbD))
  have od := owD
  have z6 := bw6.size
  clear e0 e1 e2 e3 h0 h1 h2 h3 owC owD OB
  refine Hid.out ?_
  refine Lib.hid ?_
  go_wp2_with (go_at_call 23; refine (S1.out _ _ od.reads).mono ?_; rintro ee w7 ⟨rfl, rfl⟩; refine Hid.out ?_)
  refine Lib.hid ?_
  go_wp2_with (go_at_call 22; refine (S2.out _).mono ?_; rintro ee w8 ⟨rfl, hb8⟩; refine Hid.out ?_)
  refine Lib.hid ?_
  have o8 := ob.on hb8
  have bw8 := bw6.trans (hb8.mono z6)
  generalize bodyOf false m = Y at *
  go_wp2_with (at_builtin; refine wp_append_apps _ rfl (.tmp 34) (.tmp 35) rfl w.heap.size _ _ Y [101] rfl rfl (Or.inl (o8.on (Below.alloc1 _ _))) (reads_one _ _ _ 101 rfl) (Nat.succ_pos 0) (by simp; omega) (by simp; have := bw8.size; omega) ?_; intro v9 w9 own9 hb9 sp9; refine Hid.out ?_)
  refine Lib.hid ?_
  have bw9 := (bw8.alloc bw8.size _).trans hb9
  go_wp2_with (at_builtin; refine wp_append_str _ rfl (.tmp 37) (.tmp 38) rfl w.heap.size v9 (Y ++ [101]) ⟨H.toArray⟩ rfl rfl own9 (by simp [ByteArray.size]; omega) bw9.size ?_; intro va wa owna hba; refine Hid.out ?_)
  refine Lib.hid ?_
  have owna' : Owns wa w.heap.size va (Y ++ [101] ++ H) := owna
  clear owna
  have bwa := bw9.trans hba
  go_wp2_with (at_builtin; refine wp_append_apps _ rfl (.tmp 40) (.tmp 41) rfl w.heap.size _ _ (Y ++ [101] ++ H) [10] rfl rfl (Or.inl (owna'.on (Below.alloc1 _ _))) (reads_one _ _ _ 10 rfl) (Nat.succ_pos 0) (by simp; omega) (by simp; have := bwa.size; omega) ?_; intro vb wb ownb hbb spb; refine Hid.out ?_)
  refine Lib.hid ?_
  rw [← HB.out] at ownb
  go_wp2
  go_ret2
  exact ⟨_, rfl, ownb, (bwa.alloc bwa.size _).trans hbb⟩

theorem rMarkAt_no (v : Value) (m : Msg) (i : Int) (w : World) (hf : Fits m) (hm : MR w v m) (hr : rightOf m ≠ 0) :
    Calls Tryd.prog 13 #[v, .int .i64 i] w fun e w' => e = .returned (.tuple #[.int .i64 0, .int .i64 (rightOf m)]) ∧ Below w.heap.size w w' := by
  have R1 := Lib.hid (fun w1 (hb : Below w.heap.size w w1) => rRight v m w1 hf (hm.on hb))
  obtain ⟨A, c, D, e, rfl, hrr, hd⟩ := hm
  unfold msgV at *
  have hne : (rightOf m != 0) = true := by simpa using hr
  generalize rightOf m = z at *
  clear hrr hd hf hr
  go_enter Tryd.func13, Tryd.ntmps13
  go_wp2_with (go_at_call 15; refine (R1.out _ (Below.alloc1 _ _)).mono ?_; rintro e w1 ⟨rfl, hb1⟩; refine Hid.out ?_)
  refine Lib.hid ?_
  go_wp2
  go_ret2
  exact ⟨rfl, (Below.alloc1 _ _).trans (hb1.mono (by simp))⟩
set_option maxHeartbeats 1000000 in
set_option maxRecDepth 100000 in
theorem rMarkAt_yes (v : Value) (m : Msg) (i : Int) (w : World) (hf : Fits m) (hm : MR w v m) (hr : rightOf m = 0) (hi64 : i ≤ 9223372036854775807) :
    Calls Tryd.prog 13 #[v, .int .i64 i] w fun e w' => e = .returned (if 0 ≤ i ∧ i < m.rcpts.length then .tuple #[.int .i64 (markAt m i.toNat : Nat), .int .i64 0] else .tuple #[.int .i64 0, .int .i64 1]) ∧ Below w.heap.size w w' := by
  have hv := (valid_of hr).1
  have R1 : Hid (∀ w1, Below w.heap.size w w1 → Calls Tryd.prog 15 #[v] w1 fun e w' => e = .returned (.int .i64 0) ∧ Below w1.heap.size w1 w') := fun w1 hb => by have := rRight v m w1 hf (hm.on hb); rwa [hr] at this
  have R2 : Hid (∀ w1, Below w.heap.size w w1 → 0 ≤ i → i < m.rcpts.length → Calls Tryd.prog 21 #[v, .int .i64 i, .bool false] w1 fun e w' => ∃ b, e = .returned b ∧ Owns w' w1.heap.size b (headOf m ++ rcsBytes false (m.rcpts.take i.toNat) ++ [114]) ∧ Below w1.heap.size w1 w') := fun w1 hb h0 h1 => by
    have := rHead v m i false w1 hv (hm.on hb) ⟨h0, hi64⟩
    unfold refHead at this
    rwa [if_pos h1] at this
  have hlen : ∀ k, (headOf m ++ rcsBytes false (m.rcpts.take k) ++ [114]).length = markAt m k := fun k => by
    unfold markAt; rw [List.length_append, List.length_append, rcsBytes_len false true]; rfl
  obtain ⟨_, _, _, h4, h5, _, h7⟩ := hv
  obtain ⟨A, c, D, e, rfl, hrr, hd⟩ := hm
  unfold msgV at *
  clear hrr hd hr hf
  obtain ⟨w1, hw1⟩ : ∃ w1, w1 = w.alloc (.cells #[.int .i64 m.time, .string m.sender, .slice A m.rcpts.length c, .slice D m.data.length e] 25) := ⟨_, rfl⟩
  have hb1 : Below w.heap.size w w1 := by rw [hw1]; exact Below.alloc1 _ _
  have bx1 : BoxAt w1 w.heap.size m.time m.sender (.slice A m.rcpts.length c) (.slice D m.data.length e) := by rw [hw1]; exact BoxAt.new ..
  have z1 : w.heap.size < w1.heap.size := by rw [hw1]; simp
  generalize hn : m.rcpts.length = n at h4 h5 bx1 R1 R2 hw1 ⊢
  clear hn
  obtain ⟨out, ho⟩ : ∃ out, out = (if 0 ≤ i ∧ i < n then Value.tuple #[.int .i64 (markAt m i.toNat : Nat), .int .i64 0] else .tuple #[.int .i64 0, .int .i64 1]) := ⟨_, rfl⟩
  rw [← ho]
  have HO := Lib.hid ho
  have HLEN := Lib.hid hlen
  clear ho hlen
  go_enter Tryd.func13, Tryd.ntmps13
  have HW := Lib.hid hw1
  clear hw1
  go_wp2_with (go_at_call 15; refine (R1.out _ (Below.alloc1 _ _)).mono ?_; rintro e w2 ⟨rfl, hb2⟩; refine Hid.out ?_)
  refine Lib.hid ?_
  rw [← HW.out] at hb2
  have bx2 := bx1.on hb2 z1
  obtain ⟨c0, c1, c2, c3⟩ := bx2
  clear bx1 HW
  have bw2 := hb1.trans (hb2.mono (Nat.le_of_lt z1))
  by_cases hi0 : i < 0
  · go_wp2
    go_ret2
    exact ⟨by rw [HO.out, if_neg (by omega)]; rfl, bw2⟩
  by_cases hi1 : (n : Int) ≤ i
  · go_wp2
    go_ret2
    exact ⟨by rw [HO.out, if_neg (by omega)]; rfl, bw2⟩
  obtain ⟨k, rfl⟩ := Int.eq_ofNat_of_zero_le (show 0 ≤ i by omega)
  have hk : k < n := by omega
  have HO2 : Hid (out = .tuple #[.int .i64 (markAt m k : Nat), .int .i64 0]) := by unfold Hid; rw [HO.out, if_pos (by omega), show (k : Int).toNat = k by omega]
  clear HO
  have R3 := Lib.hid (R2.out w2 bw2 (by omega) (by omega))
  rw [show (k : Int).toNat = k by omega] at R3
  have hl := HLEN.out k
  generalize headOf m ++ rcsBytes false (m.rcpts.take k) ++ [114] = X at R3 hl
  generalize markAt m k = M at hl HO2
  clear R2 HLEN hi0 hi1
  go_wp2_with (go_at_call 21; refine R3.out.mono ?_; rintro e w3 ⟨b3, rfl, own3, hb3⟩; obtain ⟨Ab, qb, hvb⟩ := own3.reads.form; rw [hl] at hvb; subst hvb; refine Hid.out ?_)
  refine Lib.hid ?_
  go_wp2
  go_ret2
  exact ⟨by rw [HO2.out]; rfl, bw2.trans (hb3.mono bw2.size)⟩
end Go.Proofs.YthoeicidilnleaaDoor.Codec
