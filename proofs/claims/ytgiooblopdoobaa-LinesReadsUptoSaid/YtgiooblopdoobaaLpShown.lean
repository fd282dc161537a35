/-
  LINES, the statements' own: the document's examples.
-/
import Derived.Test.YtgiooblopdoobaaLpStuff
namespace Go.Proofs.Ytgiooblopdoobaa.Lines
open Go.RowKit Base
/-- Its block was not there ahead. -/
def NewV (n0 : Nat) (v : Value) : Prop := ∀ b, v.ownBlock = some b → n0 ≤ b
theorem NewV.next {n0 k : Nat} {v v' : Value} (h : NewV n0 v) (hs : SameOrNew v v' k) (hk : n0 ≤ k) : NewV n0 v' := fun b hb => by
  rcases hs with e | e
  · exact h b (by rw [← e]; exact hb)
  · exact Nat.le_trans hk (e b hb)
theorem NewV.same {n0 : Nat} {v v' : Value} (h : NewV n0 v) (hs : v'.ownBlock = v.ownBlock) : NewV n0 v' := fun b hb => h b (by rw [← hs]; exact hb)
theorem NewV.nil (n0 : Nat) : NewV n0 (.slice none 0 0) := fun b hb => by simp [Value.ownBlock] at hb
theorem KeepR.below {g n0 : Nat} {v : Value} {A B : World} (h : KeepR g v A B) (hg : n0 ≤ g) (hv : NewV n0 v) (hA : n0 ≤ A.heap.size) : Below n0 A B :=
  ⟨h.os, h.tape, h.output, h.size, fun k hk => h.block k (by omega) (by omega) (fun e => by have := hv k e; omega)⟩
/-- What lies apart from a reader stays as it is. -/
theorem Owns.keptR {A B : World} {g n : Nat} {v u : Value} {t : List UInt8} (h : Owns A n u t) (hk : KeepR g v A B) (hg : g < n) (hv : ∀ b, v.ownBlock = some b → b < n) : Owns B n u t :=
  h.keptB fun b hb hlt => hk.block b hlt (by have := (h.ge b hb).1; omega) (fun e => by have := (h.ge b hb).1; have := hv b e; omega)
theorem pNewYes (most : Nat) (w : World) (h1 : 1 ≤ most) (h2 : most ≤ 65536) : Calls Try.prog 8 #[.int .i64 (most : Int)] w fun e w' => ∃ g, e = .returned (.tuple #[.pointer (some ⟨g, 0, none⟩), .int .i64 0]) ∧ Below w.heap.size w w' ∧ w.heap.size ≤ g ∧ g < w'.heap.size ∧ PdAt w' g (.slice none 0 0) most 0 [] := by
  refine (pNew most w).mono fun e w' h => ?_
  obtain ⟨hb, h | ⟨_, he, hlt, hp⟩⟩ := h
  · omega
  · rw [Int.toNat_natCast] at hp
    exact ⟨_, he, hb, Nat.le_refl _, hlt, hp⟩
theorem conv_lit (w : World) (C : Array Value) (n : Nat) : (convert 32 32 (.slice (some ⟨w.heap.size, 0, none⟩) n n)).run Try.prog (w.alloc (.cells C 5)) = .ok (.slice (some ⟨w.heap.size, 0, none⟩) n n) (w.alloc (.cells C 5 (C.size, C.size + 1))) :=
  Lib.run_convert_bytes_const (P := Try.prog) w 32 5 C n n Try.underlying32 Try.underlying5
abbrev litS : List UInt8 := [97, 98, 13, 10, 99, 10, 97, 98, 99, 100, 101, 13, 10, 120]
abbrev cellsS : Array Value := #[.int .u8 97, .int .u8 98, .int .u8 13, .int .u8 10, .int .u8 99, .int .u8 10, .int .u8 97, .int .u8 98, .int .u8 99, .int .u8 100, .int .u8 101, .int .u8 13, .int .u8 10, .int .u8 120]
abbrev litT : List UInt8 := [46, 97, 13, 10]
abbrev cellsT : Array Value := #[.int .u8 46, .int .u8 97, .int .u8 13, .int .u8 10]
theorem pNextYes {g : Nat} {v : Value} {most : Nat} {l t r : List UInt8} {code : Nat} {w : World} (h : PdAt w g v most 0 l) (hl : l.length ≤ 1000) (h1 : endOf l < l.length) (h2 : lineTold most (l.take (endOf l)) = (t, code)) (h3 : l.drop (endOf l + 1) = r) :
    Calls Try.prog 12 #[.pointer (some ⟨g, 0, none⟩)] w fun e w' => ∃ u v', e = .returned (.tuple #[u, .int .i64 (code : Int), .bool true]) ∧ Owns w' w.heap.size u t ∧ KeepR g v w w' ∧ PdAt w' g v' most 0 r ∧ v'.ownBlock = v.ownBlock := by
  refine (pNext g v most 0 l w (by omega) h (Nat.zero_le _)).mono fun e w' h => ?_
  unfold PNextEnd at h
  rw [if_pos h1, h2, h3] at h
  exact h
theorem pNextNo {g : Nat} {v : Value} {most : Nat} {l : List UInt8} {w : World} (h : PdAt w g v most 0 l) (hl : l.length ≤ 1000) (h1 : ¬ endOf l < l.length) :
    Calls Try.prog 12 #[.pointer (some ⟨g, 0, none⟩)] w fun e w' => e = .returned (.tuple #[.slice none 0 0, .int .i64 0, .bool false]) ∧ KeepR g v w w' ∧ PdAt w' g v most l.length l := by
  refine (pNext g v most 0 l w (by omega) h (Nat.zero_le _)).mono fun e w' h => ?_
  unfold PNextEnd at h
  rw [if_neg h1] at h
  exact h
theorem pStuffYes {v : Value} {l : List UInt8} {w : World} (hr : Reads w v l) (hl : l.length ≤ 1000) (hc : codeOf l = 0) : Calls Try.prog 16 #[v] w fun e w' => ∃ u, e = .returned (.tuple #[u, .int .i64 0]) ∧ Owns w' w.heap.size u (stuffOf l) ∧ Below w.heap.size w w' := by
  refine (pStuff hr (by omega)).mono fun e w' h => ?_
  obtain ⟨h1, h | ⟨_, u, h2, h3⟩⟩ := h
  · exact absurd hc h.1
  · exact ⟨u, h2, h3, h1⟩
theorem pStuffNo {v : Value} {l : List UInt8} {w : World} {code : Nat} (hr : Reads w v l) (hl : l.length ≤ 1000) (hc : codeOf l = code) (h0 : code ≠ 0) : Calls Try.prog 16 #[v] w fun e w' => e = .returned (.tuple #[.slice none 0 0, .int .i64 (code : Int)]) ∧ Below w.heap.size w w' := by
  refine (pStuff hr (by omega)).mono fun e w' h => ?_
  obtain ⟨h1, h | ⟨h2, _⟩⟩ := h
  · rw [hc] at h; exact ⟨h.2, h1⟩
  · rw [hc] at h2; exact absurd h2 h0
set_option maxHeartbeats 8000000 in
set_option maxRecDepth 100000 in
theorem pShown (w : World) : Calls Try.prog 7 #[] w fun e w' => e = .returned (.bool true) ∧ Below w.heap.size w w' := by
  have HN := Lib.hid (pNewYes 4 w (by omega) (by omega))
  go_enter Try.func7, Try.ntmps7
  go_wp2_with (first | (go_at_call 8; refine HN.out.mono ?_; rintro e w1 ⟨g, rfl, hb1, hg1, hg2, hp1⟩; refine Hid.out ?_) | fail)
  refine Lib.hid ?_
  have HG0 := Lib.hid hg1
  have HB1 := Lib.hid hb1
  clear HN
  obtain ⟨wA, hwA⟩ : ∃ wA, wA = w1.alloc (.cells cellsS 5 (14, 15)) := ⟨_, rfl⟩
  have hcA : (convert 32 32 (.slice (some ⟨w1.heap.size, 0, none⟩) 14 14)).run Try.prog (w1.alloc (.cells cellsS 5)) = .ok (.slice (some ⟨w1.heap.size, 0, none⟩) 14 14) wA := by rw [hwA]; exact conv_lit w1 cellsS 14
  have hbA : Below w1.heap.size w1 wA := by rw [hwA]; exact Below.alloc1 _ _
  have hrA : Reads wA (.slice (some ⟨w1.heap.size, 0, none⟩) 14 14) litS := by rw [hwA]; exact reads_lit w1 5 cellsS litS 14 rfl rfl (14, 15)
  have hpA : PdAt wA g (.slice none 0 0) 4 0 [] := hp1.on hbA.size (hbA.block g hg2) (fun b hb => by simp [Value.ownBlock] at hb)
  have HFE := Lib.hid (pFeed g (.slice none 0 0) _ 4 0 [] litS wA hpA hrA (Or.inl (by decide)))
  have HBA : Hid (Below w.heap.size w wA) := hb1.trans (hbA.mono hb1.size)
  have HGA : Hid (g < wA.heap.size) := Nat.lt_of_lt_of_le hg2 hbA.size
  clear hwA hbA hrA hpA hb1 hg1 hg2 hp1 HB1
  go_wp2_with (first | (go_at_call 10; refine HFE.out.mono ?_; rintro e w2 ⟨rfl, hk2, v2, hp2, hs2⟩; refine Hid.out ?_) | fail)
  refine Lib.hid ?_
  have hv2 : NewV w.heap.size v2 := (NewV.nil _).next hs2 HBA.out.size
  have HB2 : Hid (Below w.heap.size w w2) := HBA.out.trans (hk2.below HG0.out (NewV.nil _) HBA.out.size)
  have HG2 : Hid (g < w2.heap.size) := Nat.lt_of_lt_of_le HGA.out hk2.size
  have HV2 := Lib.hid hv2
  have HVB : Hid (∀ b, v2.ownBlock = some b → b < w2.heap.size) := fun b hb => (hp2.2.1.ge b hb).2
  have HN1 : Hid (Calls Try.prog 12 #[.pointer (some ⟨g, 0, none⟩)] w2 fun e w' => ∃ u v', e = .returned (.tuple #[u, .int .i64 0, .bool true]) ∧ Owns w' w2.heap.size u [97, 98] ∧ KeepR g v2 w2 w' ∧ PdAt w' g v' 4 0 [99, 10, 97, 98, 99, 100, 101, 13, 10, 120] ∧ v'.ownBlock = v2.ownBlock) := pNextYes hp2 (by decide) (by decide) (by kernel_rfl) (by kernel_rfl)
  clear hk2 hp2 hs2 hv2 HFE hcA HBA HGA
  go_wp2_with (first | (go_at_call 12; refine HN1.out.mono ?_; rintro e w3 ⟨u1, v3, rfl, ho3, hk3, hp3, hs3⟩; refine Hid.out ?_) | fail)
  refine Lib.hid ?_
  have HB3 : Hid (Below w.heap.size w w3) := HB2.out.trans (hk3.below HG0.out HV2.out HB2.out.size)
  have HV3 := Lib.hid (HV2.out.same hs3)
  have HS3 := Lib.hid hs3
  have HO3 := Lib.hid ho3
  have HG3 : Hid (w2.heap.size ≤ w3.heap.size) := hk3.size
  have HN2 : Hid (Calls Try.prog 12 #[.pointer (some ⟨g, 0, none⟩)] w3 fun e w' => ∃ u v', e = .returned (.tuple #[u, .int .i64 121, .bool true]) ∧ Owns w' w3.heap.size u [99] ∧ KeepR g v3 w3 w' ∧ PdAt w' g v' 4 0 [97, 98, 99, 100, 101, 13, 10, 120] ∧ v'.ownBlock = v3.ownBlock) := pNextYes hp3 (by decide) (by decide) (by kernel_rfl) (by kernel_rfl)
  clear ho3 hk3 hp3 hs3 HN1 HB2
  go_wp2_with (first | (go_at_call 12; refine HN2.out.mono ?_; rintro e w4 ⟨u2, v4, rfl, ho4, hk4, hp4, hs4⟩; refine Hid.out ?_) | fail)
  refine Lib.hid ?_
  have HB4 : Hid (Below w.heap.size w w4) := HB3.out.trans (hk4.below HG0.out HV3.out HB3.out.size)
  have HV4 := Lib.hid (HV3.out.same hs4)
  have HS4 : Hid (v4.ownBlock = v2.ownBlock) := hs4.trans HS3.out
  have HO34 := Lib.hid (Owns.keptR HO3.out hk4 HG2.out (fun b hb => HVB.out b (by rw [← HS3.out]; exact hb)))
  have HO4 := Lib.hid ho4
  have HG4 : Hid (w2.heap.size ≤ w4.heap.size) := Nat.le_trans HG3.out hk4.size
  have HN3 : Hid (Calls Try.prog 12 #[.pointer (some ⟨g, 0, none⟩)] w4 fun e w' => ∃ u v', e = .returned (.tuple #[u, .int .i64 120, .bool true]) ∧ Owns w' w4.heap.size u [97, 98, 99, 100] ∧ KeepR g v4 w4 w' ∧ PdAt w' g v' 4 0 [120] ∧ v'.ownBlock = v4.ownBlock) := pNextYes hp4 (by decide) (by decide) (by kernel_rfl) (by kernel_rfl)
  clear ho4 hk4 hp4 hs4 HN2 HB3 HO3 HV3
  go_wp2_with (first | (go_at_call 12; refine HN3.out.mono ?_; rintro e w5 ⟨u3, v5, rfl, ho5, hk5, hp5, hs5⟩; refine Hid.out ?_) | fail)
  refine Lib.hid ?_
  have HB5 : Hid (Below w.heap.size w w5) := HB4.out.trans (hk5.below HG0.out HV4.out HB4.out.size)
  have HV5 := Lib.hid (HV4.out.same hs5)
  have HS5 : Hid (v5.ownBlock = v2.ownBlock) := hs5.trans HS4.out
  have HVL : Hid (∀ b, v4.ownBlock = some b → b < w3.heap.size) := fun b hb => Nat.lt_of_lt_of_le (HVB.out b (by rw [← HS4.out]; exact hb)) HG3.out
  have HO35 := Lib.hid (Owns.keptR HO34.out hk5 HG2.out (fun b hb => HVB.out b (by rw [← HS4.out]; exact hb)))
  have HO45 := Lib.hid (Owns.keptR HO4.out hk5 (Nat.lt_of_lt_of_le HG2.out HG3.out) HVL.out)
  have HO5 := Lib.hid ho5
  have HG5 : Hid (w2.heap.size ≤ w5.heap.size) := Nat.le_trans HG4.out hk5.size
  have HN4 : Hid (Calls Try.prog 12 #[.pointer (some ⟨g, 0, none⟩)] w5 fun e w' => e = .returned (.tuple #[.slice none 0 0, .int .i64 0, .bool false]) ∧ KeepR g v5 w5 w' ∧ PdAt w' g v5 4 1 [120]) := pNextNo hp5 (by decide) (by decide)
  clear ho5 hk5 hp5 hs5 HN3 HB4 HO34 HO4 HV4
  go_wp2_with (first | (go_at_call 12; refine HN4.out.mono ?_; rintro e w6 ⟨rfl, hk6, hp6⟩; refine Hid.out ?_) | fail)
  refine Lib.hid ?_
  have HB6 : Hid (Below w.heap.size w w6) := HB5.out.trans (hk6.below HG0.out HV5.out HB5.out.size)
  have hvb6 : ∀ b, v5.ownBlock = some b → b < w2.heap.size := fun b hb => HVB.out b (by rw [← HS5.out]; exact hb)
  have r1 : Reads w6 u1 [97, 98] := (Owns.keptR HO35.out hk6 HG2.out hvb6).reads
  have r2 : Reads w6 u2 [99] := (Owns.keptR HO45.out hk6 (Nat.lt_of_lt_of_le HG2.out HG3.out) (fun b hb => Nat.lt_of_lt_of_le (hvb6 b hb) HG3.out)).reads
  have r3 : Reads w6 u3 [97, 98, 99, 100] := (Owns.keptR HO5.out hk6 (Nat.lt_of_lt_of_le HG2.out HG4.out) (fun b hb => Nat.lt_of_lt_of_le (hvb6 b hb) HG4.out)).reads
  have HR6 : Hid (Reads w6 u1 [97, 98] ∧ Reads w6 u2 [99] ∧ Reads w6 u3 [97, 98, 99, 100] ∧ PdAt w6 g v5 4 1 [120]) := ⟨r1, r2, r3, hp6⟩
  have HGW : Hid (g < w6.heap.size) := heap_lt hp6.1
  clear r1 r2 r3 hp6 hk6 hvb6 HN4 HB5 HO35 HO45 HO5 HV5 HS3 HS4 HS5 HVL HVB HG2 HG3 HG4 HG5
  obtain ⟨wB, hwB⟩ : ∃ wB, wB = w6.alloc (.cells cellsT 5 (4, 5)) := ⟨_, rfl⟩
  have hcB : (convert 32 32 (.slice (some ⟨w6.heap.size, 0, none⟩) 4 4)).run Try.prog (w6.alloc (.cells cellsT 5)) = .ok (.slice (some ⟨w6.heap.size, 0, none⟩) 4 4) wB := by rw [hwB]; exact conv_lit w6 cellsT 4
  have hbB : Below w6.heap.size w6 wB := by rw [hwB]; exact Below.alloc1 _ _
  have hrB : Reads wB (.slice (some ⟨w6.heap.size, 0, none⟩) 4 4) litT := by rw [hwB]; exact reads_lit w6 5 cellsT litT 4 rfl rfl (4, 5)
  have HST : Hid (Calls Try.prog 16 #[.slice (some ⟨w6.heap.size, 0, none⟩) 4 4] wB fun e w' => ∃ u, e = .returned (.tuple #[u, .int .i64 0]) ∧ Owns w' wB.heap.size u [46, 46, 97, 13, 10, 46, 13, 10] ∧ Below wB.heap.size wB w') := pStuffYes hrB (by decide) (by kernel_rfl)
  have HBB := Lib.hid hbB
  clear hwB hbB hrB
  go_wp2_with (first | (go_at_call 16; refine HST.out.mono ?_; rintro e w7 ⟨u4, rfl, ho7, hb7⟩; refine Hid.out ?_) | fail)
  refine Lib.hid ?_
  have HK7 : Hid (Below w6.heap.size w6 w7) := HBB.out.trans (hb7.mono HBB.out.size)
  have HR7 := Lib.hid ho7.reads
  clear ho7 hb7 HST hcB HBB
  obtain ⟨wC, hwC⟩ : ∃ wC, wC = w7.alloc (.cells #[.int .u8 97] 5 (1, 2)) := ⟨_, rfl⟩
  have hcC : (convert 32 32 (.slice (some ⟨w7.heap.size, 0, none⟩) 1 1)).run Try.prog (w7.alloc (.cells #[.int .u8 97] 5)) = .ok (.slice (some ⟨w7.heap.size, 0, none⟩) 1 1) wC := by rw [hwC]; exact conv_one w7 97
  have hbC : Below w7.heap.size w7 wC := by rw [hwC]; exact Below.alloc1 _ _
  have hrC : Reads wC (.slice (some ⟨w7.heap.size, 0, none⟩) 1 1) [97] := by rw [hwC]; exact one_reads w7 97
  have HSN : Hid (Calls Try.prog 16 #[.slice (some ⟨w7.heap.size, 0, none⟩) 1 1] wC fun e w' => e = .returned (.tuple #[.slice none 0 0, .int .i64 121]) ∧ Below wC.heap.size wC w') := pStuffNo hrC (by decide) (by kernel_rfl) (by decide)
  have HBC := Lib.hid hbC
  clear hwC hbC hrC
  go_wp2_with (first | (go_at_call 16; refine HSN.out.mono ?_; rintro e w8 ⟨rfl, hb8⟩; refine Hid.out ?_) | fail)
  refine Lib.hid ?_
  have hk78 : Below w7.heap.size w7 w8 := HBC.out.trans (hb8.mono HBC.out.size)
  have HK8 : Hid (Below w6.heap.size w6 w8) := HK7.out.trans (hk78.mono HK7.out.size)
  have HR8 := Lib.hid (HR7.out.on hk78)
  clear hk78 hb8 HSN hcC HBC HR7 HK7
  obtain ⟨wD, hwD⟩ : ∃ wD, wD = w8.alloc (.cells #[.int .u8 46] 5 (1, 2)) := ⟨_, rfl⟩
  have hcD : (convert 32 32 (.slice (some ⟨w8.heap.size, 0, none⟩) 1 1)).run Try.prog (w8.alloc (.cells #[.int .u8 46] 5)) = .ok (.slice (some ⟨w8.heap.size, 0, none⟩) 1 1) wD := by rw [hwD]; exact conv_one w8 46
  have hbD : Below w8.heap.size w8 wD := by rw [hwD]; exact Below.alloc1 _ _
  have hrD : Reads wD (.slice (some ⟨w8.heap.size, 0, none⟩) 1 1) [46] := by rw [hwD]; exact one_reads w8 46
  have HDO : Hid (Calls Try.prog 19 #[.slice (some ⟨w8.heap.size, 0, none⟩) 1 1] wD (DotEnd ([], true) wD)) := pDotted hrD (by decide)
  have HBD := Lib.hid hbD
  clear hwD hbD hrD
  go_wp2_with (first | (go_at_call 19; refine HDO.out.mono ?_; rintro e w9 ⟨u5, rfl, ho9, hb9⟩; refine Hid.out ?_) | fail)
  refine Lib.hid ?_
  have hk89 : Below w8.heap.size w8 w9 := HBD.out.trans (hb9.mono HBD.out.size)
  have HK9 : Hid (Below w6.heap.size w6 w9) := HK8.out.trans (hk89.mono HK8.out.size)
  have hcv1 := conv_reads (HR6.out.1.on HK9.out)
  have hcv2 := conv_reads (HR6.out.2.1.on HK9.out)
  have hcv3 := conv_reads (HR6.out.2.2.1.on HK9.out)
  have hcv4 := conv_reads (HR8.out.on hk89)
  have hp9 : PdAt w9 g v5 4 1 [120] := HR6.out.2.2.2.on HK9.out.size (HK9.out.block g HGW.out) (fun b hb => HK9.out.block b (HR6.out.2.2.2.2.1.ge b hb).2)
  have HLE : Hid (Calls Try.prog 14 #[.pointer (some ⟨g, 0, none⟩)] w9 fun e w' => e = .returned (.int .i64 1) ∧ w9 = w') := pLeft g v5 4 1 [120] w9 hp9
  have HB9 : Hid (Below w.heap.size w w9) := HB6.out.trans (HK9.out.mono HB6.out.size)
  clear hk89 hb9 HDO hcD HBD HR8 HK8 HK9 HR6 hp9 ho9 HGW
  go_wp2_with (first | (go_at_call 14; refine HLE.out.mono ?_; rintro e w10 ⟨rfl, rfl⟩; refine Hid.out ?_) | fail)
  refine Lib.hid ?_
  go_wp2
  go_ret
  exact ⟨rfl, HB9.out⟩
end Go.Proofs.Ytgiooblopdoobaa.Lines
