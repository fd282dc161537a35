/-
  HEADER, HeaderWrites: the walk.
-/
import Derived.Test.YtnogpoojhhmadaaDoorHpShown
import Derived.BigQuiet
namespace Go.Proofs.YtnogpoojhhmadaaDoor.Header
open Go.RowKit Base
def codeR : Nat ⊕ List UInt8 → Nat
  | .inl c => c
  | .inr _ => 0
def bytesR : Nat ⊕ List UInt8 → List UInt8
  | .inl _ => []
  | .inr l => l
def addR (d : List UInt8) : Nat ⊕ List UInt8 → List UInt8
  | .inl _ => []
  | .inr l => l ++ d
theorem write_res {r : Nat ⊕ List UInt8} {w w' : World} {e : Ending} (h : WriteEnd r w e w') : ∃ a c, e = .returned (.tuple #[.slice a (bytesR r).length c, .int .i64 (codeR r : Int)]) ∧ Reads w' (.slice a (bytesR r).length c) (bytesR r) ∧ Below w.heap.size w w' := by
  cases r with
  | inl code => exact ⟨none, 0, h.2, Or.inl ⟨rfl, none, 0, rfl, fun _ => rfl⟩, h.1⟩
  | inr l =>
    obtain ⟨h1, g, c, h2, _, h4, _⟩ := h
    exact ⟨_, c, h2, h4.reads rfl, h1⟩
/-- Bytes that may be stored into, or none. -/
def SoftN (w : World) (B : Nat) (a : Option Addr) (n c : Nat) : Prop := n = 0 ∨ ∃ g, a = some ⟨g, 0, none⟩ ∧ n ≤ c ∧ B ≤ g ∧ ∃ cs t fz, w.heap[g]? = some (.cells cs t fz) ∧ n ≤ cs.size ∧ ∀ i, i < n → ¬ (fz.1 ≤ i ∧ i < fz.2)
theorem add_res {r : Nat ⊕ List UInt8} {d : List UInt8} {w w' : World} {e : Ending} (h : AddEnd r d w e w') : ∃ a c, e = .returned (.tuple #[.slice a (addR d r).length c, .int .i64 (codeR r : Int)]) ∧ Reads w' (.slice a (addR d r).length c) (addR d r) ∧ SoftN w' w.heap.size a (addR d r).length c ∧ Below w.heap.size w w' := by
  cases r with
  | inl code => exact ⟨none, 0, h.2, Or.inl ⟨rfl, none, 0, rfl, fun _ => rfl⟩, Or.inl rfl, h.1⟩
  | inr l =>
    obtain ⟨h1, v, h2, h3, g, c, rfl, h4, h5, h6⟩ := h
    have hl : l.length + d.length = (l ++ d).length := by rw [List.length_append]
    rw [hl] at h2 h3 h4 h6
    exact ⟨_, c, h2, h3, Or.inr ⟨g, rfl, h4, h5, h6⟩, h1⟩
theorem SoftN.at_ {w : World} {B : Nat} {a : Option Addr} {n c i : Nat} (h : SoftN w B a n c) (hi : i < n) : ∃ g u, a = some ⟨g, 0, none⟩ ∧ n ≤ c ∧ B ≤ g ∧ w.cell? ⟨g, i, none⟩ = some u ∧ w.frozen? ⟨g, i, none⟩ = false ∧ ∀ x, SoftN (w.setCell ⟨g, i, none⟩ x) B a n c := by
  rcases h with h | ⟨g, rfl, h1, h2, cs, t, fz, h3, h4, h5⟩
  · omega
  · refine ⟨g, cs[i]'(by omega), rfl, h1, h2, ?_, ?_, fun x => Or.inr ⟨g, rfl, h1, h2, _, t, fz, heap_setCell_any w g i cs t fz x h3, by simpa using h4, h5⟩⟩
    · simp [World.cell?, h3, show i < cs.size by omega]
    · have := h5 i hi
      simp only [World.frozen?, h3]
      simpa using this
set_option maxHeartbeats 16000000 in
set_option maxRecDepth 100000 in
theorem pWrites (v : Value) (l : List UInt8) (nm bd : ByteArray) (w : World) (hr : Reads w v l) (hl : l.length ≤ 1048576) (hn : nm.size ≤ 1048576) (hs : bd.size ≤ 1048576) (he : Env w) : Calls Tryd.prog 4 #[v, .string nm, .string bd] w fun e w' => e = .returned (.bool true) ∧ Below w.heap.size w w' := by
  obtain ⟨A, c, rfl⟩ := hr.form
  obtain ⟨R, hR⟩ : ∃ R, R = writeOf nm.data.toList bd.data.toList := ⟨_, rfl⟩
  have HSH := Lib.hid (pShown w he)
  have HR := Lib.hid hr
  have HV : Hid (∀ w1, Below w.heap.size w w1 → Env w1) := fun w1 h => he.on h
  have HGW : Hid (∀ w1, Calls Tryd.prog 15 #[.string nm, .string bd] w1 fun e w' => ∃ a c, e = .returned (.tuple #[.slice a (bytesR R).length c, .int .i64 (codeR R : Int)]) ∧ Reads w' (.slice a (bytesR R).length c) (bytesR R) ∧ Below w1.heap.size w1 w') := fun w1 => by rw [hR]; exact (rWrite nm bd w1 (by omega) (by omega)).mono fun e w' h => write_res h
  have HPW : Hid (∀ w1, Below w.heap.size w w1 → Calls Tryd.prog 16 #[.string nm, .string bd] w1 fun e w' => ∃ a c, e = .returned (.tuple #[.slice a (bytesR R).length c, .int .i64 (codeR R : Int)]) ∧ Reads w' (.slice a (bytesR R).length c) (bytesR R) ∧ Below w1.heap.size w1 w') := fun w1 h => by rw [hR]; exact (pWrite nm bd w1 (by omega) (by omega) (HV.out _ h)).mono fun e w' h => write_res h
  have HGA : Hid (∀ w1, Below w.heap.size w w1 → Calls Tryd.prog 17 #[.slice A l.length c, .string nm, .string bd] w1 fun e w' => ∃ a c, e = .returned (.tuple #[.slice a (addR l R).length c, .int .i64 (codeR R : Int)]) ∧ Reads w' (.slice a (addR l R).length c) (addR l R) ∧ SoftN w' w1.heap.size a (addR l R).length c ∧ Below w1.heap.size w1 w') := fun w1 h => by rw [hR]; exact (rAdd _ l nm bd w1 (HR.out.on h) (by omega) (by omega) (by omega)).mono fun e w' h => add_res h
  have HPA : Hid (∀ u w1, Below w.heap.size w w1 → Reads w1 u l → Calls Tryd.prog 18 #[u, .string nm, .string bd] w1 fun e w' => ∃ a c, e = .returned (.tuple #[.slice a (addR l R).length c, .int .i64 (codeR R : Int)]) ∧ Reads w' (.slice a (addR l R).length c) (addR l R) ∧ SoftN w' w1.heap.size a (addR l R).length c ∧ Below w1.heap.size w1 w') := fun u w1 h hu => by rw [hR]; exact (pAdd u l nm bd w1 hu (by omega) (by omega) (by omega) (HV.out _ h)).mono fun e w' h => add_res h
  have hbn : (addR l R).length ≤ 9000000000000000000 := by
    rcases write_code nm.data.toList bd.data.toList with ⟨code, hc, _⟩ | ⟨l', hc, hl'⟩
    · rw [hR, hc]; exact Nat.zero_le _
    · rw [hR, hc]
      have := field_len nm.data.toList bd.data.toList
      rw [str_len, str_len, ← hl'] at this
      show (l' ++ l).length ≤ _
      rw [List.length_append]; omega
  obtain ⟨bl, hbl⟩ : ∃ bl, bl = bytesR R := ⟨_, rfl⟩
  obtain ⟨ml, hml⟩ : ∃ ml, ml = addR l R := ⟨_, rfl⟩
  obtain ⟨cd, hcd⟩ : ∃ cd, cd = codeR R := ⟨_, rfl⟩
  rw [← hbl, ← hcd] at HGW HPW
  rw [← hml, ← hcd] at HGA HPA
  rw [← hml] at hbn
  clear hr he hR hbl hml hcd
  go_enter Tryd.func4, Tryd.ntmps4
  go_wp2_with (first | (go_at_call 7; refine HSH.out.mono ?_; rintro e w1 ⟨rfl, hb1⟩; refine Hid.out ?_) | fail)
  refine Lib.hid ?_
  have HB1 := Lib.hid hb1
  have HON := Lib.hid (owns_new w1)
  have HBA := Lib.hid (Below.alloc1 w1 (.cells #[] 5))
  have HR1 : Hid (Reads (w1.alloc (.cells #[] 5)) (.slice A l.length c) l) := (HR.out.on hb1).on HBA.out
  clear hb1 HSH
  go_wp2_with (first | (at_builtin; go_must (refine wp_append_reads _ rfl _ _ rfl w1.heap.size (.slice (some ⟨w1.heap.size, 0, none⟩) 0 0) (.slice A l.length c) [] l rfl rfl HON.out HR1.out (by simp; omega) HBA.out.size ?_); intro v2 w2 own2 b2; refine Hid.out ?_) | fail)
  refine Lib.hid ?_
  have HO2 : Hid (Owns w2 w1.heap.size v2 l) := own2
  have HB2 : Hid (Below w.heap.size w w2) := HB1.out.trans (((HBA.out).trans b2).mono HB1.out.size)
  have HZ2 : Hid (w1.heap.size ≤ w2.heap.size) := Nat.le_trans HBA.out.size b2.size
  clear own2 b2 HON HBA HR1
  have HBC := Lib.hid (Below.alloc1 w2 (.cells #[.int .u8 177] 5))
  have HOC := Lib.hid (HO2.out.on HBC.out)
  have HRC := Lib.hid (reads_one w2 5 177 177 rfl)
  have HZC : Hid (w1.heap.size ≤ (w2.alloc (.cells #[.int .u8 177] 5)).heap.size) := Nat.le_trans HZ2.out HBC.out.size
  go_wp2_with (first | (at_builtin; go_must (refine wp_append_reads _ rfl _ _ rfl w1.heap.size v2 (.slice (some ⟨w2.heap.size, 0, none⟩) 1 1) l [177] rfl rfl HOC.out HRC.out (by simp; omega) HZC.out ?_); intro v3 w3 own3 b3; refine Hid.out ?_) | fail)
  refine Lib.hid ?_
  have HO3 : Hid (Owns w3 w1.heap.size v3 (l ++ [177])) := own3
  have HB3 : Hid (Below w.heap.size w w3) := HB2.out.trans ((HBC.out.mono HB2.out.size).trans (b3.mono HB1.out.size))
  clear own3 b3 HBC HOC HRC HZC HO2 HB2 HZ2
  obtain ⟨g, cg, hv3, hcg, _⟩ := HO3.out.form2 (by simp)
  have hl1 : (l ++ [177]).length = l.length + 1 := by simp
  rw [hl1] at hv3 hcg
  subst hv3
  clear hl1
  go_wp2_with (first | (go_at_call 15; refine (HGW.out _).mono ?_; rintro e w4 ⟨a4, c4, rfl, r4, b4⟩; refine Hid.out ?_) | fail)
  refine Lib.hid ?_
  have HO4 := Lib.hid (HO3.out.on b4)
  have HB4 : Hid (Below w.heap.size w w4) := HB3.out.trans (b4.mono HB3.out.size)
  have HR4 := Lib.hid r4
  clear b4 r4 HGW HO3 HB3
  go_wp2_with (first | (go_at_call 16; refine (HPW.out _ HB4.out).mono ?_; rintro e w5 ⟨a5, c5, rfl, r5, b5⟩; refine Hid.out ?_) | fail)
  refine Lib.hid ?_
  have HO5 := Lib.hid (HO4.out.on b5)
  have HB5 : Hid (Below w.heap.size w w5) := HB4.out.trans (b5.mono HB4.out.size)
  have HR4b := Lib.hid (HR4.out.on b5)
  have HR5 := Lib.hid r5
  clear b5 r5 HPW HO4 HB4 HR4
  go_wp2_with (first | (go_at_call 17; refine (HGA.out _ HB5.out).mono ?_; rintro e w6 ⟨a6, c6, rfl, r6, _, b6⟩; refine Hid.out ?_) | fail)
  refine Lib.hid ?_
  have HO6 := Lib.hid (HO5.out.on b6)
  have HB6 : Hid (Below w.heap.size w w6) := HB5.out.trans (b6.mono HB5.out.size)
  have HR4c := Lib.hid (HR4b.out.on b6)
  have HR5b := Lib.hid (HR5.out.on b6)
  have HR6 := Lib.hid r6
  clear b6 r6 HGA HO5 HB5 HR4b HR5
  have HCUT : Hid (Reads w6 (.slice (some ⟨g, 0, none⟩) l.length cg) l) := by
    have := HO6.out.cut l.length (by simp)
    rw [List.take_left'] at this
    · exact this
    · rfl
  have k0 : (l.length : Int) ≤ (cg : Int) := by omega
  have HPA2 := Lib.hid (HPA.out _ _ HB6.out HCUT.out)
  clear HPA
  go_wp2_with (first | (go_at_call 18; refine HPA2.out.mono ?_; rintro e w7 ⟨a7, c7, rfl, r7, s7, b7⟩; refine Hid.out ?_) | fail)
  refine Lib.hid ?_
  have hc4 := conv_reads (HR4c.out.on b7)
  have hc5 := conv_reads (HR5b.out.on b7)
  have hc6 := conv_reads (HR6.out.on b7)
  have hc7 := conv_reads r7
  have HS7 := Lib.hid s7
  have HB7 := Lib.hid b7
  have HBW7 : Hid (Below w.heap.size w w7) := HB6.out.trans (b7.mono HB6.out.size)
  clear r7 s7 b7 HPA2 HR4c HR5b HR6
  go_wp2
  clear hc4 hc5 hc6 hc7
  go_loopw [18] (fun i wr => ∃ k : Nat, k ≤ ml.length ∧ i = .int .i64 (k : Int) ∧ Hid (SoftN wr w6.heap.size a7 ml.length c7) ∧ Hid (Below w6.heap.size w6 wr)) (fun i _ => ml.length - (intOf i).toNat)
  case atStart => exact ⟨0, Nat.zero_le _, rfl, HS7, HB7⟩
  case round =>
    clear HS7 HB7 HBW7
    obtain ⟨k, hk, rfl, HS, HB⟩ := hrel
    have i0 : (0 : Int) ≤ (k : Int) := by omega
    by_cases hlt : k < ml.length
    · have i1 : (k : Int) < (ml.length : Int) := by omega
      obtain ⟨gc, u, ha7, hmc, hge, hcell, hfree, hnext⟩ := HS.out.at_ hlt
      have HNX := Lib.hid (hnext (.int .u8 77))
      have HNB : Hid (Below w6.heap.size w6 (wr.setCell ⟨gc, k, none⟩ (.int .u8 77))) := HB.out.setCell (p := ⟨gc, k, none⟩) hge _
      subst ha7
      clear hnext hge HS HB
      go_wp2
      go_roundw
      case rel => exact ⟨k + 1, hlt, by go_num, HNX, HNB⟩
      case measure => simp [intOf]; omega
    · have i1 : ¬ (k : Int) < (ml.length : Int) := by omega
      have HBF : Hid (Below w.heap.size w wr) := HB6.out.trans (HB.out.mono HB6.out.size)
      have HOF := Lib.hid (HO6.out.on HB.out)
      have hrd : Reads w (.slice A l.length c) l := HR.out
      have HCV1 : Hid (∀ n, (convert 22 9 (.slice (some ⟨g, 0, none⟩) l.length cg)).run Tryd.prog (wr.drewN n) = .ok (.string ⟨l.toArray⟩) (wr.drewN n)) := fun n => conv_reads (((HCUT.out.on HB.out).on (bel_drewN n wr (Nat.le_refl _))))
      have HCV2 : Hid (∀ n, (convert 22 9 (.slice A l.length c)).run Tryd.prog (wr.drewN n) = .ok (.string ⟨l.toArray⟩) (wr.drewN n)) := fun n => conv_reads ((HR.out.on HBF.out).on (bel_drewN n wr (Nat.le_refl _)))
      have HCE : Hid (∀ n, (wr.drewN n).cell? ⟨g, l.length, none⟩ = some (.int .u8 177)) := fun n => by
        have h0 : Owns wr w1.heap.size (.slice (some ⟨g, 0, none⟩) (l ++ [177]).length cg) (l ++ [177]) := by
          rw [List.length_append]; exact HOF.out
        have := h0.cell l.length (by simp)
        simpa [List.getD] using this
      clear hrd HS HB HOF
      have hcv1 := HCV1.out
      have hcv2 := HCV2.out
      have hce := HCE.out
      have HEND : Hid (∀ n, Below w.heap.size w (wr.drewN n)) := fun n => HBF.out.trans (bel_drewN n wr HBF.out.size)
      go_wp2
      go_quiet (fail)
      go_wp2
      go_ret
      exact ⟨rfl, HEND.out _⟩
end Go.Proofs.YtnogpoojhhmadaaDoor.Header
