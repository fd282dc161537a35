/-
  MERGED by mergefill.py: PthSm, PthAtm.
-/
import Derived.Test.YtnehgbpfgehhiaaGreatDoorStrBase
import Derived.Lib.IndexLaws
import Derived.Test.YtnehgbpfgehhiaaGreatDoorShelf
import Derived.Deep.LoopGhost
/-
  PATH, the program: kinds of bytes, labels; the reader's block.
-/
namespace Go.Proofs.YtnehgbpfgehhiaaGreatDoor.Path
open Go.RowKit Base
def ldC (c : UInt8) : Bool := decide ((97 ≤ c.toNat ∧ c.toNat ≤ 122) ∨ (65 ≤ c.toNat ∧ c.toNat ≤ 90) ∨ (48 ≤ c.toNat ∧ c.toNat ≤ 57))
def shownC (c : UInt8) : Bool := decide (32 ≤ c.toNat ∧ c.toNat ≤ 126)
def nameC (c : UInt8) : Bool := ldC c || decide (c.toNat = 45)
def labelB (s : List UInt8) : Bool := decide (1 ≤ s.length ∧ s.length ≤ 63) && (decide (¬ (s.getD 0 0).toNat = 45) && decide (¬ (s.getD (s.length - 1) 0).toNat = 45))
set_option maxHeartbeats 1600000 in
set_option maxRecDepth 100000 in
theorem pLD (c : UInt8) (w : World) : Calls Tryz.prog 141 #[.int .u8 (c.toNat : Int)] w (AskEnd (ldC c) w) := by
  obtain ⟨out, hout⟩ : ∃ out, out = ldC c := ⟨_, rfl⟩
  have HO : Hid (out = decide ((97 ≤ c.toNat ∧ c.toNat ≤ 122) ∨ (65 ≤ c.toNat ∧ c.toNat ≤ 90) ∨ (48 ≤ c.toNat ∧ c.toNat ≤ 57))) := hout
  rw [← hout]
  have hb := c.toNat_lt
  generalize c.toNat = x at HO hb
  clear hout
  have fin : ∀ b, Hid (out = b) → AskEnd out w (.returned (.bool b)) w := fun b h => ⟨ret_bool h.out.symm, rfl⟩
  by_cases h1 : 97 ≤ x
  · have e1 : (97 : Int) ≤ (x : Int) := by omega
    by_cases h2 : x ≤ 122
    · have e2 : (x : Int) ≤ 122 := by omega
      have HT : Hid (out = true) := by show _ = _; rw [HO.out]; exact decide_eq_true (by omega)
      clear h1 h2
      go_enter Tryz.func141, Tryz.ntmps141
      go_wp2
      go_ret
      exact fin _ HT
    · have e2 : ¬ (x : Int) ≤ 122 := by omega
      have e3 : (65 : Int) ≤ (x : Int) := by omega
      have e4 : ¬ (x : Int) ≤ 90 := by omega
      have e5 : (48 : Int) ≤ (x : Int) := by omega
      have e6 : ¬ (x : Int) ≤ 57 := by omega
      have HT : Hid (out = false) := by show _ = _; rw [HO.out]; exact decide_eq_false (by omega)
      clear h1 h2
      go_enter Tryz.func141, Tryz.ntmps141
      go_wp2
      go_ret
      exact fin _ HT
  · have e1 : ¬ (97 : Int) ≤ (x : Int) := by omega
    by_cases h3 : 65 ≤ x
    · have e3 : (65 : Int) ≤ (x : Int) := by omega
      by_cases h4 : x ≤ 90
      · have e4 : (x : Int) ≤ 90 := by omega
        have HT : Hid (out = true) := by show _ = _; rw [HO.out]; exact decide_eq_true (by omega)
        clear h1 h3 h4
        go_enter Tryz.func141, Tryz.ntmps141
        go_wp2
        go_ret
        exact fin _ HT
      · have e4 : ¬ (x : Int) ≤ 90 := by omega
        have e5 : (48 : Int) ≤ (x : Int) := by omega
        have e6 : ¬ (x : Int) ≤ 57 := by omega
        have HT : Hid (out = false) := by show _ = _; rw [HO.out]; exact decide_eq_false (by omega)
        clear h1 h3 h4
        go_enter Tryz.func141, Tryz.ntmps141
        go_wp2
        go_ret
        exact fin _ HT
    · have e3 : ¬ (65 : Int) ≤ (x : Int) := by omega
      by_cases h5 : 48 ≤ x
      · have e5 : (48 : Int) ≤ (x : Int) := by omega
        by_cases h6 : x ≤ 57
        · have e6 : (x : Int) ≤ 57 := by omega
          have HT : Hid (out = true) := by show _ = _; rw [HO.out]; exact decide_eq_true (by omega)
          clear h1 h3 h5 h6
          go_enter Tryz.func141, Tryz.ntmps141
          go_wp2
          go_ret
          exact fin _ HT
        · have e6 : ¬ (x : Int) ≤ 57 := by omega
          have HT : Hid (out = false) := by show _ = _; rw [HO.out]; exact decide_eq_false (by omega)
          clear h1 h3 h5 h6
          go_enter Tryz.func141, Tryz.ntmps141
          go_wp2
          go_ret
          exact fin _ HT
      · have e5 : ¬ (48 : Int) ≤ (x : Int) := by omega
        have HT : Hid (out = false) := by show _ = _; rw [HO.out]; exact decide_eq_false (by omega)
        clear h1 h3 h5
        go_enter Tryz.func141, Tryz.ntmps141
        go_wp2
        go_ret
        exact fin _ HT
set_option maxHeartbeats 1600000 in
set_option maxRecDepth 100000 in
theorem pName (c : UInt8) (w : World) : Calls Tryz.prog 104 #[.int .u8 (c.toNat : Int)] w (AskEnd (nameC c) w) := by
  have HL := Lib.hid (fun w1 => pLD c w1)
  have HO : Hid (nameC c = (ldC c || decide (c.toNat = 45))) := rfl
  have hb := c.toNat_lt
  generalize nameC c = out at HO
  generalize ldC c = a at HL HO
  cases a with
  | true =>
    have HT : Hid (out = true) := HO.out
    go_enter Tryz.func104, Tryz.ntmps104
    go_wp2_with (first | (go_at_call 141; refine (HL.out _).mono ?_; rintro ee w1 ⟨rfl, rfl⟩; refine Hid.out ?_) | fail)
    refine Lib.hid ?_
    go_wp2
    go_ret
    exact ⟨ret_bool HT.out.symm, rfl⟩
  | false =>
    by_cases h : c.toNat = 45
    · have HT : Hid (out = true) := by show _ = _; rw [HO.out, decide_eq_true h]; rfl
      have e : ((c.toNat : Int) == 45) = true := by rw [beq_iff_eq]; omega
      clear h
      go_enter Tryz.func104, Tryz.ntmps104
      go_wp2_with (first | (go_at_call 141; refine (HL.out _).mono ?_; rintro ee w1 ⟨rfl, rfl⟩; refine Hid.out ?_) | fail)
      refine Lib.hid ?_
      go_wp2
      go_ret
      exact ⟨ret_bool HT.out.symm, rfl⟩
    · have HT : Hid (out = false) := by show _ = _; rw [HO.out, decide_eq_false h]; rfl
      have e : ((c.toNat : Int) == 45) = false := by rw [beq_eq_false_iff_ne]; omega
      clear h
      go_enter Tryz.func104, Tryz.ntmps104
      go_wp2_with (first | (go_at_call 141; refine (HL.out _).mono ?_; rintro ee w1 ⟨rfl, rfl⟩; refine Hid.out ?_) | fail)
      refine Lib.hid ?_
      go_wp2
      go_ret
      exact ⟨ret_bool HT.out.symm, rfl⟩
set_option maxHeartbeats 1600000 in
set_option maxRecDepth 100000 in
theorem pShown (c : UInt8) (w : World) : Calls Tryz.prog 200 #[.int .u8 (c.toNat : Int)] w (AskEnd (shownC c) w) := by
  have HO : Hid (shownC c = decide (32 ≤ c.toNat ∧ c.toNat ≤ 126)) := rfl
  have hb := c.toNat_lt
  generalize shownC c = out at HO
  generalize c.toNat = x at HO hb
  by_cases h1 : 32 ≤ x
  · have e1 : (32 : Int) ≤ (x : Int) := by omega
    by_cases h2 : x ≤ 126
    · have e2 : (x : Int) ≤ 126 := by omega
      have HT : Hid (out = true) := by show _ = _; rw [HO.out]; exact decide_eq_true (by omega)
      clear h1 h2
      go_enter Tryz.func200, Tryz.ntmps200
      go_wp2
      go_ret
      exact ⟨ret_bool HT.out.symm, rfl⟩
    · have e2 : ¬ (x : Int) ≤ 126 := by omega
      have HT : Hid (out = false) := by show _ = _; rw [HO.out]; exact decide_eq_false (by omega)
      clear h1 h2
      go_enter Tryz.func200, Tryz.ntmps200
      go_wp2
      go_ret
      exact ⟨ret_bool HT.out.symm, rfl⟩
  · have e1 : ¬ (32 : Int) ≤ (x : Int) := by omega
    have HT : Hid (out = false) := by show _ = _; rw [HO.out]; exact decide_eq_false (by omega)
    clear h1
    go_enter Tryz.func200, Tryz.ntmps200
    go_wp2
    go_ret
    exact ⟨ret_bool HT.out.symm, rfl⟩
/-- The reader's block. -/
def RdAt (w : World) (g : Nat) (s : ByteArray) (k : Nat) : Prop := w.heap[g]? = some (.cells #[.string s, .int .i64 (k : Int)] 81 (0, 0))
theorem RdAt.cells {w : World} {g k : Nat} {s : ByteArray} (h : RdAt w g s k) : w.cell? ⟨g, 0, none⟩ = some (.string s) ∧ w.cell? ⟨g, 1, none⟩ = some (.int .i64 (k : Int)) ∧ w.frozen? ⟨g, 1, none⟩ = false := by
  obtain ⟨h1, h2, _, h4⟩ := two_cells h
  exact ⟨h1, h2, h4⟩
theorem RdAt.on {w w' : World} {g k : Nat} {s : ByteArray} (h : RdAt w g s k) (hb : Below w.heap.size w w') : RdAt w' g s k := by
  unfold RdAt; rw [hb.block g (heap_lt h)]; exact h
theorem RdAt.drewN {w : World} {g k : Nat} {s : ByteArray} (h : RdAt w g s k) (n : Nat) : RdAt (w.drewN n) g s k := h
theorem RdAt.set {w : World} {g k : Nat} {s : ByteArray} (h : RdAt w g s k) (j : Nat) : RdAt (w.setCell ⟨g, 1, none⟩ (.int .i64 (j : Int))) g s j := by
  unfold RdAt; rw [heap_setCell_any w g 1 _ _ _ _ h]; rfl
def hasB (s : ByteArray) (k : Nat) (c : UInt8) : Bool := decide (k < s.size) && decide ((s.data.toList.getD k 0).toNat = c.toNat)
set_option maxHeartbeats 8000000 in
set_option maxRecDepth 100000 in
theorem pHas (g k : Nat) (s : ByteArray) (c : UInt8) (w : World) (h : RdAt w g s k) (hk : k ≤ s.size) (hs : s.size ≤ 9000000000000000000) :
    Calls Tryz.prog 66 #[.pointer (some ⟨g, 0, none⟩), .int .u8 (c.toNat : Int)] w fun e w' => e = .returned (.bool (hasB s k c)) ∧ RdAt w' g s (if hasB s k c = true then k + 1 else k) ∧ KeepX g w w' := by
  have HR := Lib.hid h
  obtain ⟨x0, x1, x2⟩ := h.cells
  have HB : Hid (hasB s k c = (decide (k < s.size) && decide ((s.data.toList.getD k 0).toNat = c.toNat))) := rfl
  have hcb := c.toNat_lt
  have i0 : (0 : Int) ≤ (k : Int) := by omega
  have HF : Hid (∀ n u, RdAt ((w.drewN n).setCell ⟨g, 1, none⟩ u) g s (k + 1) → KeepX g w ((w.drewN n).setCell ⟨g, 1, none⟩ u)) := fun n u _ => (KeepX.drewN n).trans (KeepX.set g _ 1 u)
  clear h
  by_cases he : k = s.size
  · have q1 : ((k : Int) == (s.size : Int)) = true := by rw [beq_iff_eq]; omega
    have HT : Hid (hasB s k c = false) := by show _ = _; rw [HB.out, decide_eq_false (by omega)]; rfl
    rw [HT.out]
    clear he
    go_enter Tryz.func66, Tryz.ntmps66
    go_wp2
    go_quiet (fail)
    go_wp2
    go_ret
    exact ⟨rfl, HR.out.drewN _, KeepX.drewN _⟩
  · have q1 : ((k : Int) == (s.size : Int)) = false := by rw [beq_eq_false_iff_ne]; omega
    have hlt : k < s.size := by omega
    have i1 : (k : Int) < (s.size : Int) := by omega
    have HG : Hid ((s.data.toList.getD k 0) = s[k]) := str_get s k hlt
    have hxb := s[k].toNat_lt
    by_cases hc : s[k].toNat = c.toNat
    · have q2 : ((s[k].toNat : Int) != (c.toNat : Int)) = false := by rw [bne_eq_false_iff_eq]; omega
      have HT : Hid (hasB s k c = true) := by show _ = _; rw [HB.out, decide_eq_true hlt, HG.out, decide_eq_true hc]; rfl
      rw [HT.out, if_pos rfl]
      obtain ⟨x, hx⟩ : ∃ x, x = s[k].toNat := ⟨_, rfl⟩
      clear he hc
      go_enter Tryz.func66, Tryz.ntmps66
      go_wp2
      go_quiet (fail)
      go_wp2
      go_ret
      exact ⟨rfl, (HR.out.drewN _).set (k + 1), (KeepX.drewN _).trans (KeepX.set g _ 1 _)⟩
    · have q2 : ((s[k].toNat : Int) != (c.toNat : Int)) = true := by rw [bne_iff_ne]; omega
      have HT : Hid (hasB s k c = false) := by show _ = _; rw [HB.out, HG.out, decide_eq_false hc]; simp
      rw [HT.out]
      clear he hc
      go_enter Tryz.func66, Tryz.ntmps66
      go_wp2
      go_quiet (fail)
      go_wp2
      go_ret
      exact ⟨rfl, HR.out.drewN _, KeepX.drewN _⟩
end Go.Proofs.YtnehgbpfgehhiaaGreatDoor.Path
/-
  PATH, the program: bytes of atoms, labels, rows of one kind.
-/
namespace Go.Proofs.YtnehgbpfgehhiaaGreatDoor.Path
open Go.RowKit Base
theorem intne (a b : Nat) : ((a : Int) != (b : Int)) = decide (¬ a = b) := by
  by_cases h : a = b
  · subst h; simp
  · rw [decide_eq_true h, bne_iff_ne]; omega
def marksB : List UInt8 := [33, 35, 36, 37, 38, 39, 42, 43, 45, 47, 61, 63, 94, 95, 96, 123, 124, 125, 126]
def atomC (c : UInt8) : Bool := ldC c || decide (0 ≤ Lib.indexByte marksB c)
set_option maxHeartbeats 1600000 in
set_option maxRecDepth 100000 in
theorem pAtom (c : UInt8) (w : World) : Calls Tryz.prog 170 #[.int .u8 (c.toNat : Int)] w (AskEnd (atomC c) w) := by
  have HL := Lib.hid (fun w1 => pLD c w1)
  have HO : Hid (atomC c = (ldC c || decide (0 ≤ Lib.indexByte marksB c))) := rfl
  have HX : Hid (∀ w1, Calls Tryz.prog 152 #[.string ⟨marksB.toArray⟩, .int .u8 (c.toNat : Int)] w1 fun e w' => e = .returned (.int .i64 (Lib.indexByte marksB c)) ∧ w' = w1) := fun w1 => by
    have := Tryz.strings_IndexByte ⟨marksB.toArray⟩ (c.toNat : Int) w1
    rwa [show (c.toNat : Int).toNat.toUInt8 = c from by rw [Int.toNat_natCast]; exact UInt8.ofNat_toNat] at this
  have hb := c.toNat_lt
  generalize atomC c = out at HO
  generalize ldC c = a at HL HO
  generalize Lib.indexByte marksB c = ix at HX HO
  cases a with
  | true =>
    have HT : Hid (out = true) := HO.out
    go_enter Tryz.func170, Tryz.ntmps170
    go_wp2_with (first | (go_at_call 141; refine (HL.out _).mono ?_; rintro ee w1 ⟨rfl, rfl⟩; refine Hid.out ?_) | fail)
    refine Lib.hid ?_
    go_wp2
    go_ret
    exact ⟨ret_bool HT.out.symm, rfl⟩
  | false =>
    by_cases h : 0 ≤ ix
    · have HT : Hid (out = true) := by show _ = _; rw [HO.out, decide_eq_true h]; rfl
      clear HO
      go_enter Tryz.func170, Tryz.ntmps170
      go_wp2_with (first | (go_at_call 141; refine (HL.out _).mono ?_; rintro ee w1 ⟨rfl, rfl⟩; refine Hid.out ?_) | fail)
      refine Lib.hid ?_
      go_wp2_with (first | (go_at_call 152; refine (HX.out _).mono ?_; rintro ee w1 ⟨rfl, rfl⟩; refine Hid.out ?_) | fail)
      refine Lib.hid ?_
      go_wp2
      go_ret
      exact ⟨ret_bool HT.out.symm, rfl⟩
    · have HT : Hid (out = false) := by show _ = _; rw [HO.out, decide_eq_false h]; rfl
      clear HO
      go_enter Tryz.func170, Tryz.ntmps170
      go_wp2_with (first | (go_at_call 141; refine (HL.out _).mono ?_; rintro ee w1 ⟨rfl, rfl⟩; refine Hid.out ?_) | fail)
      refine Lib.hid ?_
      go_wp2_with (first | (go_at_call 152; refine (HX.out _).mono ?_; rintro ee w1 ⟨rfl, rfl⟩; refine Hid.out ?_) | fail)
      refine Lib.hid ?_
      go_wp2
      go_ret
      exact ⟨ret_bool ((decide_eq_false (by omega)).trans HT.out.symm), rfl⟩
set_option maxHeartbeats 1600000 in
set_option maxRecDepth 100000 in
theorem pLabel (s : ByteArray) (w : World) (hs : s.size ≤ 9000000000000000000) : Calls Tryz.prog 103 #[.string s] w (AskEnd (labelB s.data.toList) w) := by
  have HO : Hid (labelB s.data.toList = (decide (1 ≤ s.size ∧ s.size ≤ 63) && (decide (¬ (s.data.toList.getD 0 0).toNat = 45) && decide (¬ (s.data.toList.getD (s.size - 1) 0).toNat = 45)))) := by
    show _ = _; unfold labelB; rw [str_len]
  generalize labelB s.data.toList = out at HO
  by_cases h0 : s.size = 0
  · have HT : Hid (out = false) := by show _ = _; rw [HO.out, decide_eq_false (by omega)]; rfl
    obtain rfl := str_empty h0
    go_enter Tryz.func103, Tryz.ntmps103
    go_wp2
    go_ret
    exact ⟨ret_bool HT.out.symm, rfl⟩
  · obtain ⟨hn1, hn2⟩ := str_ne h0
    have i0 : (0 : Int) < (s.size : Int) := by omega
    have HG0 : Hid ((s.data.toList.getD 0 0) = s[0]'(by omega)) := str_get s 0 (by omega)
    have HG1 : Hid ((s.data.toList.getD (s.size - 1) 0) = s[s.size - 1]'(by omega)) := str_get s (s.size - 1) (by omega)
    go_enter Tryz.func103, Tryz.ntmps103
    go_wp2
    · go_ret
      refine ⟨ret_bool ?_, rfl⟩
      rw [HO.out, HG0.out, HG1.out]
      have e : (s[0]'(by omega)).toNat = 45 := by omega
      rw [e]; simp
    · go_ret
      refine ⟨ret_bool ?_, rfl⟩
      rw [HO.out, HG0.out, HG1.out, decide_eq_true (show 1 ≤ s.size ∧ s.size ≤ 63 by omega), Bool.true_and]
      rw [← intne, ← intne]; rfl
    · go_ret
      refine ⟨ret_bool ?_, rfl⟩
      rw [HO.out, decide_eq_false (by omega)]; rfl
/-- The row of one kind from k on. -/
def rowN (q : UInt8 → Bool) (s : ByteArray) (k : Nat) : Nat := ((s.data.toList.drop k).takeWhile q).length
theorem row_end (q : UInt8 → Bool) (s : ByteArray) (k : Nat) (h : s.size ≤ k) : rowN q s k = 0 := by
  unfold rowN
  rw [List.drop_eq_nil_of_le (by rw [str_len]; exact h)]; rfl
theorem row_step (q : UInt8 → Bool) (s : ByteArray) (k : Nat) (h : k < s.size) : rowN q s k = if q s[k] then rowN q s (k + 1) + 1 else 0 := by
  unfold rowN
  have hl : k < s.data.toList.length := by rw [str_len]; exact h
  rw [List.drop_eq_getElem_cons hl]
  have e : s.data.toList[k] = s[k] := Array.getElem_toList _
  rw [e, List.takeWhile_cons]
  split <;> simp
theorem row_le (q : UInt8 → Bool) (s : ByteArray) (k : Nat) (h : k ≤ s.size) : k + rowN q s k ≤ s.size := by
  have := (List.takeWhile_sublist (p := q) (l := s.data.toList.drop k)).length_le
  rw [List.length_drop, str_len] at this
  unfold rowN; omega
set_option maxHeartbeats 8000000 in
set_option maxRecDepth 100000 in
theorem pRow (F : Nat) (q : UInt8 → Bool) (hE : ∀ args w, (callFunc F args).run Tryz.prog w = .ok (.enter F args) w) (hp : ∀ (c : UInt8) w, Calls Tryz.prog F #[.int .u8 (c.toNat : Int)] w (AskEnd (q c) w)) (g k : Nat) (s : ByteArray) (w : World) (h : RdAt w g s k) (hk : k ≤ s.size) (hs : s.size ≤ 9000000000000000000) :
    Calls Tryz.prog 98 #[.pointer (some ⟨g, 0, none⟩), .func (.func F) #[] #[]] w fun e w' => e = .returned (.string (s.extract k (k + rowN q s k))) ∧ RdAt w' g s (k + rowN q s k) ∧ KeepX g w w' := by
  have HR := Lib.hid h
  obtain ⟨x0, x1, x2⟩ := h.cells
  go_enter Tryz.func98, Tryz.ntmps98
  go_wp2
  go_loopg [] (s.size - k) (fun n wx => ∃ i, RdAt wx g s i ∧ KeepX g w wx ∧ rowN q s k + k = rowN q s i + i ∧ i + n = s.size ∧ k ≤ i)
  case atStart => exact ⟨k, HR.out, KeepX.refl _ _, rfl, by omega, Nat.le_refl _⟩
  case round =>
    obtain ⟨i, hr, hkx, hrow, hin, hki⟩ := hrel
    have HR2 := Lib.hid hr
    have HK := Lib.hid hkx
    have HRow := Lib.hid hrow
    have HP := Lib.hid hp
    obtain ⟨y0, y1, y2⟩ := hr.cells
    clear hrow hr hkx hp
    have k0 : (0 : Int) ≤ (k : Int) := by omega
    have k1 : (k : Int) ≤ (i : Int) := by omega
    have k2 : (i : Int) ≤ (s.size : Int) := by omega
    have k3 : k ≤ i := hki
    have k4 : i ≤ s.size := by omega
    have HE : Hid (∀ n, rowN q s i = 0 → Ending.returned (.string (s.extract k i)) = Ending.returned (.string (s.extract k (k + rowN q s k))) ∧ RdAt (wr.drewN n) g s (k + rowN q s k) ∧ KeepX g w (wr.drewN n)) := fun n h0 => by
      have : k + rowN q s k = i := by have := HRow.out; omega
      rw [this]
      exact ⟨rfl, HR2.out.drewN n, HK.out.trans (KeepX.drewN n)⟩
    cases gk with
    | zero =>
      have q1 : decide (i < s.size) = false := decide_eq_false (by omega)
      have q2 : decide ((i : Int) < (s.size : Int)) = false := decide_eq_false (by omega)
      have H0 : Hid (rowN q s i = 0) := row_end q s i (by omega)
      go_wp2
      go_quiet (fail)
      go_wp2
      go_quiet (fail)
      go_wp2
      go_ret
      try rw [World.drewN_drewN]
      exact HE.out _ H0.out
    | succ m =>
      have hlt : i < s.size := by omega
      have q1 : decide (i < s.size) = true := decide_eq_true (by omega)
      have q2 : decide ((i : Int) < (s.size : Int)) = true := decide_eq_true (by omega)
      have i0 : (0 : Int) ≤ (i : Int) := by omega
      have HQ := Lib.hid (fun w1 => HP.out s[i] w1)
      have HC : Hid (rowN q s i = if q s[i] then rowN q s (i + 1) + 1 else 0) := row_step q s i hlt
      generalize q s[i] = qv at HQ HC
      cases qv with
      | true =>
        go_wp2
        go_quiet ((go_at_fn F; exact Calls.quiet_of_same ((HQ.out _).mono fun _ _ h => ⟨h.1, h.2.symm⟩)))
        go_wp2
        go_roundg m
        case measure => omega
        case rel =>
          have e := HC.out
          simp only [if_true] at e
          exact ⟨i + 1, (HR2.out.drewN _).set (i + 1), HK.out.trans ((KeepX.drewN _).trans (KeepX.set g _ 1 _)), by rw [HRow.out, e]; omega, by omega, by omega⟩
      | false =>
        have H0 : Hid (rowN q s i = 0) := by have e := HC.out; simp only [Bool.false_eq_true, if_false] at e; exact e
        go_wp2
        go_quiet ((go_at_fn F; exact Calls.quiet_of_same ((HQ.out _).mono fun _ _ h => ⟨h.1, h.2.symm⟩)))
        go_wp2
        go_quiet (fail)
        go_wp2
        go_ret
        try rw [World.drewN_drewN]
        exact HE.out _ H0.out
end Go.Proofs.YtnehgbpfgehhiaaGreatDoor.Path
