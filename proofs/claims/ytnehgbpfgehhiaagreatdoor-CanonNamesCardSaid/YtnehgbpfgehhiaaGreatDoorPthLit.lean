/-
  MERGED by mergefill.py: PthLit.
-/
import Derived.Test.YtnehgbpfgehhiaaGreatDoorPthRepPM
import Derived.Test.YtnehgbpfgehhiaaGreatDoorPthLocM
import Derived.Test.YtnehgbpfgehhiaaGreatDoorCidrPAddr
import Derived.Test.YtnehgbpfgehhiaaGreatDoorCidrPSixFM
import Derived.Deep.CutBlock
import Derived.Deep.DeepCutAuto
import Derived.Deep.CutRange
/-
  PATH, the program: address literals behind their bracket.
-/
namespace Go.Proofs.YtnehgbpfgehhiaaGreatDoor.Path
open Go.RowKit Base
def notBr (c : UInt8) : Bool := decide (c.toNat ≠ 93)
def sixT : ByteArray := ⟨#[73, 80, 118, 54, 58]⟩
def isSixT (t : ByteArray) : Bool := decide (5 ≤ t.size) && Lib.equalFold (t.extract 0 5).data.toList [73, 80, 118, 54, 58]
def litU (t : ByteArray) : ByteArray := if isSixT t = true then t.extract 5 t.size else t
def litShow (n : Cidr.NetM) : ByteArray := match Cidr.showN n with
  | some l => ⟨l.toArray⟩
  | none => ⟨#[]⟩
/-- What stands between the bracket and the next one. -/
def litB (s : ByteArray) (j : Nat) (t : ByteArray) : Bool × Nat × ByteArray := match Cidr.addrN (litU t) with
  | none => (false, j, ⟨#[]⟩)
  | some n => if n.six = isSixT t then (if hasB s j 93 = true then (true, j + 1, litShow n) else (false, j, ⟨#[]⟩)) else (false, j, ⟨#[]⟩)
def litL (s : ByteArray) (k : Nat) : Bool × Nat × ByteArray := litB s (k + rowN notBr s k) (s.extract k (k + rowN notBr s k))
theorem litB_le (s : ByteArray) (j : Nat) (t : ByteArray) (hj : j ≤ s.size) : (litB s j t).2.1 ≤ s.size ∧ j ≤ (litB s j t).2.1 := by
  unfold litB
  split
  · exact ⟨hj, Nat.le_refl _⟩
  · split
    · split
      · rename_i h
        have := hasB_lt h
        exact ⟨by show j + 1 ≤ _; omega, Nat.le_succ _⟩
      · exact ⟨hj, Nat.le_refl _⟩
    · exact ⟨hj, Nat.le_refl _⟩
theorem litL_le (s : ByteArray) (k : Nat) (hk : k ≤ s.size) : (litL s k).2.1 ≤ s.size ∧ k ≤ (litL s k).2.1 := by
  have h1 := row_le notBr s k hk
  have h2 := litB_le s (k + rowN notBr s k) (s.extract k (k + rowN notBr s k)) h1
  exact ⟨h2.1, Nat.le_trans (Nat.le_add_right _ _) h2.2⟩
theorem pNotBr (c : UInt8) (w : World) : Calls Tryz.prog 99 #[.int .u8 (c.toNat : Int)] w (AskEnd (notBr c) w) := by
  have e : notBr c = ((c.toNat : Int) != 93) := by
    unfold notBr
    by_cases h : c.toNat = 93
    · rw [h]; rfl
    · rw [decide_eq_true h]; symm; rw [bne_iff_ne]; omega
  rw [e]
  go_enter Tryz.func99, Tryz.ntmps99
  go_wp2
  go_ret
  exact ⟨rfl, rfl⟩
theorem enters_notBr : ∀ (args : Array Value) (w : World), (callFunc 99 args).run Tryz.prog w = .ok (.enter 99 args) w := fun args w => by go_simp
/-- The library's variables that a literal is read by. -/
structure EnvL (w : World) : Prop where
  cidr : Cidr.EnvS w
  fold : FoldT w sixT
theorem EnvL.on {w w' : World} (h : EnvL w) (hb : Below w.heap.size w w') : EnvL w' :=
  ⟨h.cidr.on hb, h.fold.asc, fun j b hj => by
    obtain ⟨f, h1, h2, h3⟩ := h.fold.fold j b hj
    exact ⟨f, h1, cell_on h2 hb, cell_on h3 hb⟩⟩
theorem lit_show (n : Cidr.NetM) (ha : n.a.length = 16) (w : World) (he : Cidr.EnvS w) : Calls Tryz.prog 102 #[Cidr.netV n] w fun e w' => ∃ z : Int, e = .returned (.tuple #[.string (litShow n), .int .i64 z]) ∧ Below w.heap.size w w' :=
  (Cidr.pShow n ha w he).mono fun e w' h => by
    rcases h with ⟨hb, ⟨h1, rfl⟩ | ⟨l, h1, rfl⟩⟩
    · exact ⟨70, by unfold litShow; rw [h1], hb⟩
    · exact ⟨0, by unfold litShow; rw [h1], hb⟩
set_option maxHeartbeats 8000000 in
set_option maxRecDepth 100000 in
theorem pLit {w0 : World} (he : EnvL w0) (g k : Nat) (s : ByteArray) (w : World) (hg0 : w0.heap.size ≤ g) (hE : Below w0.heap.size w0 w) (h : RdAt w g s k) (hk : k ≤ s.size) (hs : s.size ≤ 140737488355328) :
    Calls Tryz.prog 67 #[.pointer (some ⟨g, 0, none⟩)] w (LocEnd g s w (litL s k)) := by
  have HEN : Hid (∀ w', KeepX g w w' → EnvL w') := fun w' hk => he.on (hE.trans (hk.below hg0 (heap_lt h)))
  have hgl := heap_lt h
  have C1 : Hid (Calls Tryz.prog 98 #[.pointer (some ⟨g, 0, none⟩), .func (.func 99) #[] #[]] w fun e w' => e = .returned (.string (s.extract k (k + rowN notBr s k))) ∧ RdAt w' g s (k + rowN notBr s k) ∧ KeepX g w w') :=
    pRow 99 notBr enters_notBr pNotBr g k s w h hk (by omega)
  have hj := row_le notBr s k hk
  obtain ⟨D, hD⟩ : ∃ D, D = litL s k := ⟨_, rfl⟩
  rw [← hD]
  have HD : Hid (D = litB s (k + rowN notBr s k) (s.extract k (k + rowN notBr s k))) := hD
  generalize k + rowN notBr s k = j at C1 HD hj
  have hts : (s.extract k j).size ≤ s.size := by rw [ByteArray.size_extract]; omega
  generalize s.extract k j = t at C1 HD hts
  have C4 : Hid (∀ W, RdAt W g s j → Calls Tryz.prog 66 #[.pointer (some ⟨g, 0, none⟩), .int .u8 93] W fun e w' => e = .returned (.bool (hasB s j 93)) ∧ RdAt w' g s (if hasB s j 93 = true then j + 1 else j) ∧ KeepX g W w') :=
    fun W h1 => pHas g j s 93 W h1 hj (by omega)
  clear hD h hE hg0 he
  go_enter Tryz.func67, Tryz.ntmps67
  go_wp2
  refine wp_scope_fwd fun F hF => ?_
  have HF := Lib.hid hF
  clear hF
  go_wp2_with (first | (go_at_call 98; refine C1.out.mono ?_; rintro ee w1 ⟨rfl, h1, q1⟩; refine Hid.out ?_) | fail)
  refine Lib.hid ?_
  have HR1 := Lib.hid h1
  have HQ1 := Lib.hid q1
  have hgl1 : g < w1.heap.size := Nat.lt_of_lt_of_le hgl q1.size
  have HEq := Lib.hid (fun (h5 : 5 ≤ t.size) => pEqF (t.extract 0 5) sixT w1 (by rw [ByteArray.size_extract]; omega) (by rw [ByteArray.size_extract]; show _ = 5; omega) (HEN.out _ q1).fold)
  clear h1 q1
  go_upto_region 3 with fail
  go_cut [6] from 11 to 18 (fun x wx => x = .bool (isSixT t) ∧ Hid (RdAt wx g s j) ∧ Hid (KeepX g w wx))
  case first =>
    by_cases h5 : 5 ≤ t.size
    · have i5 : (5 : Int) ≤ (t.size : Int) := by omega
      have C2 : Hid (Calls Tryz.prog 100 #[.string (t.extract 0 5), .string ⟨#[73, 80, 118, 54, 58]⟩] w1 fun e w' => e = .returned (.bool (isSixT t)) ∧ Below w1.heap.size w1 w') := by
        have e : isSixT t = Lib.equalFold (t.extract 0 5).data.toList sixT.data.toList := by unfold isSixT; rw [decide_eq_true h5]; rfl
        rw [e]; exact HEq.out h5
      clear h5 HEq
      go_wp2_with (first | (go_at_call 100; refine C2.out.mono ?_; rintro ee w2 ⟨rfl, hb⟩; refine Hid.out ?_) | fail)
      refine Lib.hid ?_
      have HR2 : Hid (RdAt w2 g s j) := HR1.out.on hb
      have HQ2 : Hid (KeepX g w w2) := HQ1.out.trans (KeepX.of_below hb)
      clear hb
      go_wp2
      go_meet
      case rel => exact ⟨by simp, HR2.out, HQ2.out⟩
    · have i5 : ¬ (5 : Int) ≤ (t.size : Int) := by omega
      have e : isSixT t = false := by unfold isSixT; rw [decide_eq_false h5]; rfl
      have HEE := Lib.hid e
      clear h5 HEq e
      go_wp2
      go_meet
      case rel => exact ⟨by rw [HEE.out], HR1.out, HQ1.out⟩
  case rest =>
    obtain ⟨rfl, hr, hq⟩ := hcut
    have HR2 := Lib.hid hr
    have HQ2 := Lib.hid hq
    have hgl2 : g < wc.heap.size := Nat.lt_of_lt_of_le hgl hq.size
    clear hr hq HR1 HQ1 HEq C1 hgl1
    have HU : Hid (isSixT t = true → 5 ≤ t.size) := fun e => by
      unfold isSixT at e
      rw [Bool.and_eq_true] at e
      exact of_decide_eq_true e.1
    have HD2 : Hid (D = match Cidr.addrN (if isSixT t = true then t.extract 5 t.size else t) with
      | none => (false, j, ⟨#[]⟩)
      | some n => if n.six = isSixT t then (if hasB s j 93 = true then (true, j + 1, litShow n) else (false, j, ⟨#[]⟩)) else (false, j, ⟨#[]⟩)) := HD.out
    generalize isSixT t = b6 at HU HD2
    clear HD
    cases b6 with
    | true =>
      have hu5 : 5 ≤ t.size := HU.out rfl
      have i5 : (5 : Int) ≤ (t.size : Int) := by omega
      have HD3 : Hid (D = match Cidr.addrN (t.extract 5 t.size) with
        | none => (false, j, ⟨#[]⟩)
        | some n => if n.six = true then (if hasB s j 93 = true then (true, j + 1, litShow n) else (false, j, ⟨#[]⟩)) else (false, j, ⟨#[]⟩)) := by
        have e := HD2.out
        rw [if_pos rfl] at e
        exact e
      have HA := Lib.hid (fun W (hk : KeepX g w W) => Cidr.pAddr (t.extract 5 t.size) W (HEN.out W hk).cidr.env)
      clear HD2 HU
      cases hgo : Cidr.addrN (t.extract 5 t.size) with
      | none =>
        have HT : Hid (D = (false, j, ⟨#[]⟩)) := by have e := HD3.out; rw [hgo] at e; exact e
        rw [hgo] at HA
        have HA2 := Lib.hid (fun W hk => Cidr.addr_no (HA.out W hk))
        clear HA HD3 hgo
        go_wp2_with (first | (go_at_call 101; refine (HA2.out _ HQ2.out).mono ?_; rintro ee w3 ⟨rfl, hb⟩; refine Hid.out ?_) | fail)
        refine Lib.hid ?_
        have HR3 : Hid (RdAt w3 g s j) := HR2.out.on hb
        have HQ3 : Hid (KeepX g w w3) := HQ2.out.trans (KeepX.of_below hb)
        have HT3 := Lib.hid (Cidr.there_net (Cidr.NetAt.new w3 Cidr.zeroN) rfl (n := Cidr.zeroN) rfl)
        have HC3 := Lib.hid (Cidr.size25c (n := Cidr.zeroN) rfl)
        clear hb
        go_wp2_with (first | (refine wpList_store_mid rfl 72 (.tmp 7) (.tmp 25) rfl w3.heap.size 0 (Cidr.netC Cidr.zeroN) rfl rfl HT3.out HC3.out (Cidr.netC_all _) ?_; generalize hw4 : World.setCells _ _ _ _ = w4; refine Hid.out ?_) | fail)
        refine Lib.hid ?_
        obtain ⟨hn4, hb4⟩ := Cidr.net_new (n := Cidr.zeroN) rfl hw4
        have HR4 : Hid (RdAt w4 g s j) := HR3.out.on hb4
        have HQ4 : Hid (KeepX g w w4) := HQ3.out.trans (KeepX.of_below hb4)
        clear hw4 hn4 hb4 HT3 HC3
        go_wp2
        go_step3
        refine ⟨_, by rw [HF.out]; rfl, ?_⟩
        clear HF
        go_wp2
        rw [Exit.noGoto_ret]
        go_ret2
        rw [HT.out]
        exact ⟨rfl, HR4.out, HQ4.out⟩
      | some n =>
        have HT : Hid (D = if n.six = true then (if hasB s j 93 = true then (true, j + 1, litShow n) else (false, j, ⟨#[]⟩)) else (false, j, ⟨#[]⟩)) := by have e := HD3.out; rw [hgo] at e; exact e
        rw [hgo] at HA
        have HA2 := Lib.hid (fun W hk => Cidr.addr_yes (HA.out W hk))
        clear HA HD3 hgo
        go_wp2_with (first | (go_at_call 101; refine (HA2.out _ HQ2.out).mono ?_; rintro ee w3 ⟨hna, rfl, hb⟩; refine Hid.out ?_) | fail)
        refine Lib.hid ?_
        have HNA := Lib.hid hna
        have HR3 : Hid (RdAt w3 g s j) := HR2.out.on hb
        have HQ3 : Hid (KeepX g w w3) := HQ2.out.trans (KeepX.of_below hb)
        have HT3 := Lib.hid (Cidr.there_net (Cidr.NetAt.new w3 Cidr.zeroN) rfl (n := n) hna)
        have HC3 := Lib.hid (Cidr.size25c (n := n) hna)
        have hlt3 := heap_lt HR3.out
        clear hb hna
        go_wp2_with (first | (refine wpList_store_mid rfl 72 (.tmp 7) (.tmp 25) rfl w3.heap.size 0 (Cidr.netC n) rfl rfl HT3.out HC3.out (Cidr.netC_all _) ?_; generalize hw4 : World.setCells _ _ _ _ = w4; refine Hid.out ?_) | fail)
        refine Lib.hid ?_
        obtain ⟨hn4, hb4⟩ := Cidr.net_new (n := n) HNA.out hw4
        have HN4 := Lib.hid hn4
        have HR4 : Hid (RdAt w4 g s j) := HR3.out.on hb4
        have HQ4 : Hid (KeepX g w w4) := HQ3.out.trans (KeepX.of_below hb4)
        clear hw4 hn4 hb4 HT3 HC3
        by_cases hsx : n.six = true
        · have y0 : w4.cell? ⟨w3.heap.size, 0, none⟩ = some (.bool true) := by have e := HN4.out.six; rw [hsx] at e; exact e
          have HT : Hid (D = if hasB s j 93 = true then (true, j + 1, litShow n) else (false, j, ⟨#[]⟩)) := by have e := HT.out; rw [if_pos hsx] at e; exact e
          have C5 : Hid (Calls Tryz.prog 66 #[.pointer (some ⟨g, 0, none⟩), .int .u8 93] w4 fun e w' => e = .returned (.bool (hasB s j 93)) ∧ RdAt w' g s (if hasB s j 93 = true then j + 1 else j) ∧ KeepX g w4 w') := C4.out w4 HR4.out
          clear hsx C4
          generalize hasB s j 93 = hb93 at HT C5
          go_wp2_with (first | (go_at_call 66; refine C5.out.mono ?_; rintro ee w5 ⟨rfl, h5, q5⟩; refine Hid.out ?_) | fail)
          refine Lib.hid ?_
          have HQ5 : Hid (KeepX g w w5) := HQ4.out.trans q5
          have hn5 : Cidr.NetAt w5 w3.heap.size n := (q5.block _ (heap_lt HN4.out) (by omega)).trans HN4.out
          have HN5 := Lib.hid hn5
          cases hb93 with
          | true =>
            have HR5 : Hid (RdAt w5 g s (j + 1)) := h5
            have HT2 : Hid (D = (true, j + 1, litShow n)) := HT.out
            have C6 := Lib.hid (lit_show n HNA.out w5 (HEN.out _ HQ5.out).cidr)
            have HSt := Lib.hid (Cidr.size25_of (n := n) HNA.out)
            clear h5 q5 hn5 HT C5 HR4 HN4
            go_wp2_with (first | (refine wpList_load_mid rfl 72 (.tmp 7) rfl w3.heap.size 0 rfl (Cidr.netL n) _ HN5.out.range0 Tryz.underlying72 rfl HSt.out ?_) | (go_at_call 102; refine C6.out.mono ?_; rintro ee w6 ⟨z, rfl, hb⟩; refine Hid.out ?_) | fail)
            refine Lib.hid ?_
            have HR6 : Hid (RdAt w6 g s (j + 1)) := HR5.out.on hb
            have HQ6 : Hid (KeepX g w w6) := HQ5.out.trans (KeepX.of_below hb)
            clear hb
            go_wp2
            rw [Exit.fwd_ret]
            go_ret2
            rw [HT2.out]
            exact ⟨rfl, HR6.out, HQ6.out⟩
          | false =>
            have HR5 : Hid (RdAt w5 g s j) := h5
            have HT : Hid (D = (false, j, ⟨#[]⟩)) := HT.out
            clear h5 q5 hn5 C5 HR4 HN4
            go_wp2
            go_step3
            refine ⟨_, by rw [HF.out]; rfl, ?_⟩
            clear HF
            go_wp2
            rw [Exit.noGoto_ret]
            go_ret2
            rw [HT.out]
            exact ⟨rfl, HR5.out, HQ5.out⟩
        · have hsy : n.six = false := by cases h : n.six <;> simp_all
          have y0 : w4.cell? ⟨w3.heap.size, 0, none⟩ = some (.bool false) := by have e := HN4.out.six; rw [hsy] at e; exact e
          have HT : Hid (D = (false, j, ⟨#[]⟩)) := by have e := HT.out; rw [if_neg hsx] at e; exact e
          clear hsx hsy C4
          go_wp2
          go_step3
          refine ⟨_, by rw [HF.out]; rfl, ?_⟩
          clear HF
          go_wp2
          rw [Exit.noGoto_ret]
          go_ret2
          rw [HT.out]
          exact ⟨rfl, HR4.out, HQ4.out⟩
    | false =>
      have HD3 : Hid (D = match Cidr.addrN t with
        | none => (false, j, ⟨#[]⟩)
        | some n => if n.six = false then (if hasB s j 93 = true then (true, j + 1, litShow n) else (false, j, ⟨#[]⟩)) else (false, j, ⟨#[]⟩)) := by
        have e := HD2.out
        rw [if_neg (by simp)] at e
        exact e
      have HA := Lib.hid (fun W (hk : KeepX g w W) => Cidr.pAddr t W (HEN.out W hk).cidr.env)
      clear HD2 HU
      cases hgo : Cidr.addrN t with
      | none =>
        have HT : Hid (D = (false, j, ⟨#[]⟩)) := by have e := HD3.out; rw [hgo] at e; exact e
        rw [hgo] at HA
        have HA2 := Lib.hid (fun W hk => Cidr.addr_no (HA.out W hk))
        clear HA HD3 hgo
        go_wp2_with (first | (go_at_call 101; refine (HA2.out _ HQ2.out).mono ?_; rintro ee w3 ⟨rfl, hb⟩; refine Hid.out ?_) | fail)
        refine Lib.hid ?_
        have HR3 : Hid (RdAt w3 g s j) := HR2.out.on hb
        have HQ3 : Hid (KeepX g w w3) := HQ2.out.trans (KeepX.of_below hb)
        have HT3 := Lib.hid (Cidr.there_net (Cidr.NetAt.new w3 Cidr.zeroN) rfl (n := Cidr.zeroN) rfl)
        have HC3 := Lib.hid (Cidr.size25c (n := Cidr.zeroN) rfl)
        clear hb
        go_wp2_with (first | (refine wpList_store_mid rfl 72 (.tmp 7) (.tmp 25) rfl w3.heap.size 0 (Cidr.netC Cidr.zeroN) rfl rfl HT3.out HC3.out (Cidr.netC_all _) ?_; generalize hw4 : World.setCells _ _ _ _ = w4; refine Hid.out ?_) | fail)
        refine Lib.hid ?_
        obtain ⟨hn4, hb4⟩ := Cidr.net_new (n := Cidr.zeroN) rfl hw4
        have HR4 : Hid (RdAt w4 g s j) := HR3.out.on hb4
        have HQ4 : Hid (KeepX g w w4) := HQ3.out.trans (KeepX.of_below hb4)
        clear hw4 hn4 hb4 HT3 HC3
        go_wp2
        go_step3
        refine ⟨_, by rw [HF.out]; rfl, ?_⟩
        clear HF
        go_wp2
        rw [Exit.noGoto_ret]
        go_ret2
        rw [HT.out]
        exact ⟨rfl, HR4.out, HQ4.out⟩
      | some n =>
        have HT : Hid (D = if n.six = false then (if hasB s j 93 = true then (true, j + 1, litShow n) else (false, j, ⟨#[]⟩)) else (false, j, ⟨#[]⟩)) := by have e := HD3.out; rw [hgo] at e; exact e
        rw [hgo] at HA
        have HA2 := Lib.hid (fun W hk => Cidr.addr_yes (HA.out W hk))
        clear HA HD3 hgo
        go_wp2_with (first | (go_at_call 101; refine (HA2.out _ HQ2.out).mono ?_; rintro ee w3 ⟨hna, rfl, hb⟩; refine Hid.out ?_) | fail)
        refine Lib.hid ?_
        have HNA := Lib.hid hna
        have HR3 : Hid (RdAt w3 g s j) := HR2.out.on hb
        have HQ3 : Hid (KeepX g w w3) := HQ2.out.trans (KeepX.of_below hb)
        have HT3 := Lib.hid (Cidr.there_net (Cidr.NetAt.new w3 Cidr.zeroN) rfl (n := n) hna)
        have HC3 := Lib.hid (Cidr.size25c (n := n) hna)
        have hlt3 := heap_lt HR3.out
        clear hb hna
        go_wp2_with (first | (refine wpList_store_mid rfl 72 (.tmp 7) (.tmp 25) rfl w3.heap.size 0 (Cidr.netC n) rfl rfl HT3.out HC3.out (Cidr.netC_all _) ?_; generalize hw4 : World.setCells _ _ _ _ = w4; refine Hid.out ?_) | fail)
        refine Lib.hid ?_
        obtain ⟨hn4, hb4⟩ := Cidr.net_new (n := n) HNA.out hw4
        have HN4 := Lib.hid hn4
        have HR4 : Hid (RdAt w4 g s j) := HR3.out.on hb4
        have HQ4 : Hid (KeepX g w w4) := HQ3.out.trans (KeepX.of_below hb4)
        clear hw4 hn4 hb4 HT3 HC3
        by_cases hsx : n.six = false
        · have y0 : w4.cell? ⟨w3.heap.size, 0, none⟩ = some (.bool false) := by have e := HN4.out.six; rw [hsx] at e; exact e
          have HT : Hid (D = if hasB s j 93 = true then (true, j + 1, litShow n) else (false, j, ⟨#[]⟩)) := by have e := HT.out; rw [if_pos hsx] at e; exact e
          have C5 : Hid (Calls Tryz.prog 66 #[.pointer (some ⟨g, 0, none⟩), .int .u8 93] w4 fun e w' => e = .returned (.bool (hasB s j 93)) ∧ RdAt w' g s (if hasB s j 93 = true then j + 1 else j) ∧ KeepX g w4 w') := C4.out w4 HR4.out
          clear hsx C4
          generalize hasB s j 93 = hb93 at HT C5
          go_wp2_with (first | (go_at_call 66; refine C5.out.mono ?_; rintro ee w5 ⟨rfl, h5, q5⟩; refine Hid.out ?_) | fail)
          refine Lib.hid ?_
          have HQ5 : Hid (KeepX g w w5) := HQ4.out.trans q5
          have hn5 : Cidr.NetAt w5 w3.heap.size n := (q5.block _ (heap_lt HN4.out) (by omega)).trans HN4.out
          have HN5 := Lib.hid hn5
          cases hb93 with
          | true =>
            have HR5 : Hid (RdAt w5 g s (j + 1)) := h5
            have HT2 : Hid (D = (true, j + 1, litShow n)) := HT.out
            have C6 := Lib.hid (lit_show n HNA.out w5 (HEN.out _ HQ5.out).cidr)
            have HSt := Lib.hid (Cidr.size25_of (n := n) HNA.out)
            clear h5 q5 hn5 HT C5 HR4 HN4
            go_wp2_with (first | (refine wpList_load_mid rfl 72 (.tmp 7) rfl w3.heap.size 0 rfl (Cidr.netL n) _ HN5.out.range0 Tryz.underlying72 rfl HSt.out ?_) | (go_at_call 102; refine C6.out.mono ?_; rintro ee w6 ⟨z, rfl, hb⟩; refine Hid.out ?_) | fail)
            refine Lib.hid ?_
            have HR6 : Hid (RdAt w6 g s (j + 1)) := HR5.out.on hb
            have HQ6 : Hid (KeepX g w w6) := HQ5.out.trans (KeepX.of_below hb)
            clear hb
            go_wp2
            rw [Exit.fwd_ret]
            go_ret2
            rw [HT2.out]
            exact ⟨rfl, HR6.out, HQ6.out⟩
          | false =>
            have HR5 : Hid (RdAt w5 g s j) := h5
            have HT : Hid (D = (false, j, ⟨#[]⟩)) := HT.out
            clear h5 q5 hn5 C5 HR4 HN4
            go_wp2
            go_step3
            refine ⟨_, by rw [HF.out]; rfl, ?_⟩
            clear HF
            go_wp2
            rw [Exit.noGoto_ret]
            go_ret2
            rw [HT.out]
            exact ⟨rfl, HR5.out, HQ5.out⟩
        · have hsy : n.six = true := by cases h : n.six <;> simp_all
          have y0 : w4.cell? ⟨w3.heap.size, 0, none⟩ = some (.bool true) := by have e := HN4.out.six; rw [hsy] at e; exact e
          have HT : Hid (D = (false, j, ⟨#[]⟩)) := by have e := HT.out; rw [if_neg hsx] at e; exact e
          clear hsx hsy C4
          go_wp2
          go_step3
          refine ⟨_, by rw [HF.out]; rfl, ?_⟩
          clear HF
          go_wp2
          rw [Exit.noGoto_ret]
          go_ret2
          rw [HT.out]
          exact ⟨rfl, HR4.out, HQ4.out⟩
theorem lit_ok {w0 : World} (he : EnvL w0) : LitOk w0 litL := ⟨litL_le, fun g k s w hg hE h hk hs => pLit he g k s w hg hE h hk hs⟩
end Go.Proofs.YtnehgbpfgehhiaaGreatDoor.Path
