/-
  MERGED by mergefill.py: CidrFour, CidrSixP.
-/
import Derived.Test.YtnehgbpfgehhiaaGreatDoorCidrG2
import Derived.Test.YtnehgbpfgehhiaaGreatDoorCidrG1
import Derived.Laws.CopyOwn
/-
  CIDR, the given answers: an address of IPv4.
-/
namespace Go.Proofs.YtnehgbpfgehhiaaGreatDoor.Cidr
open Go.RowKit Base
def byteN (p : List UInt8) : Option Nat := match decN p with | some x => if x ≤ 255 then some x else none | none => none
/-- The bytes of four numbers with '.' between them. -/
def fourB (l : List UInt8) : Option (List Nat) := if (splitB 46 l).length = 4 then mapO byteN (splitB 46 l) else none
def addr4 (ns : List Nat) : List UInt8 := ns.map UInt8.ofNat ++ List.replicate (16 - ns.length) 0
def fourN (l : List UInt8) : Option NetM := (fourB l).map fun ns => ⟨false, 32, addr4 ns⟩
theorem byteN_le {p : List UInt8} {n : Nat} (h : byteN p = some n) : n ≤ 255 ∧ decN p = some n := by
  unfold byteN at h
  cases hd : decN p with
  | none => rw [hd] at h; cases h
  | some x =>
    rw [hd] at h
    simp only at h
    split at h
    · cases h; exact ⟨by assumption, rfl⟩
    · cases h
theorem byteN_none {p : List UInt8} (h : byteN p = none) : decN p = none ∨ ∃ x, decN p = some x ∧ 255 < x := by
  unfold byteN at h
  cases hd : decN p with
  | none => exact Or.inl rfl
  | some x =>
    rw [hd] at h
    simp only at h
    split at h
    · cases h
    · exact Or.inr ⟨x, rfl, by omega⟩
theorem addr4_len {ns : List Nat} (h : ns.length ≤ 16) : (addr4 ns).length = 16 := by unfold addr4; simp; omega
theorem addr4_set {ns : List Nat} (h : ns.length < 16) (x : Nat) : (addr4 ns).set ns.length (UInt8.ofNat x) = addr4 (ns ++ [x]) := by
  unfold addr4
  rw [List.set_append_right _ _ (by simp), List.length_map, Nat.sub_self, List.length_append, List.length_singleton, show 16 - ns.length = (16 - (ns.length + 1)) + 1 by omega, List.replicate_succ]
  simp
def NetEnd (o : Option NetM) (w : World) (e : Ending) (w' : World) : Prop :=
  Below w.heap.size w w' ∧ ((o = none ∧ ∃ n : NetM, n.a.length = 16 ∧ e = .returned (.tuple #[netV n, .bool false])) ∨ ∃ n : NetM, o = some n ∧ n.a.length = 16 ∧ e = .returned (.tuple #[netV n, .bool true]))
set_option maxHeartbeats 4000000 in
set_option maxRecDepth 100000 in
theorem rFour (s : ByteArray) (w : World) (hs : s.size ≤ 4294967280) : Calls Tryz.prog 58 #[.string s] w (NetEnd (fourN s.data.toList) w) := by
  obtain ⟨o, ho⟩ : ∃ o, o = fourN s.data.toList := ⟨_, rfl⟩
  rw [← ho]
  unfold fourN fourB at ho
  have HSP := Lib.hid (fun w => rSplit s 46 w hs)
  obtain ⟨ps, hps⟩ : ∃ ps, ps = splitB 46 s.data.toList := ⟨_, rfl⟩
  rw [← hps] at ho HSP
  have HO := Lib.hid ho
  have HB0 := Lib.hid (Below.alloc1 w (.cells (netC zeroN) 72))
  have HN0 := Lib.hid (NetAt.new w zeroN)
  clear ho hps
  go_enter Tryz.func58, Tryz.ntmps58
  go_wp2_with (go_at_call 90; refine (HSP.out _).mono ?_; rintro e w1 ⟨v1, rfl, o1, b1⟩; refine Hid.out ?_)
  refine Lib.hid ?_
  obtain ⟨pa, pc, rfl, _⟩ := o1.form
  have HP := Lib.hid o1
  have HB1 : Hid (Below w.heap.size w w1) := HB0.out.trans (b1.mono HB0.out.size)
  have HN1 : Hid (NetAt w1 w.heap.size zeroN) := HN0.out.on b1
  have HL1 : Hid (w.heap.size < w1.heap.size) := heap_lt HN1.out
  clear o1 b1
  have HT := Lib.hid (there_of (NetAt.new w1 zeroN) (n := (netC (⟨false, 32, List.replicate 16 0⟩ : NetM)).size) (by decide))
  have HZ := Lib.hid (size25c (n := ⟨false, 32, List.replicate 16 0⟩) rfl)
  have HPUT := Lib.hid (fun w2 => @net_put _ w2 _ _ (NetAt.new w1 zeroN) rfl ⟨false, 32, List.replicate 16 0⟩ rfl)
  go_wp2_with (first | (refine wpList_store_mid rfl 72 (.tmp 5) (.tmp 11) rfl w1.heap.size 0 (netC (⟨false, 32, List.replicate 16 0⟩ : NetM)) rfl rfl HT.out HZ.out (netC_all _) ?_; generalize hw2 : World.setCells _ _ _ _ = w2; refine Hid.out ?_) | fail)
  refine Lib.hid ?_
  obtain ⟨hn2, hk2, hz2⟩ := HPUT.out w2 hw2
  have HN2 := Lib.hid hn2
  have HZ2 : Hid (w2.heap.size = w1.heap.size + 1) := by show _ = _; rw [hz2]; simp
  have HB2 : Hid (Below w1.heap.size w1 w2) := (Below.alloc1 _ _).trans (hk2.below (Nat.le_refl _) (by simp))
  clear hw2 hn2 hk2 hz2 HPUT HT HZ
  by_cases h4 : ps.length = 4
  · have e1 : ((ps.length : Int) != 4) = false := by rw [h4]; rfl
    have HO4 : Hid (o = (mapO byteN ps).map fun ns => ⟨false, 32, addr4 ns⟩) := by have := HO.out; rw [if_pos h4] at this; exact this
    have HP4 := Lib.hid h4
    clear HO h4
    obtain ⟨R, hR⟩ : ∃ R : Value → World → Prop, R = fun i wr => ∃ ns : List Nat, ns.length ≤ 4 ∧ i = .int .i64 (ns.length : Int) ∧ NetAt wr w1.heap.size ⟨false, 32, addr4 ns⟩ ∧ Below w1.heap.size w1 wr ∧ Hid (mapO byteN (ps.take ns.length) = some ns) := ⟨_, rfl⟩
    have HR := Lib.hid hR
    clear hR
    go_wp2
    go_loopw [6] (fun i wr => R i wr) (fun i _ => 4 - (intOf i).toNat)
    case atStart => rw [HR.out]; exact ⟨[], by simp, rfl, HN2.out, HB2.out, rfl⟩
    case round =>
      rw [HR.out] at hrel
      obtain ⟨ns, hk, rfl, hat, hbw, hm⟩ := hrel
      have h4 := HP4.out
      have HAT := Lib.hid hat
      have HBW := Lib.hid hbw
      have HAL := Lib.hid (addr4_len (ns := ns) (by omega))
      have HN0r : Hid (NetAt wr w.heap.size zeroN) := HN1.out.on hbw
      have HBF : Hid (Below w.heap.size w wr) := HB1.out.trans (hbw.mono HB1.out.size)
      have HS := Lib.hid (size25_of (n := ⟨false, 32, addr4 ns⟩) HAL.out)
      have HT := Lib.hid (there_of HN0r.out (n := (netC (⟨false, 32, addr4 ns⟩ : NetM)).size) (by rw [netC_size HAL.out]; decide))
      have HSC := Lib.hid (size25c (n := ⟨false, 32, addr4 ns⟩) HAL.out)
      have HPUT := Lib.hid (fun w2 => @net_put _ w2 _ _ HN0r.out rfl ⟨false, 32, addr4 ns⟩ HAL.out)
      by_cases hlt : ns.length < 4
      · have hltp : ns.length < ps.length := by omega
        have hx : ps[ns.length]? = some (ps[ns.length]) := List.getElem?_eq_getElem hltp
        have HX := Lib.hid hx
        obtain ⟨pb, rfl, hcell⟩ := (HP.out.on hbw).cell hx
        generalize ps[ns.length] = x at hcell HX
        have HG := Lib.hid (rDecimal ⟨x.toArray⟩ wr)
        have i1 : (ns.length : Int) < 4 := by omega
        have i0' : (0 : Int) ≤ (ns.length : Int) := by omega
        have i2 : (ns.length : Int) < (ps.length : Int) := by omega
        rw [show (⟨x.toArray⟩ : ByteArray).data.toList = x from rfl] at HG
        clear hx hat hbw h4
        cases hgx : byteN x with
        | none =>
          have HNO : Hid (o = none) := by have := HO4.out; rw [mapO_none byteN hgx (List.mem_of_getElem? HX.out)] at this; exact this
          rcases byteN_none hgx with hd | ⟨z, hd, hz⟩
          · rw [hd] at HG
            clear hgx hd hm
            go_wp2_with (go_at_call 91; refine HG.out.mono ?_; rintro e w2 ⟨rfl, rfl⟩; refine Hid.out ?_)
            refine Lib.hid ?_
            go_wp2_with (first | (refine wpList_load_mid rfl 72 (.tmp 5) rfl w1.heap.size 0 rfl (netL (⟨false, 32, addr4 ns⟩ : NetM)) _ HAT.out.range0 Tryz.underlying72 rfl HS.out ?_) | (refine wpList_store_mid rfl 72 (.tmp 2) (.tmp 34) rfl w.heap.size 0 (netC (⟨false, 32, addr4 ns⟩ : NetM)) rfl rfl HT.out HSC.out (netC_all _) ?_; generalize hwf : World.setCells _ _ _ _ = wf; refine Hid.out ?_) | fail)
            refine Lib.hid ?_
            obtain ⟨hnf, hkf, hzf⟩ := HPUT.out wf hwf
            have HNF := Lib.hid hnf
            have HKF := Lib.hid hkf
            clear hnf hkf hzf hwf
            go_wp2
            exact bodyPost_ret (results_net Tryz.results58 rfl rfl HNF.out HAL.out) rfl ⟨HBF.out.trans (HKF.out.below (Nat.le_refl _) (Nat.lt_of_lt_of_le HL1.out (by have := HBW.out.size; omega))), Or.inl ⟨HNO.out, _, HAL.out, rfl⟩⟩
          · rw [hd] at HG
            have hz5 : (255 : Int) < (z : Int) := by omega
            clear hgx hd hm
            go_wp2_with (go_at_call 91; refine HG.out.mono ?_; rintro e w2 ⟨rfl, rfl⟩; refine Hid.out ?_)
            refine Lib.hid ?_
            go_wp2_with (first | (refine wpList_load_mid rfl 72 (.tmp 5) rfl w1.heap.size 0 rfl (netL (⟨false, 32, addr4 ns⟩ : NetM)) _ HAT.out.range0 Tryz.underlying72 rfl HS.out ?_) | (refine wpList_store_mid rfl 72 (.tmp 2) (.tmp 34) rfl w.heap.size 0 (netC (⟨false, 32, addr4 ns⟩ : NetM)) rfl rfl HT.out HSC.out (netC_all _) ?_; generalize hwf : World.setCells _ _ _ _ = wf; refine Hid.out ?_) | fail)
            refine Lib.hid ?_
            obtain ⟨hnf, hkf, hzf⟩ := HPUT.out wf hwf
            have HNF := Lib.hid hnf
            have HKF := Lib.hid hkf
            clear hnf hkf hzf hwf
            go_wp2
            exact bodyPost_ret (results_net Tryz.results58 rfl rfl HNF.out HAL.out) rfl ⟨HBF.out.trans (HKF.out.below (Nat.le_refl _) (Nat.lt_of_lt_of_le HL1.out (by have := HBW.out.size; omega))), Or.inl ⟨HNO.out, _, HAL.out, rfl⟩⟩
        | some z =>
          obtain ⟨hz5, hd⟩ := byteN_le hgx
          rw [hd] at HG
          have HM2 : Hid (mapO byteN (ps.take (ns ++ [z]).length) = some (ns ++ [z])) := by
            show _ = _
            rw [List.length_append, List.length_singleton, List.take_succ_eq_append_getElem hltp, show ps[ns.length] = x by have := HX.out; rw [List.getElem?_eq_getElem hltp] at this; exact Option.some.inj this]
            exact mapO_snoc byteN x _ hm.out hgx
          have hz6 : ¬ (255 : Int) < (z : Int) := by omega
          obtain ⟨c1, c2⟩ := HAT.out.cellA (k := ns.length) (by rw [HAL.out]; omega)
          have HSET : Hid (NetAt (wr.setCell ⟨w1.heap.size, 2 + ns.length, none⟩ (.int .u8 (z : Int))) w1.heap.size ⟨false, 32, addr4 (ns ++ [z])⟩) := by
            have := HAT.out.setA ns.length (UInt8.ofNat z)
            rw [show B8 (UInt8.ofNat z) = Value.int .u8 (z : Int) by simp [B8]; omega] at this
            show NetAt _ _ _
            rw [← addr4_set (by omega)]
            exact this
          have HBS : Hid (Below w1.heap.size w1 (wr.setCell ⟨w1.heap.size, 2 + ns.length, none⟩ (.int .u8 (z : Int)))) := HBW.out.trans ((KeepX.set w1.heap.size wr (2 + ns.length) _).below (Nat.le_refl _) (heap_lt HAT.out))
          clear hgx hd hm
          go_wp2_with (go_at_call 91; refine HG.out.mono ?_; rintro e w2 ⟨rfl, rfl⟩; refine Hid.out ?_)
          refine Lib.hid ?_
          go_wp2
          go_roundw
          case rel => rw [HR.out]; exact ⟨ns ++ [z], by (simp; try omega), by simp, HSET.out, HBS.out, HM2.out⟩
          case measure => simp [intOf]; omega
      · have HYES : Hid (o = some ⟨false, 32, addr4 ns⟩) := by
          have h1 := hm.out
          rw [List.take_of_length_le (by omega)] at h1
          have := HO4.out
          rw [h1] at this
          exact this
        have i1 : ¬ (ns.length : Int) < 4 := by omega
        clear hm hat hbw h4
        go_wp2_with (first | (refine wpList_load_mid rfl 72 (.tmp 5) rfl w1.heap.size 0 rfl (netL (⟨false, 32, addr4 ns⟩ : NetM)) _ HAT.out.range0 Tryz.underlying72 rfl HS.out ?_) | (refine wpList_store_mid rfl 72 (.tmp 2) (.tmp 40) rfl w.heap.size 0 (netC (⟨false, 32, addr4 ns⟩ : NetM)) rfl rfl HT.out HSC.out (netC_all _) ?_; generalize hwf : World.setCells _ _ _ _ = wf; refine Hid.out ?_) | fail)
        refine Lib.hid ?_
        obtain ⟨hnf, hkf, hzf⟩ := HPUT.out wf hwf
        have HNF := Lib.hid hnf
        have HKF := Lib.hid hkf
        clear hnf hkf hzf hwf
        go_wp2
        exact bodyPost_ret (results_net Tryz.results58 rfl rfl HNF.out HAL.out) rfl ⟨HBF.out.trans (HKF.out.below (Nat.le_refl _) (Nat.lt_of_lt_of_le HL1.out (by have := HBW.out.size; omega))), Or.inr ⟨_, HYES.out, HAL.out, rfl⟩⟩
  · have e1 : ((ps.length : Int) != 4) = true := by rw [bne_iff_ne]; omega
    have HNO : Hid (o = none) := by have := HO.out; rw [if_neg h4] at this; exact this
    have HN0r : Hid (NetAt w2 w.heap.size zeroN) := HN1.out.on HB2.out
    have HBF : Hid (Below w.heap.size w w2) := HB1.out.trans (HB2.out.mono HB1.out.size)
    have HT := Lib.hid (there_of HN0r.out (n := (netC (⟨false, 32, List.replicate 16 0⟩ : NetM)).size) (by decide))
    have HSC := Lib.hid (size25c (n := ⟨false, 32, List.replicate 16 0⟩) rfl)
    have HS := Lib.hid (size25_of (n := ⟨false, 32, List.replicate 16 0⟩) rfl)
    have HPUT := Lib.hid (fun w2 => @net_put _ w2 _ _ HN0r.out rfl ⟨false, 32, List.replicate 16 0⟩ rfl)
    clear h4 HO
    go_wp2_with (first | (refine wpList_load_mid rfl 72 (.tmp 5) rfl w1.heap.size 0 rfl (netL (⟨false, 32, List.replicate 16 0⟩ : NetM)) _ HN2.out.range0 Tryz.underlying72 rfl HS.out ?_) | (refine wpList_store_mid rfl 72 (.tmp 2) (.tmp 15) rfl w.heap.size 0 (netC (⟨false, 32, List.replicate 16 0⟩ : NetM)) rfl rfl HT.out HSC.out (netC_all _) ?_; generalize hwf : World.setCells _ _ _ _ = wf; refine Hid.out ?_) | fail)
    refine Lib.hid ?_
    obtain ⟨hnf, hkf, hzf⟩ := HPUT.out wf hwf
    have HNF := Lib.hid hnf
    have HKF := Lib.hid hkf
    clear hnf hkf hzf hwf
    go_wp2
    exact bodyPost_ret (results_net Tryz.results58 rfl rfl HNF.out rfl) rfl ⟨HBF.out.trans (HKF.out.below (Nat.le_refl _) (Nat.lt_of_lt_of_le HL1.out (by have := HB2.out.size; omega))), Or.inl ⟨HNO.out, _, rfl, rfl⟩⟩
end Go.Proofs.YtnehgbpfgehhiaaGreatDoor.Cidr
/-
  CIDR, the given answers: an address of IPv6: what it is.
-/
namespace Go.Proofs.YtnehgbpfgehhiaaGreatDoor.Cidr
open Go.RowKit Base
/-- Does '::' stand at j? -/
def ccB (l : List UInt8) (j : Nat) : Bool := decide (l.getD j 0 = 58) && decide (l.getD (j + 1) 0 = 58)
/-- Where the first '::' stands. -/
def firstCC (l : List UInt8) : Option Nat := (List.range (l.length - 1)).find? (ccB l)
def atI : Option Nat → Int
  | none => -1
  | some a => (a : Int)
def headS (s : ByteArray) : Option Nat → ByteArray
  | none => s
  | some a => s.extract 0 a
def tailS (s : ByteArray) : Option Nat → ByteArray
  | none => ⟨#[]⟩
  | some a => s.extract (a + 2) s.size
def okG (o : Option Nat) (a b : Nat) : Bool := match o with | none => decide (a = 8) | some _ => decide (a + b ≤ 7)
def allG (A B : List Nat) : List Nat := A ++ (List.replicate (8 - A.length - B.length) 0 ++ B)
def two (g : Nat) : List UInt8 := [UInt8.ofNat (g / 256), UInt8.ofNat (g % 256)]
def sixS (s : ByteArray) : Option NetM :=
  match grpsN (headS s (firstCC s.data.toList)).data.toList, grpsN (tailS s (firstCC s.data.toList)).data.toList with
  | some A, some B => if okG (firstCC s.data.toList) A.length B.length = true then some ⟨true, 128, (allG A B).flatMap two⟩ else none
  | _, _ => none
theorem ccB_at (s : ByteArray) (k : Nat) (h : k + 1 < s.size) : ccB s.data.toList k = (decide (s[k] = 58) && decide (s[k + 1] = 58)) := by
  unfold ccB; rw [str_get s k (by omega), str_get s (k + 1) h]
theorem firstCC_some {s : ByteArray} {k : Nat} (h : k + 1 < s.size) (hno : ∀ j, j < k → ccB s.data.toList j = false) (hk : ccB s.data.toList k = true) : firstCC s.data.toList = some k := by
  unfold firstCC
  rw [List.find?_eq_some_iff_getElem]
  refine ⟨hk, k, by rw [List.length_range, str_len]; omega, by simp, fun j hj => ?_⟩
  simpa using hno j hj
theorem firstCC_none {s : ByteArray} {k : Nat} (h : ¬ k + 1 < s.size) (hno : ∀ j, j < k → ccB s.data.toList j = false) : firstCC s.data.toList = none := by
  unfold firstCC
  rw [List.find?_eq_none]
  intro j hj
  rw [List.mem_range, str_len] at hj
  simpa using hno j (by omega)
theorem firstCC_lt {s : ByteArray} {a : Nat} (h : firstCC s.data.toList = some a) : a + 2 ≤ s.size := by
  unfold firstCC at h
  have := List.mem_of_find?_eq_some h
  rw [List.mem_range, str_len] at this
  omega
theorem grps_small {l : List UInt8} {A : List Nat} (h : grpsN l = some A) : ∀ g ∈ A, g ≤ 65535 := fun g hg => by
  unfold grpsN at h
  split at h
  · cases h; simp at hg
  · obtain ⟨p, _, hp⟩ := mapO_mem grpN h g hg
    exact grpN_small hp
theorem allG_len {A B : List Nat} (h : A.length + B.length ≤ 8) : (allG A B).length = 8 := by unfold allG; simp; omega
theorem allG_small {A B : List Nat} (hA : ∀ g ∈ A, g ≤ 65535) (hB : ∀ g ∈ B, g ≤ 65535) : ∀ g ∈ allG A B, g ≤ 65535 := fun g hg => by
  unfold allG at hg
  rw [List.mem_append, List.mem_append] at hg
  rcases hg with h | h | h
  · exact hA g h
  · rw [List.eq_of_mem_replicate h]; omega
  · exact hB g h
theorem flat_len : ∀ (G : List Nat), (G.flatMap two).length = 2 * G.length
  | [] => rfl
  | g :: r => by rw [List.flatMap_cons, List.length_append, flat_len r]; simp [two]; omega
theorem ok_len {o : Option Nat} {A B : List Nat} (hB : o = none → B = []) (h : okG o A.length B.length = true) : A.length + B.length ≤ 8 := by
  unfold okG at h
  cases o with
  | none => have := of_decide_eq_true h; rw [hB rfl]; simp; omega
  | some a => have := of_decide_eq_true h; omega
/-- The bytes so far: k groups are laid. -/
def part6 (G : List Nat) (k : Nat) : List UInt8 := (G.take k).flatMap two ++ List.replicate (16 - 2 * k) 0
theorem part6_len {G : List Nat} {k : Nat} (h : k ≤ G.length) (hk : k ≤ 8) : (part6 G k).length = 16 := by
  unfold part6; rw [List.length_append, flat_len, List.length_take, List.length_replicate]; omega
theorem part6_step {G : List Nat} {k : Nat} (h : k < G.length) (hk : k < 8) : ((part6 G k).set (2 * k) (UInt8.ofNat (G[k] / 256))).set (2 * k + 1) (UInt8.ofNat (G[k] % 256)) = part6 G (k + 1) := by
  have hl : ((G.take k).flatMap two).length = 2 * k := by rw [flat_len, List.length_take]; omega
  unfold part6
  rw [show 16 - 2 * k = (16 - 2 * (k + 1)) + 1 + 1 by omega, List.replicate_succ, List.replicate_succ, List.take_succ_eq_append_getElem h, List.flatMap_append]
  rw [List.set_append_right _ _ (by omega), hl, Nat.sub_self, List.set_cons_zero, List.set_append_right _ _ (by omega), hl, show 2 * k + 1 - 2 * k = 1 by omega]
  simp [two]
theorem part6_end {G : List Nat} (h : G.length = 8) : part6 G 8 = G.flatMap two := by
  unfold part6; rw [List.take_of_length_le (by omega)]; simp
theorem splice_two {A B : List Nat} (h : A.length + B.length ≤ 8) : splice (splice (List.replicate 8 (I 0)) 0 (A.map I)) (8 - B.length) (B.map I) = (allG A B).map I := by
  unfold splice allG
  simp only [List.take_zero, List.nil_append, Nat.zero_add, List.length_map, List.drop_replicate]
  rw [List.take_append, List.drop_append, List.length_map, List.take_of_length_le (by simp; omega), List.drop_eq_nil_of_le (by simp; omega)]
  simp
  rw [show min (8 - B.length - A.length) (8 - A.length) = 8 - A.length - B.length by omega, show 8 - A.length - (8 - B.length + B.length - A.length) = 0 by omega]
  simp
end Go.Proofs.YtnehgbpfgehhiaaGreatDoor.Cidr
