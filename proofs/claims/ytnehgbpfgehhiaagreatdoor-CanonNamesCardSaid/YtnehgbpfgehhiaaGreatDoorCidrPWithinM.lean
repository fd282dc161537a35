/-
  MERGED by mergefill.py: CidrPWithin, CidrPFour.
-/
import Derived.Test.YtnehgbpfgehhiaaGreatDoorCidrPRight
import Derived.Test.YtnehgbpfgehhiaaGreatDoorCidrPHex
/-
  CIDR, the program: whether a range lies in another one.
-/
namespace Go.Proofs.YtnehgbpfgehhiaaGreatDoor.Cidr
open Go.RowKit Base
/-- Two ranges' boxes stand. -/
structure RS2 (w : World) (n i : NetM) (w' : World) : Prop where
  bel : Below w.heap.size w w'
  at1 : NetAt w' w.heap.size n
  at2 : NetAt w' (w.heap.size + 1) i
  bits1 : w'.cell? ⟨w.heap.size, 1, none⟩ = some (.int .i64 n.bits)
  six1 : w'.cell? ⟨w.heap.size, 0, none⟩ = some (.bool n.six)
  bits2 : w'.cell? ⟨w.heap.size + 1, 1, none⟩ = some (.int .i64 i.bits)
  six2 : w'.cell? ⟨w.heap.size + 1, 0, none⟩ = some (.bool i.six)
  r1 : w'.rangeAt w.heap.size 0 (netL n)
  r2 : w'.rangeAt (w.heap.size + 1) 0 (netL i)
  g1 : w'.rangeAt w.heap.size 2 (n.a.map B8)
  g2 : w'.rangeAt (w.heap.size + 1) 2 (i.a.map B8)
theorem RS2.mk' {w w' : World} {n i : NetM} (h : Below w.heap.size w w') (h1 : NetAt w' w.heap.size n) (h2 : NetAt w' (w.heap.size + 1) i) : RS2 w n i w' := ⟨h, h1, h2, h1.bits, h1.six, h2.bits, h2.six, h1.range0, h2.range0, h1.range, h2.range⟩
theorem RS2.keep {w w1 w2 : World} {n i : NetM} (h : RS2 w n i w1) (hb : Below w1.heap.size w1 w2) : RS2 w n i w2 := RS2.mk' (h.bel.trans (hb.mono h.bel.size)) (h.at1.on hb) (h.at2.on hb)
end Go.Proofs.YtnehgbpfgehhiaaGreatDoor.Cidr
/-
  CIDR, the program: four numbers.
-/
namespace Go.Proofs.YtnehgbpfgehhiaaGreatDoor.Cidr
open Go.RowKit Base
abbrev zA : List UInt8 := List.replicate 16 0
theorem cells_all (c : List UInt8) : ((c.map B8).toArray).all (·.oneCell') = true := all_oneCell_toArray (cs := c.map B8) (fun v hv => by simp only [List.mem_map] at hv; obtain ⟨x, _, rfl⟩ := hv; rfl)
theorem zA_new (w : World) : AddrAt (w.alloc (.cells (List.replicate 16 (Value.int .u8 0)).toArray 70)) w.heap.size zA := AddrAt.new w zA
theorem AddrAt.there {w : World} {b : Nat} {a c : List UInt8} (h : AddrAt w b a) (ha : a.length = 16) (hc : c.length = 16) : w.there b 0 (c.map B8).toArray.size := there_of h (by simp [ha, hc])
/-- An address is stored into a box of the call's own. -/
theorem AddrAt.put {w w2 : World} {b : Nat} {a c : List UInt8} (h : AddrAt w b a) (ha : a.length = 16) (hc : c.length = 16) (hw : w.setCells b 0 (c.map B8).toArray.toList = w2) : AddrAt w2 b c ∧ KeepX b w w2 ∧ w2.heap.size = w.heap.size := addr_put h (by simp [ha]) hc hw
theorem pieces_len (c : UInt8) : ∀ (l : List UInt8), l.length + 1 = ((splitB c l).map (fun p => p.length + 1)).sum
  | [] => by simp [splitB]
  | x :: r => by
    have ih := pieces_len c r
    rw [splitB_eq]
    split
    · rw [List.map_cons, List.sum_cons, ← ih]; simp; omega
    · split
      · rename_i hq; exact absurd hq (splitB_ne c r)
      · rename_i h t hq
        rw [hq, List.map_cons, List.sum_cons] at ih
        rw [List.map_cons, List.sum_cons]; simp at ih ⊢; omega
theorem sum_le {α : Type} (f : α → Nat) (m : Nat) : ∀ (l : List α), (∀ x ∈ l, f x ≤ m) → (l.map f).sum ≤ m * l.length
  | [], _ => by simp
  | x :: r, h => by
    have h1 := sum_le f m r fun y hy => h y (List.mem_cons_of_mem _ hy)
    have h2 := h x List.mem_cons_self
    rw [List.map_cons, List.sum_cons, List.length_cons, Nat.mul_succ]; omega
theorem mapO_all {α β : Type} {f : α → Option β} : ∀ {l : List α} {r : List β}, mapO f l = some r → r.length = l.length ∧ ∀ x ∈ l, ∃ y, f x = some y
  | [], r, h => by simp [mapO] at h; subst h; simp
  | x :: q, r, h => by
    unfold mapO at h
    cases hx : f x with
    | none => rw [hx] at h; cases h
    | some a =>
      rw [hx] at h
      cases hq : mapO f q with
      | none => rw [hq] at h; cases h
      | some l =>
        rw [hq] at h
        cases h
        obtain ⟨h1, h2⟩ := mapO_all hq
        refine ⟨by simp [h1], fun y hy => ?_⟩
        rcases List.mem_cons.1 hy with rfl | hy
        · exact ⟨a, hx⟩
        · exact h2 y hy
theorem decN_len {p : List UInt8} {n : Nat} (h : decN p = some n) : p.length ≤ 3 := by
  unfold decN at h
  split at h
  · rename_i hh; exact hh.2.1
  · cases h
theorem fourN_len {l : List UInt8} {n : NetM} (h : fourN l = some n) : l.length ≤ 39 := by
  unfold fourN fourB at h
  split at h
  · rename_i h4
    cases hm : mapO byteN (splitB 46 l) with
    | none => rw [hm] at h; cases h
    | some ns =>
      obtain ⟨_, h2⟩ := mapO_all hm
      have h3 := pieces_len 46 l
      have h5 := sum_le (fun p : List UInt8 => p.length + 1) 4 (splitB 46 l) fun p hp => by
        obtain ⟨y, hy⟩ := h2 p hp
        have := decN_len (byteN_le hy).2
        show p.length + 1 ≤ 4
        omega
      rw [h4] at h5; omega
  · cases h
theorem fourN_big {l : List UInt8} (h : 39 < l.length) : fourN l = none := by
  cases hf : fourN l with
  | none => rfl
  | some n => have := fourN_len hf; omega
def AEnd (o : Option NetM) (w : World) (e : Ending) (w' : World) : Prop :=
  Below w.heap.size w w' ∧ ((o = none ∧ e = .returned (.tuple #[.agg (zA.map B8).toArray, .bool false])) ∨ ∃ n : NetM, o = some n ∧ n.a.length = 16 ∧ e = .returned (.tuple #[.agg (n.a.map B8).toArray, .bool true]))
set_option maxHeartbeats 4000000 in
set_option maxRecDepth 100000 in
theorem pFour (s : ByteArray) (w : World) (he : Env w) : Calls Tryz.prog 134 #[.string s] w (AEnd (fourN s.data.toList) w) := by
  obtain ⟨o, ho⟩ : ∃ o, o = fourN s.data.toList := ⟨_, rfl⟩
  rw [← ho]
  have H0 := Lib.hid (zA_new w)
  have HB0 := Lib.hid (Below.alloc1 w (.cells (List.replicate 16 (Value.int .u8 0)).toArray 70))
  have HSC := Lib.hid (size23a (a := zA) rfl)
  have HALL := Lib.hid (cells_all zA)
  have HE := Lib.hid he
  clear he
  by_cases hs : s.size ≤ 39
  · have e39 : ¬ (39 : Int) < (s.size : Int) := by omega
    unfold fourN fourB at ho
    have HSP := Lib.hid (fun w he => pSplit s 46 w (by omega) he)
    obtain ⟨ps, hps⟩ : ∃ ps, ps = splitB 46 s.data.toList := ⟨_, rfl⟩
    rw [← hps] at ho HSP
    have HO := Lib.hid ho
    clear ho hps
    have HE0 := Lib.hid (HE.out.on HB0.out)
    go_enter Tryz.func134, Tryz.ntmps134
    go_wp2_with (first | (go_at_call 37; refine (HSP.out _ HE0.out).mono ?_; rintro e w1 ⟨v1, rfl, o1, b1⟩; refine Hid.out ?_) | fail)
    refine Lib.hid ?_
    obtain ⟨pa, pc, rfl, _⟩ := o1.form
    have HP := Lib.hid o1
    have HB1 : Hid (Below w.heap.size w w1) := HB0.out.trans (b1.mono HB0.out.size)
    have HN1 : Hid (AddrAt w1 w.heap.size zA) := H0.out.on b1
    have HL1 : Hid (w.heap.size < w1.heap.size) := heap_lt HN1.out
    have HE1 : Hid (Env w1) := HE0.out.on b1
    clear o1 b1
    by_cases h4 : ps.length = 4
    · have e1 : ((ps.length : Int) != 4) = false := by rw [h4]; rfl
      have HO4 : Hid (o = (mapO byteN ps).map fun ns => ⟨false, 32, addr4 ns⟩) := by have := HO.out; rw [if_pos h4] at this; exact this
      have HP4 := Lib.hid h4
      have HN2 := Lib.hid (zA_new w1)
      have HB2 := Lib.hid (Below.alloc1 w1 (.cells (List.replicate 16 (Value.int .u8 0)).toArray 70))
      clear HO h4
      obtain ⟨R, hR⟩ : ∃ R : Value → World → Prop, R = fun i wr => ∃ ns : List Nat, ns.length ≤ 4 ∧ i = .int .i64 (ns.length : Int) ∧ AddrAt wr w1.heap.size (addr4 ns) ∧ Below w1.heap.size w1 wr ∧ Hid (mapO byteN (ps.take ns.length) = some ns) := ⟨_, rfl⟩
      have HR := Lib.hid hR
      clear hR
      have e5 : ¬ (ps.length : Int) < 0 := by omega
      go_wp2
      go_loopw [22] (fun i wr => R i wr) (fun i _ => 4 - (intOf i).toNat)
      case atStart => rw [HR.out]; exact ⟨[], by simp, rfl, HN2.out, HB2.out, rfl⟩
      case round =>
        rw [HR.out] at hrel
        obtain ⟨ns, hk, rfl, hat, hbw, hm⟩ := hrel
        have h4 := HP4.out
        have HAT := Lib.hid hat
        have HBW := Lib.hid hbw
        have HAL := Lib.hid (addr4_len (ns := ns) (by omega))
        have HN0r : Hid (AddrAt wr w.heap.size zA) := HN1.out.on hbw
        have HBF : Hid (Below w.heap.size w wr) := HB1.out.trans (hbw.mono HB1.out.size)
        by_cases hlt : ns.length < 4
        · have hltp : ns.length < ps.length := by omega
          have hx : ps[ns.length]? = some (ps[ns.length]) := List.getElem?_eq_getElem hltp
          have HX := Lib.hid hx
          obtain ⟨pb, rfl, hcell⟩ := (HP.out.on hbw).cell hx
          generalize ps[ns.length] = x at hcell HX
          have HG := Lib.hid (pNumber ⟨x.toArray⟩ wr (HE1.out.on hbw))
          have i1 : (ns.length : Int) < (ps.length : Int) := by omega
          have i0' : (0 : Int) ≤ (ns.length : Int) := by omega
          rw [show (⟨x.toArray⟩ : ByteArray).data.toList = x from rfl] at HG
          clear hx hat hbw h4
          cases hgx : byteN x with
          | none =>
            have HNO : Hid (o = none) := by have := HO4.out; rw [mapO_none byteN hgx (List.mem_of_getElem? HX.out)] at this; exact this
            rcases byteN_none hgx with hd | ⟨z, hd, hz⟩
            · rw [hd] at HG
              clear hgx hd hm
              go_wp2_with (first | (go_at_call 178; refine HG.out.mono ?_; rintro e w2 ⟨rfl, b2⟩; refine Hid.out ?_) | fail)
              refine Lib.hid ?_
              have HN2r := Lib.hid (HN0r.out.on b2)
              have HB2r := Lib.hid (HBF.out.trans (b2.mono HBF.out.size))
              have HTt := Lib.hid (HN2r.out.there (c := zA) rfl rfl)
              clear b2
              go_wp2_with (first | (refine wpList_store_mid rfl 70 (.tmp 2) (.tmp 38) rfl w.heap.size 0 (zA.map B8).toArray rfl rfl HTt.out HSC.out HALL.out ?_; generalize hwf : World.setCells _ _ _ _ = wf; refine Hid.out ?_) | fail)
              refine Lib.hid ?_
              obtain ⟨hnf, hkf, hzf⟩ := AddrAt.put HN2r.out rfl (c := zA) rfl hwf
              have HNF := Lib.hid hnf
              have HKF := Lib.hid hkf
              clear hnf hkf hzf hwf
              go_wp2
              exact bodyPost_ret (results_addr2 Tryz.results134 rfl rfl HNF.out rfl) rfl ⟨HB2r.out.trans (HKF.out.below (Nat.le_refl _) (heap_lt HN2r.out)), Or.inl ⟨HNO.out, rfl⟩⟩
            · rw [hd] at HG
              have hz5 : (255 : Int) < (z : Int) := by omega
              clear hgx hd hm
              go_wp2_with (first | (go_at_call 178; refine HG.out.mono ?_; rintro e w2 ⟨rfl, b2⟩; refine Hid.out ?_) | fail)
              refine Lib.hid ?_
              have HN2r := Lib.hid (HN0r.out.on b2)
              have HB2r := Lib.hid (HBF.out.trans (b2.mono HBF.out.size))
              have HTt := Lib.hid (HN2r.out.there (c := zA) rfl rfl)
              clear b2
              go_wp2_with (first | (refine wpList_store_mid rfl 70 (.tmp 2) (.tmp 38) rfl w.heap.size 0 (zA.map B8).toArray rfl rfl HTt.out HSC.out HALL.out ?_; generalize hwf : World.setCells _ _ _ _ = wf; refine Hid.out ?_) | fail)
              refine Lib.hid ?_
              obtain ⟨hnf, hkf, hzf⟩ := AddrAt.put HN2r.out rfl (c := zA) rfl hwf
              have HNF := Lib.hid hnf
              have HKF := Lib.hid hkf
              clear hnf hkf hzf hwf
              go_wp2
              exact bodyPost_ret (results_addr2 Tryz.results134 rfl rfl HNF.out rfl) rfl ⟨HB2r.out.trans (HKF.out.below (Nat.le_refl _) (heap_lt HN2r.out)), Or.inl ⟨HNO.out, rfl⟩⟩
          | some z =>
            obtain ⟨hz5, hd⟩ := byteN_le hgx
            rw [hd] at HG
            have HM2 : Hid (mapO byteN (ps.take (ns ++ [z]).length) = some (ns ++ [z])) := by
              show _ = _
              rw [List.length_append, List.length_singleton, List.take_succ_eq_append_getElem hltp, show ps[ns.length] = x by have := HX.out; rw [List.getElem?_eq_getElem hltp] at this; exact Option.some.inj this]
              exact mapO_snoc byteN x _ hm.out hgx
            have hz6 : ¬ (255 : Int) < (z : Int) := by omega
            have hz7 : IntKind.u8.wrap (z : Int) = (z : Int) := by rw [IntKind.wrap_u8]; omega
            have HSET : Hid (∀ w2, Below wr.heap.size wr w2 → (w2.cell? ⟨w1.heap.size, ns.length, none⟩ = some (.int .u8 (((addr4 ns).getD ns.length 0).toNat : Int)) ∧ w2.frozen? ⟨w1.heap.size, ns.length, none⟩ = false) ∧ R (.int .i64 ((ns.length : Int) + 1)) (w2.setCell ⟨w1.heap.size, ns.length, none⟩ (.int .u8 (z : Int)))) := fun w2 hb2 => by
              have hat2 := HAT.out.on hb2
              refine ⟨hat2.cell (k := ns.length) (by rw [HAL.out]; omega), ?_⟩
              rw [HR.out]
              have := hat2.set ns.length (UInt8.ofNat z)
              rw [show B8 (UInt8.ofNat z) = Value.int .u8 (z : Int) by simp [B8]; omega] at this
              refine ⟨ns ++ [z], by (simp; omega), by simp, ?_, ?_, HM2.out⟩
              · rw [← addr4_set (by omega)]; exact this
              · exact (HBW.out.trans (hb2.mono HBW.out.size)).trans ((KeepX.set w1.heap.size w2 ns.length _).below (Nat.le_refl _) (heap_lt hat2))
            clear hgx hd hm
            go_wp2_with (first | (go_at_call 178; refine HG.out.mono ?_; rintro e w2 ⟨rfl, b2⟩; refine Hid.out ?_) | fail)
            refine Lib.hid ?_
            obtain ⟨⟨c1, c2⟩, hfin⟩ := HSET.out w2 b2
            have HFIN := Lib.hid hfin
            clear hfin b2
            go_wp2
            go_roundw
            case rel => exact HFIN.out
            case measure => simp [intOf]; omega
        · have HYES : Hid (o = some ⟨false, 32, addr4 ns⟩) := by
            have h1 := hm.out
            rw [List.take_of_length_le (by omega)] at h1
            have := HO4.out
            rw [h1] at this
            exact this
          have i1 : ¬ (ns.length : Int) < (ps.length : Int) := by omega
          have HTt := Lib.hid (HN0r.out.there (c := addr4 ns) rfl HAL.out)
          have HSZ := Lib.hid (size23_of HAL.out)
          have HSC2 := Lib.hid (size23a HAL.out)
          have HAL2 := Lib.hid (cells_all (addr4 ns))
          have HPUT := Lib.hid (fun w2 => @AddrAt.put _ w2 _ _ (addr4 ns) HN0r.out rfl HAL.out)
          clear hm hat hbw h4
          generalize addr4 ns = c at *
          go_wp2_with (first | (refine wpList_load_mid rfl 70 (.tmp 5) rfl w1.heap.size 0 rfl (c.map B8) _ HAT.out.range Tryz.underlying70 rfl HSZ.out ?_) | (refine wpList_store_mid rfl 70 (.tmp 2) (.tmp 44) rfl w.heap.size 0 (c.map B8).toArray rfl rfl HTt.out HSC2.out HAL2.out ?_; generalize hwf : World.setCells _ _ _ _ = wf; refine Hid.out ?_) | fail)
          refine Lib.hid ?_
          obtain ⟨hnf, hkf, hzf⟩ := HPUT.out wf hwf
          have HNF := Lib.hid hnf
          have HKF := Lib.hid hkf
          clear hnf hkf hzf hwf
          go_wp2
          exact bodyPost_ret (results_addr2 Tryz.results134 rfl rfl HNF.out HAL.out) rfl ⟨HBF.out.trans (HKF.out.below (Nat.le_refl _) (heap_lt HN0r.out)), Or.inr ⟨_, HYES.out, HAL.out, rfl⟩⟩
    · have e1 : ((ps.length : Int) != 4) = true := by rw [bne_iff_ne]; omega
      have HNO : Hid (o = none) := by have := HO.out; rw [if_neg h4] at this; exact this
      have HTt := Lib.hid (HN1.out.there (c := zA) rfl rfl)
      clear HO h4
      go_wp2_with (first | (refine wpList_store_mid rfl 70 (.tmp 2) (.tmp 19) rfl w.heap.size 0 (zA.map B8).toArray rfl rfl HTt.out HSC.out HALL.out ?_; generalize hwf : World.setCells _ _ _ _ = wf; refine Hid.out ?_) | fail)
      refine Lib.hid ?_
      obtain ⟨hnf, hkf, hzf⟩ := AddrAt.put HN1.out rfl (c := zA) rfl hwf
      have HNF := Lib.hid hnf
      have HKF := Lib.hid hkf
      clear hnf hkf hzf hwf
      go_wp2
      exact bodyPost_ret (results_addr2 Tryz.results134 rfl rfl HNF.out rfl) rfl ⟨HB1.out.trans (HKF.out.below (Nat.le_refl _) HL1.out), Or.inl ⟨HNO.out, rfl⟩⟩
  · have e39 : (39 : Int) < (s.size : Int) := by omega
    have HNO : Hid (o = none) := ho.trans (fourN_big (by rw [str_len]; omega))
    have HTt := Lib.hid (H0.out.there (c := zA) rfl rfl)
    clear ho
    go_enter Tryz.func134, Tryz.ntmps134
    go_wp2_with (first | (refine wpList_store_mid rfl 70 (.tmp 2) (.tmp 13) rfl w.heap.size 0 (zA.map B8).toArray rfl rfl HTt.out HSC.out HALL.out ?_; generalize hwf : World.setCells _ _ _ _ = wf; refine Hid.out ?_) | fail)
    refine Lib.hid ?_
    obtain ⟨hnf, hkf, hzf⟩ := AddrAt.put H0.out rfl (c := zA) rfl hwf
    have HNF := Lib.hid hnf
    have HKF := Lib.hid hkf
    clear hnf hkf hzf hwf
    go_wp2
    exact bodyPost_ret (results_addr2 Tryz.results134 rfl rfl HNF.out rfl) rfl ⟨HB0.out.trans (HKF.out.below (Nat.le_refl _) (heap_lt H0.out)), Or.inl ⟨HNO.out, rfl⟩⟩
end Go.Proofs.YtnehgbpfgehhiaaGreatDoor.Cidr
