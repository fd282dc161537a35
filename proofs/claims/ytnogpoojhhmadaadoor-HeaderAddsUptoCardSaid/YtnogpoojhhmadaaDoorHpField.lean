/-
  HEADER, the program: a field.
-/
import Derived.Test.YtnogpoojhhmadaaDoorHpEnds2
import Derived.Test.YtnogpoojhhmadaaDoorHdrRow
import Derived.BigRegion
import Derived.Deep.CutBlock
import Derived.Deep.DeepCutAuto
namespace Go.Proofs.YtnogpoojhhmadaaDoor.Header
open Go.RowKit Base
def FieldEnd (f : Fld) (w : World) (e : Ending) (w' : World) : Prop := e = .returned (.agg (cells4 f).toArray) ∧ Below w.heap.size w w'
abbrev fld0 : Obj := .cells #[.string ⟨#[]⟩, .string ⟨#[]⟩, .int .i64 0, .int .i64 0] 30
theorem set4new {w : World} {H : Nat} (hh : w.heap[H]? = some fld0) (v0 v1 v2 v3 : Value) : ((((w.setCell ⟨H, 0, none⟩ v0).setCell ⟨H, 1, none⟩ v1).setCell ⟨H, 2, none⟩ v2).setCell ⟨H, 3, none⟩ v3).heap[H]? = some (.cells #[v0, v1, v2, v3] 30 (0, 0)) := by
  have h0 := heap_setCell_any w H 0 _ _ _ v0 hh
  have h1 := heap_setCell_any _ H 1 _ _ _ v1 h0
  have h2 := heap_setCell_any _ H 2 _ _ _ v2 h1
  have h3 := heap_setCell_any _ H 3 _ _ _ v3 h2
  rw [h3]
  rfl
set_option maxHeartbeats 8000000 in
set_option maxRecDepth 100000 in
theorem pField1 (b o c : Nat) (l : List UInt8) (a z : Nat) (w : World) (hr : Reads w (.slice (some ⟨b, o, none⟩) l.length c) l) (hl : l.length ≤ 4000000000) (hcc : l.length ≤ c) (hz : z ≤ l.length) (hk : 0 < nsz (l.drop a)) (hak : a + nsz (l.drop a) + 1 ≤ z) (hlt : ¬ c = a + nsz (l.drop a) + 1) :
    Calls Tryd.prog 26 #[.slice (some ⟨b, o, none⟩) l.length c, .int .i64 (a : Int), .int .i64 (z : Int)] w (FieldEnd (fldP l a z) w) := by
  obtain ⟨k, hkk⟩ : ∃ k, k = nsz (l.drop a) := ⟨_, rfl⟩
  rw [← hkk] at hk hak hlt
  obtain ⟨w2, hw2⟩ : ∃ w2, w2 = (w.alloc fld0).alloc crlfO := ⟨_, rfl⟩
  have hsz : (w.alloc fld0).heap.size = w.heap.size + 1 := by simp
  have hb1 := Below.alloc1 w fld0
  have hb2 := Below.alloc1 (w.alloc fld0) crlfO
  rw [hsz] at hb2
  rw [← hw2] at hb2
  have hcv := conv_crlf (w.alloc fld0)
  have hcr := crlf_reads (w.alloc fld0)
  rw [hsz, ← hw2] at hcr
  rw [hsz] at hcv
  have hbb : Below w.heap.size w w2 := hb1.trans (hb2.mono (Nat.le_succ _))
  have hr2 := hr.on hbb
  have HN : Hid (Calls Tryd.prog 40 #[.slice (some ⟨b, o + a, none⟩) (l.length - a) (c - a)] (w.alloc fld0) fun e w' => e = .returned (.int .i64 (k : Int)) ∧ (w.alloc fld0) = w') := by
    have := pNsz (some ⟨b, o + a, none⟩) (l.length - a) (c - a) (l.drop a) (w.alloc fld0) (reads_from (hr.on hb1) hcc (by omega)) (by rw [List.length_drop]) (by rw [List.length_drop]; omega)
    rw [← hkk] at this
    exact this
  have hX : ((l.take z).drop (a + k + 1)).length = z - (a + k + 1) := by rw [List.length_drop, List.length_take]; omega
  have hpx := Reads.part (at_ := a + k + 1) (e := z) hr2 hak hz
  rw [if_neg (by omega)] at hpx
  have hpx : Reads w2 (.slice (some ⟨b, o + (a + k + 1), none⟩) (z - (a + k + 1)) (c - (a + k + 1))) ((l.take z).drop (a + k + 1)) := by simpa [Addr.add_lit] using hpx
  obtain ⟨t, ht⟩ : ∃ t, t = trimCR ((l.take z).drop (a + k + 1)) := ⟨_, rfl⟩
  have HT : Hid (Calls Tryd.prog 43 #[.slice (some ⟨b, o + (a + k + 1), none⟩) (z - (a + k + 1)) (c - (a + k + 1)), .slice (some ⟨w.heap.size + 1, 0, none⟩) 2 2] w2 fun e w' => e = .returned (.slice (some ⟨b, o + (a + k + 1), none⟩) t.length (c - (a + k + 1))) ∧ w2 = w') := by
    have := pTrimS hpx hcr (by rw [hX]; omega)
    rw [show Lib.trimSuffix ((l.take z).drop (a + k + 1)) [13, 10] = t from ht.symm] at this
    exact this
  have htl := trim_len ((l.take z).drop (a + k + 1))
  rw [← ht] at htl
  have hr3 : Reads w2 (.slice (some ⟨b, o + (a + k + 1), none⟩) t.length (c - (a + k + 1))) t := by
    have := Reads.take hpx (k := t.length) htl.1
    rw [← htl.2] at this
    exact this
  have hcv2 := conv_reads hr3.drew
  have hpn := Reads.part (at_ := a) (e := a + k) hr2 (by omega) (by omega)
  rw [if_neg (by omega)] at hpn
  have hpn : Reads w2 (.slice (some ⟨b, o + a, none⟩) (a + k - a) (c - a)) ((l.take (a + k)).drop a) := by simpa [Addr.add_lit] using hpn
  rw [show a + k - a = k by omega] at hpn
  have hcv3 := conv_reads hpn.drew
  have HFL : Hid (fldP l a z = ⟨(l.take (a + k)).drop a, t, a, z⟩) := by show _ = _; unfold fldP; rw [← hkk, ht]
  have htz : t.length ≤ z := by have := htl.1; omega
  have HBB := Lib.hid hbb
  have i0 : (0 : Int) ≤ (a : Int) := by omega
  have i1 : (a : Int) ≤ (l.length : Int) := by omega
  have i2 : (a : Int) < (l.length : Int) := by omega
  have i3 : (0 : Int) ≤ (a : Int) + (k : Int) + 1 := by omega
  have i4 : (a : Int) + (k : Int) + 1 ≤ (z : Int) := by omega
  have i5 : (z : Int) ≤ (l.length : Int) := by omega
  have i6 : (a : Int) ≤ (a : Int) + (k : Int) := by omega
  have i7 : (a : Int) + (k : Int) ≤ (l.length : Int) := by omega
  have j10 : ((a : Int) + (k : Int) + 1).toNat = a + k + 1 := by omega
  have j11 : ((a : Int) + (k : Int)).toNat = a + k := by omega
  have HH0 : Hid (w2.heap[w.heap.size]? = some fld0) := (hb2.block w.heap.size (by omega)).trans (MapKept.heap_alloc w fld0).1
  have HW2 := Lib.hid hw2
  clear hr hr2 hpx hr3 hpn hcr htl ht hb1 hb2 hbb hkk hX hw2 hsz
  go_enter Tryd.func26, Tryd.ntmps26
  go_wp2_with (first | (go_at_call 40; refine HN.out.mono ?_; rintro e w' ⟨rfl, rfl⟩; refine Hid.out ?_) | fail)
  refine Lib.hid ?_
  go_wp2_with (first | (go_at_call 43; refine (HW2.out ▸ HT.out).mono ?_; rintro e w' ⟨rfl, rfl⟩; refine Hid.out ?_) | fail)
  refine Lib.hid ?_
  rw [← HW2.out]
  have hh := HH0.out
  have c0 : w2.cell? ⟨w.heap.size, 0, none⟩ = some (.string ⟨#[]⟩) := by simp [World.cell?, hh]
  have c1 : w2.cell? ⟨w.heap.size, 1, none⟩ = some (.string ⟨#[]⟩) := by simp [World.cell?, hh]
  have c2 : w2.cell? ⟨w.heap.size, 2, none⟩ = some (.int .i64 0) := by simp [World.cell?, hh]
  have c3 : w2.cell? ⟨w.heap.size, 3, none⟩ = some (.int .i64 0) := by simp [World.cell?, hh]
  have z0 : w2.frozen? ⟨w.heap.size, 0, none⟩ = false := by simp [World.frozen?, hh]
  have z1 : w2.frozen? ⟨w.heap.size, 1, none⟩ = false := by simp [World.frozen?, hh]
  have z2 : w2.frozen? ⟨w.heap.size, 2, none⟩ = false := by simp [World.frozen?, hh]
  have z3 : w2.frozen? ⟨w.heap.size, 3, none⟩ = false := by simp [World.frozen?, hh]
  have hh2 := Lib.hid hh
  clear hh hcv HN HT HW2
  go_upto_region 3 with fail
  go_region
  go_wp2
  have hfin := set4new hh2.out (.string ⟨((l.take (a + k)).drop a).toArray⟩) (.string ⟨t.toArray⟩) (.int .i64 (a : Int)) (.int .i64 (z : Int))
  have hbel : Below w.heap.size w ((((w2.setCell ⟨w.heap.size, 0, none⟩ (.string ⟨((l.take (a + k)).drop a).toArray⟩)).setCell ⟨w.heap.size, 1, none⟩ (.string ⟨t.toArray⟩)).setCell ⟨w.heap.size, 2, none⟩ (.int .i64 (a : Int))).setCell ⟨w.heap.size, 3, none⟩ (.int .i64 (z : Int))) :=
    (((HBB.out.setCell (p := ⟨w.heap.size, 0, none⟩) (Nat.le_refl _) _).setCell (p := ⟨w.heap.size, 1, none⟩) (Nat.le_refl _) _).setCell (p := ⟨w.heap.size, 2, none⟩) (Nat.le_refl _) _).setCell (p := ⟨w.heap.size, 3, none⟩) (Nat.le_refl _) _
  generalize ((((w2.setCell ⟨w.heap.size, 0, none⟩ (.string ⟨((l.take (a + k)).drop a).toArray⟩)).setCell ⟨w.heap.size, 1, none⟩ (.string ⟨t.toArray⟩)).setCell ⟨w.heap.size, 2, none⟩ (.int .i64 (a : Int))).setCell ⟨w.heap.size, 3, none⟩ (.int .i64 (z : Int))) = wz at hfin hbel ⊢
  have y0 : wz.drew.cell? ⟨w.heap.size, 0, none⟩ = some (.string ⟨((l.take (a + k)).drop a).toArray⟩) := by show wz.cell? _ = _; simp [World.cell?, hfin]
  have y1 : wz.drew.cell? ⟨w.heap.size, 1, none⟩ = some (.string ⟨t.toArray⟩) := by show wz.cell? _ = _; simp [World.cell?, hfin]
  have y2 : wz.drew.cell? ⟨w.heap.size, 2, none⟩ = some (.int .i64 (a : Int)) := by show wz.cell? _ = _; simp [World.cell?, hfin]
  have y3 : wz.drew.cell? ⟨w.heap.size, 3, none⟩ = some (.int .i64 (z : Int)) := by show wz.cell? _ = _; simp [World.cell?, hfin]
  exact bodyPost_ret (v := .agg #[.string ⟨((l.take (a + k)).drop a).toArray⟩, .string ⟨t.toArray⟩, .int .i64 (a : Int), .int .i64 (z : Int)]) (by simp [results, Tryd.results26, go_sem, y0, y1, y2, y3]) rfl ⟨by rw [HFL.out]; rfl, hbel.drew⟩
set_option maxHeartbeats 8000000 in
set_option maxRecDepth 100000 in
theorem pField0 (b o c : Nat) (l : List UInt8) (a z : Nat) (w : World) (hr : Reads w (.slice (some ⟨b, o, none⟩) l.length c) l) (hl : l.length ≤ 4000000000) (hcc : l.length ≤ c) (hz : z ≤ l.length) (hk : 0 < nsz (l.drop a)) (hak : a + nsz (l.drop a) + 1 ≤ z) (hlt : c = a + nsz (l.drop a) + 1) :
    Calls Tryd.prog 26 #[.slice (some ⟨b, o, none⟩) l.length c, .int .i64 (a : Int), .int .i64 (z : Int)] w (FieldEnd (fldP l a z) w) := by
  obtain ⟨k, hkk⟩ : ∃ k, k = nsz (l.drop a) := ⟨_, rfl⟩
  rw [← hkk] at hk hak hlt
  obtain ⟨w2, hw2⟩ : ∃ w2, w2 = (w.alloc fld0).alloc crlfO := ⟨_, rfl⟩
  have hsz : (w.alloc fld0).heap.size = w.heap.size + 1 := by simp
  have hb1 := Below.alloc1 w fld0
  have hb2 := Below.alloc1 (w.alloc fld0) crlfO
  rw [hsz] at hb2
  rw [← hw2] at hb2
  have hcv := conv_crlf (w.alloc fld0)
  have hcr := crlf_reads (w.alloc fld0)
  rw [hsz, ← hw2] at hcr
  rw [hsz] at hcv
  have hbb : Below w.heap.size w w2 := hb1.trans (hb2.mono (Nat.le_succ _))
  have hr2 := hr.on hbb
  have HN : Hid (Calls Tryd.prog 40 #[.slice (some ⟨b, o + a, none⟩) (l.length - a) (c - a)] (w.alloc fld0) fun e w' => e = .returned (.int .i64 (k : Int)) ∧ (w.alloc fld0) = w') := by
    have := pNsz (some ⟨b, o + a, none⟩) (l.length - a) (c - a) (l.drop a) (w.alloc fld0) (reads_from (hr.on hb1) hcc (by omega)) (by rw [List.length_drop]) (by rw [List.length_drop]; omega)
    rw [← hkk] at this
    exact this
  have hX : ((l.take z).drop (a + k + 1)).length = z - (a + k + 1) := by rw [List.length_drop, List.length_take]; omega
  have hpx := Reads.part (at_ := a + k + 1) (e := z) hr2 hak hz
  rw [if_pos (by omega)] at hpx
  have hpx : Reads w2 (.slice (some ⟨b, o, none⟩) (z - (a + k + 1)) (c - (a + k + 1))) ((l.take z).drop (a + k + 1)) := hpx
  obtain ⟨t, ht⟩ : ∃ t, t = trimCR ((l.take z).drop (a + k + 1)) := ⟨_, rfl⟩
  have HT : Hid (Calls Tryd.prog 43 #[.slice (some ⟨b, o, none⟩) (z - (a + k + 1)) (c - (a + k + 1)), .slice (some ⟨w.heap.size + 1, 0, none⟩) 2 2] w2 fun e w' => e = .returned (.slice (some ⟨b, o, none⟩) t.length (c - (a + k + 1))) ∧ w2 = w') := by
    have := pTrimS hpx hcr (by rw [hX]; omega)
    rw [show Lib.trimSuffix ((l.take z).drop (a + k + 1)) [13, 10] = t from ht.symm] at this
    exact this
  have htl := trim_len ((l.take z).drop (a + k + 1))
  rw [← ht] at htl
  have hr3 : Reads w2 (.slice (some ⟨b, o, none⟩) t.length (c - (a + k + 1))) t := by
    have := Reads.take hpx (k := t.length) htl.1
    rw [← htl.2] at this
    exact this
  have hcv2 := conv_reads hr3.drew
  have hpn := Reads.part (at_ := a) (e := a + k) hr2 (by omega) (by omega)
  rw [if_neg (by omega)] at hpn
  have hpn : Reads w2 (.slice (some ⟨b, o + a, none⟩) (a + k - a) (c - a)) ((l.take (a + k)).drop a) := by simpa [Addr.add_lit] using hpn
  rw [show a + k - a = k by omega] at hpn
  have hcv3 := conv_reads hpn.drew
  have HFL : Hid (fldP l a z = ⟨(l.take (a + k)).drop a, t, a, z⟩) := by show _ = _; unfold fldP; rw [← hkk, ht]
  have htz : t.length ≤ z := by have := htl.1; omega
  have HBB := Lib.hid hbb
  have i0 : (0 : Int) ≤ (a : Int) := by omega
  have i1 : (a : Int) ≤ (l.length : Int) := by omega
  have i2 : (a : Int) < (l.length : Int) := by omega
  have i3 : (0 : Int) ≤ (a : Int) + (k : Int) + 1 := by omega
  have i4 : (a : Int) + (k : Int) + 1 ≤ (z : Int) := by omega
  have i5 : (z : Int) ≤ (l.length : Int) := by omega
  have i6 : (a : Int) ≤ (a : Int) + (k : Int) := by omega
  have i7 : (a : Int) + (k : Int) ≤ (l.length : Int) := by omega
  have j10 : ((a : Int) + (k : Int) + 1).toNat = a + k + 1 := by omega
  have j11 : ((a : Int) + (k : Int)).toNat = a + k := by omega
  have HH0 : Hid (w2.heap[w.heap.size]? = some fld0) := (hb2.block w.heap.size (by omega)).trans (MapKept.heap_alloc w fld0).1
  have HW2 := Lib.hid hw2
  have j8 : (c = a + k + 1) = True := eq_true hlt
  have j9 : ¬ c = a := by omega
  clear hlt hr hr2 hpx hr3 hpn hcr htl ht hb1 hb2 hbb hkk hX hw2 hsz
  go_enter Tryd.func26, Tryd.ntmps26
  go_wp2_with (first | (go_at_call 40; refine HN.out.mono ?_; rintro e w' ⟨rfl, rfl⟩; refine Hid.out ?_) | fail)
  refine Lib.hid ?_
  go_wp2_with (first | (go_at_call 43; refine (HW2.out ▸ HT.out).mono ?_; rintro e w' ⟨rfl, rfl⟩; refine Hid.out ?_) | fail)
  refine Lib.hid ?_
  rw [← HW2.out]
  have hh := HH0.out
  have c0 : w2.cell? ⟨w.heap.size, 0, none⟩ = some (.string ⟨#[]⟩) := by simp [World.cell?, hh]
  have c1 : w2.cell? ⟨w.heap.size, 1, none⟩ = some (.string ⟨#[]⟩) := by simp [World.cell?, hh]
  have c2 : w2.cell? ⟨w.heap.size, 2, none⟩ = some (.int .i64 0) := by simp [World.cell?, hh]
  have c3 : w2.cell? ⟨w.heap.size, 3, none⟩ = some (.int .i64 0) := by simp [World.cell?, hh]
  have z0 : w2.frozen? ⟨w.heap.size, 0, none⟩ = false := by simp [World.frozen?, hh]
  have z1 : w2.frozen? ⟨w.heap.size, 1, none⟩ = false := by simp [World.frozen?, hh]
  have z2 : w2.frozen? ⟨w.heap.size, 2, none⟩ = false := by simp [World.frozen?, hh]
  have z3 : w2.frozen? ⟨w.heap.size, 3, none⟩ = false := by simp [World.frozen?, hh]
  have hh2 := Lib.hid hh
  clear hh hcv HN HT HW2
  go_upto_region 3 with fail
  go_region
  go_wp2
  have hfin := set4new hh2.out (.string ⟨((l.take (a + k)).drop a).toArray⟩) (.string ⟨t.toArray⟩) (.int .i64 (a : Int)) (.int .i64 (z : Int))
  have hbel : Below w.heap.size w ((((w2.setCell ⟨w.heap.size, 0, none⟩ (.string ⟨((l.take (a + k)).drop a).toArray⟩)).setCell ⟨w.heap.size, 1, none⟩ (.string ⟨t.toArray⟩)).setCell ⟨w.heap.size, 2, none⟩ (.int .i64 (a : Int))).setCell ⟨w.heap.size, 3, none⟩ (.int .i64 (z : Int))) :=
    (((HBB.out.setCell (p := ⟨w.heap.size, 0, none⟩) (Nat.le_refl _) _).setCell (p := ⟨w.heap.size, 1, none⟩) (Nat.le_refl _) _).setCell (p := ⟨w.heap.size, 2, none⟩) (Nat.le_refl _) _).setCell (p := ⟨w.heap.size, 3, none⟩) (Nat.le_refl _) _
  generalize ((((w2.setCell ⟨w.heap.size, 0, none⟩ (.string ⟨((l.take (a + k)).drop a).toArray⟩)).setCell ⟨w.heap.size, 1, none⟩ (.string ⟨t.toArray⟩)).setCell ⟨w.heap.size, 2, none⟩ (.int .i64 (a : Int))).setCell ⟨w.heap.size, 3, none⟩ (.int .i64 (z : Int))) = wz at hfin hbel ⊢
  have y0 : wz.drew.cell? ⟨w.heap.size, 0, none⟩ = some (.string ⟨((l.take (a + k)).drop a).toArray⟩) := by show wz.cell? _ = _; simp [World.cell?, hfin]
  have y1 : wz.drew.cell? ⟨w.heap.size, 1, none⟩ = some (.string ⟨t.toArray⟩) := by show wz.cell? _ = _; simp [World.cell?, hfin]
  have y2 : wz.drew.cell? ⟨w.heap.size, 2, none⟩ = some (.int .i64 (a : Int)) := by show wz.cell? _ = _; simp [World.cell?, hfin]
  have y3 : wz.drew.cell? ⟨w.heap.size, 3, none⟩ = some (.int .i64 (z : Int)) := by show wz.cell? _ = _; simp [World.cell?, hfin]
  exact bodyPost_ret (v := .agg #[.string ⟨((l.take (a + k)).drop a).toArray⟩, .string ⟨t.toArray⟩, .int .i64 (a : Int), .int .i64 (z : Int)]) (by simp [results, Tryd.results26, go_sem, y0, y1, y2, y3]) rfl ⟨by rw [HFL.out]; rfl, hbel.drew⟩
theorem pField (v : Value) (l : List UInt8) (a z : Nat) (w : World) (hr : Reads w v l) (hl : l.length ≤ 4000000000) (hz : z ≤ l.length) (hk : 0 < nsz (l.drop a)) (hak : a + nsz (l.drop a) + 1 ≤ z) :
    Calls Tryd.prog 26 #[v, .int .i64 (a : Int), .int .i64 (z : Int)] w (FieldEnd (fldP l a z) w) := by
  rcases hr with ⟨rfl, _⟩ | ⟨b, o, c, rfl, hc, hcell⟩
  · simp at hz; omega
  · by_cases h : c = a + nsz (l.drop a) + 1
    · exact pField0 b o c l a z w (Or.inr ⟨b, o, c, rfl, hc, hcell⟩) hl hc hz hk hak h
    · exact pField1 b o c l a z w (Or.inr ⟨b, o, c, rfl, hc, hcell⟩) hl hc hz hk hak h
end Go.Proofs.YtnogpoojhhmadaaDoor.Header
