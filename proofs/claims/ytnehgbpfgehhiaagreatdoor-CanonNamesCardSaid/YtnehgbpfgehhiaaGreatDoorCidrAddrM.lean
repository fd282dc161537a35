/-
  MERGED by mergefill.py: CidrAddr, CidrParse, CidrPLib, CidrPNum.
-/
import Derived.Test.YtnehgbpfgehhiaaGreatDoorCidrSix
import Derived.Test.YtnehgbpfgehhiaaGreatDoorShelf
import Derived.Lib.LaidTab
import Derived.Lib.IndexBytes
import Derived.Lib.IndexLaws
import Derived.Lib.SplitLaws
import Derived.Lib.CountLaws
import Derived.Lib.CutLaws
import Derived.Lib.Split
/-
  CIDR, the given answers: an address as text.
-/
namespace Go.Proofs.YtnehgbpfgehhiaaGreatDoor.Cidr
open Go.RowKit Base
def addrN (s : ByteArray) : Option NetM := match fourN s.data.toList with | some n => some n | none => sixS s
def AddrEnd (o : Option NetM) (w : World) (e : Ending) (w' : World) : Prop :=
  Below w.heap.size w w' ∧ ((o = none ∧ e = .returned (.tuple #[netV zeroN, .int .i64 70])) ∨ ∃ n : NetM, o = some n ∧ n.a.length = 16 ∧ e = .returned (.tuple #[netV n, .int .i64 0]))
theorem net_no {f : FuncId} {args : Array Value} {w : World} (h : Calls Tryz.prog f args w (NetEnd none w)) : Calls Tryz.prog f args w (fun e w' => ∃ n : NetM, n.a.length = 16 ∧ e = .returned (.tuple #[netV n, .bool false]) ∧ Below w.heap.size w w') :=
  h.mono fun e w' h => by
    rcases h with ⟨hb, ⟨_, n, h1, h2⟩ | ⟨n, h1, _⟩⟩
    · exact ⟨n, h1, h2, hb⟩
    · cases h1
theorem net_yes {f : FuncId} {args : Array Value} {w : World} {n : NetM} (h : Calls Tryz.prog f args w (NetEnd (some n) w)) : Calls Tryz.prog f args w (fun e w' => n.a.length = 16 ∧ e = .returned (.tuple #[netV n, .bool true]) ∧ Below w.heap.size w w') :=
  h.mono fun e w' h => by
    rcases h with ⟨hb, ⟨h1, _⟩ | ⟨m, h1, h2, h3⟩⟩
    · cases h1
    · cases h1; exact ⟨h2, h3, hb⟩
/-- A new box, a range stored into it. -/
theorem net_new {w w2 : World} {n : NetM} (ha : n.a.length = 16) (hw : (w.alloc (.cells (netC zeroN) 72)).setCells w.heap.size 0 (netC n).toList = w2) : NetAt w2 w.heap.size n ∧ Below w.heap.size w w2 := by
  obtain ⟨h1, h2, _⟩ := net_put (NetAt.new w zeroN) rfl ha hw
  exact ⟨h1, (Below.alloc1 _ _).trans (h2.below (Nat.le_refl _) (by simp))⟩
theorem net_again {w w2 : World} {b B : Nat} {m n : NetM} (h : NetAt w b m) (hm : m.a.length = 16) (ha : n.a.length = 16) (hB : B ≤ b) (hw : w.setCells b 0 (netC n).toList = w2) : NetAt w2 b n ∧ Below B w w2 ∧ KeepX b w w2 := by
  obtain ⟨h1, h2, _⟩ := net_put h (netC_size hm) ha hw
  exact ⟨h1, h2.below hB (heap_lt h), h2⟩
theorem there_net {w : World} {b : Nat} {m n : NetM} (h : NetAt w b m) (hm : m.a.length = 16) (ha : n.a.length = 16) : w.there b 0 (netC n).size := there_of h (by rw [netC_size hm, netC_size ha]; omega)
set_option maxHeartbeats 4000000 in
set_option maxRecDepth 100000 in
theorem rAddr (s : ByteArray) (w : World) (hs : s.size ≤ 4294967280) : Calls Tryz.prog 27 #[.string s] w (AddrEnd (addrN s) w) := by
  have HB0 := Lib.hid (Below.alloc1 w (.cells (netC zeroN) 72))
  have HN0 := Lib.hid (NetAt.new w zeroN)
  have HF := Lib.hid (fun w => rFour s w hs)
  have HX := Lib.hid (fun w => rSix s w hs)
  obtain ⟨o, ho⟩ : ∃ o, o = addrN s := ⟨_, rfl⟩
  rw [← ho]
  unfold addrN at ho
  generalize fourN s.data.toList = o4 at ho HF
  generalize sixS s = o6 at ho HX
  have HO := Lib.hid ho
  clear ho
  go_enter Tryz.func27, Tryz.ntmps27
  cases o4 with
  | some n =>
    have HY : Hid (o = some n) := HO.out
    have HF2 := Lib.hid (fun wx => net_yes (HF.out wx))
    clear HF HX HO
    go_wp2_with (go_at_call 58; refine (HF2.out _).mono ?_; rintro e w1 ⟨ha, rfl, b1⟩; refine Hid.out ?_)
    refine Lib.hid ?_
    have HA := Lib.hid ha
    have HN1 : Hid (NetAt w1 w.heap.size zeroN) := HN0.out.on b1
    have HB1 : Hid (Below w.heap.size w w1) := HB0.out.trans (b1.mono HB0.out.size)
    have HT := Lib.hid (there_net (NetAt.new w1 zeroN) rfl HA.out)
    have HC := Lib.hid (size25c HA.out)
    clear ha b1
    go_wp2_with (first | (refine wpList_store_mid rfl 72 (.tmp 4) (.tmp 9) rfl w1.heap.size 0 (netC n) rfl rfl HT.out HC.out (netC_all _) ?_; generalize hw2 : World.setCells _ _ _ _ = w2; refine Hid.out ?_) | fail)
    refine Lib.hid ?_
    obtain ⟨hn2, hb2⟩ := net_new HA.out hw2
    have HN2 := Lib.hid hn2
    have HN20 : Hid (NetAt w2 w.heap.size zeroN) := HN1.out.on hb2
    have HB2 : Hid (Below w.heap.size w w2) := HB1.out.trans (hb2.mono HB1.out.size)
    have HL2 := Lib.hid (heap_lt HN1.out)
    clear hw2 hn2 hb2 HT HC
    have HSt := Lib.hid (size25_of HA.out)
    have HTt := Lib.hid (there_net HN20.out rfl HA.out)
    have HCt := Lib.hid (size25c HA.out)
    go_wp2_with (first | (refine wpList_load_mid rfl 72 (.tmp 4) rfl w1.heap.size 0 rfl (netL n) _ HN2.out.range0 Tryz.underlying72 rfl HSt.out ?_) | (refine wpList_store_mid rfl 72 (.tmp 2) (.tmp 12) rfl w.heap.size 0 (netC n) rfl rfl HTt.out HCt.out (netC_all _) ?_; generalize hwf : World.setCells _ _ _ _ = wf; refine Hid.out ?_) | fail)
    refine Lib.hid ?_
    obtain ⟨hnf, hbf, _⟩ := net_again HN20.out rfl HA.out (Nat.le_refl _) hwf
    have HNF := Lib.hid hnf
    have HBF := Lib.hid hbf
    clear hnf hbf hwf
    go_wp2
    exact bodyPost_ret (results_net Tryz.results27 rfl rfl HNF.out HA.out) rfl ⟨HB2.out.trans HBF.out, Or.inr ⟨n, HY.out, HA.out, rfl⟩⟩
  | none =>
    have HO2 : Hid (o = o6) := HO.out
    have HF2 := Lib.hid (fun wx => net_no (HF.out wx))
    clear HF HO
    go_wp2_with (go_at_call 58; refine (HF2.out _).mono ?_; rintro e w1 ⟨n, ha, rfl, b1⟩; refine Hid.out ?_)
    refine Lib.hid ?_
    have HA := Lib.hid ha
    have HN1 : Hid (NetAt w1 w.heap.size zeroN) := HN0.out.on b1
    have HB1 : Hid (Below w.heap.size w w1) := HB0.out.trans (b1.mono HB0.out.size)
    have HT := Lib.hid (there_net (NetAt.new w1 zeroN) rfl HA.out)
    have HC := Lib.hid (size25c HA.out)
    clear ha b1
    go_wp2_with (first | (refine wpList_store_mid rfl 72 (.tmp 4) (.tmp 9) rfl w1.heap.size 0 (netC n) rfl rfl HT.out HC.out (netC_all _) ?_; generalize hw2 : World.setCells _ _ _ _ = w2; refine Hid.out ?_) | fail)
    refine Lib.hid ?_
    obtain ⟨hn2, hb2⟩ := net_new HA.out hw2
    have HN2 := Lib.hid hn2
    have HN20 : Hid (NetAt w2 w.heap.size zeroN) := HN1.out.on hb2
    have HB2 : Hid (Below w.heap.size w w2) := HB1.out.trans (hb2.mono HB1.out.size)
    have HL2 := Lib.hid (heap_lt HN1.out)
    clear hw2 hn2 hb2 HT HC
    cases o6 with
    | some m =>
      have HY : Hid (o = some m) := HO2.out
      have HX2 := Lib.hid (fun wx => net_yes (HX.out wx))
      clear HX HO2
      go_wp2_with (go_at_call 59; refine (HX2.out _).mono ?_; rintro e w3 ⟨hm, rfl, b3⟩; refine Hid.out ?_)
      refine Lib.hid ?_
      have HM := Lib.hid hm
      have HN3 := Lib.hid (HN2.out.on b3)
      have HN30 := Lib.hid (HN20.out.on b3)
      have HB3 := Lib.hid (HB2.out.trans (b3.mono HB2.out.size))
      have HT3 := Lib.hid (there_net HN3.out HA.out HM.out)
      have HC3 := Lib.hid (size25c HM.out)
      clear hm b3
      go_wp2_with (first | (refine wpList_store_mid rfl 72 (.tmp 4) (.tmp 16) rfl w1.heap.size 0 (netC m) rfl rfl HT3.out HC3.out (netC_all _) ?_; generalize hw4 : World.setCells _ _ _ _ = w4; refine Hid.out ?_) | fail)
      refine Lib.hid ?_
      obtain ⟨hn4, hb4, hk4⟩ := net_again HN3.out HA.out HM.out (Nat.le_of_lt HL2.out) hw4
      have HN4 := Lib.hid hn4
      have HN40 : Hid (NetAt w4 w.heap.size zeroN) := HN30.out.kept hk4 (by have := HL2.out; omega)
      have HB4 := Lib.hid (HB3.out.trans hb4)
      clear hw4 hn4 hb4 hk4
      have HSt := Lib.hid (size25_of HM.out)
      have HTt := Lib.hid (there_net HN40.out rfl HM.out)
      have HCt := Lib.hid (size25c HM.out)
      go_wp2_with (first | (refine wpList_load_mid rfl 72 (.tmp 4) rfl w1.heap.size 0 rfl (netL m) _ HN4.out.range0 Tryz.underlying72 rfl HSt.out ?_) | (refine wpList_store_mid rfl 72 (.tmp 2) (.tmp 19) rfl w.heap.size 0 (netC m) rfl rfl HTt.out HCt.out (netC_all _) ?_; generalize hwf : World.setCells _ _ _ _ = wf; refine Hid.out ?_) | fail)
      refine Lib.hid ?_
      obtain ⟨hnf, hbf, _⟩ := net_again HN40.out rfl HM.out (Nat.le_refl _) hwf
      have HNF := Lib.hid hnf
      have HBF := Lib.hid hbf
      clear hnf hbf hwf
      go_wp2
      exact bodyPost_ret (results_net Tryz.results27 rfl rfl HNF.out HM.out) rfl ⟨HB4.out.trans HBF.out, Or.inr ⟨m, HY.out, HM.out, rfl⟩⟩
    | none =>
      have HX2 := Lib.hid (fun wx => net_no (HX.out wx))
      have HNO : Hid (o = none) := HO2.out
      clear HX HO2
      go_wp2_with (go_at_call 59; refine (HX2.out _).mono ?_; rintro e w3 ⟨m, hm, rfl, b3⟩; refine Hid.out ?_)
      refine Lib.hid ?_
      have HM := Lib.hid hm
      have HN3 := Lib.hid (HN2.out.on b3)
      have HN30 := Lib.hid (HN20.out.on b3)
      have HB3 := Lib.hid (HB2.out.trans (b3.mono HB2.out.size))
      have HT3 := Lib.hid (there_net HN3.out HA.out HM.out)
      have HC3 := Lib.hid (size25c HM.out)
      clear hm b3
      go_wp2_with (first | (refine wpList_store_mid rfl 72 (.tmp 4) (.tmp 16) rfl w1.heap.size 0 (netC m) rfl rfl HT3.out HC3.out (netC_all _) ?_; generalize hw4 : World.setCells _ _ _ _ = w4; refine Hid.out ?_) | fail)
      refine Lib.hid ?_
      obtain ⟨hn4, hb4, hk4⟩ := net_again HN3.out HA.out HM.out (Nat.le_of_lt HL2.out) hw4
      have HN4 := Lib.hid hn4
      have HN40 : Hid (NetAt w4 w.heap.size zeroN) := HN30.out.kept hk4 (by have := HL2.out; omega)
      have HB4 := Lib.hid (HB3.out.trans hb4)
      clear hw4 hn4 hb4 hk4
      have HTt := Lib.hid (there_net (n := zeroN) HN40.out rfl rfl)
      have HCt := Lib.hid (size25c (n := zeroN) rfl)
      go_wp2_with (first | (refine wpList_store_mid rfl 72 (.tmp 2) (.tmp 20) rfl w.heap.size 0 (netC zeroN) rfl rfl HTt.out HCt.out (netC_all _) ?_; generalize hwf : World.setCells _ _ _ _ = wf; refine Hid.out ?_) | fail)
      refine Lib.hid ?_
      obtain ⟨hnf, hbf, _⟩ := net_again (n := zeroN) HN40.out rfl rfl (Nat.le_refl _) hwf
      have HNF := Lib.hid hnf
      have HBF := Lib.hid hbf
      clear hnf hbf hwf
      go_wp2
      exact bodyPost_ret (results_net Tryz.results27 rfl rfl HNF.out rfl) rfl ⟨HB4.out.trans HBF.out, Or.inl ⟨HNO.out, rfl⟩⟩
end Go.Proofs.YtnehgbpfgehhiaaGreatDoor.Cidr
/-
  CIDR, the given answers: a range as text.
-/
namespace Go.Proofs.YtnehgbpfgehhiaaGreatDoor.Cidr
open Go.RowKit Base
def rightO (n : NetM) : Option NetM := if rightN n = true then some n else none
def parseL : List (List UInt8) → Option NetM
  | [p] => (addrN ⟨p.toArray⟩).bind rightO
  | [p, q] => (addrN ⟨p.toArray⟩).bind fun n => (decN q).bind fun k => rightO { n with bits := (k : Int) }
  | _ => none
def parseN (s : ByteArray) : Option NetM := parseL (splitB 47 s.data.toList)
theorem addr_no {f : FuncId} {args : Array Value} {w : World} (h : Calls Tryz.prog f args w (AddrEnd none w)) : Calls Tryz.prog f args w (fun e w' => e = .returned (.tuple #[netV zeroN, .int .i64 70]) ∧ Below w.heap.size w w') :=
  h.mono fun e w' h => by
    rcases h with ⟨hb, ⟨_, h2⟩ | ⟨n, h1, _⟩⟩
    · exact ⟨h2, hb⟩
    · cases h1
theorem addr_yes {f : FuncId} {args : Array Value} {w : World} {n : NetM} (h : Calls Tryz.prog f args w (AddrEnd (some n) w)) : Calls Tryz.prog f args w (fun e w' => n.a.length = 16 ∧ e = .returned (.tuple #[netV n, .int .i64 0]) ∧ Below w.heap.size w w') :=
  h.mono fun e w' h => by
    rcases h with ⟨hb, ⟨h1, _⟩ | ⟨m, h1, h2, h3⟩⟩
    · cases h1
    · cases h1; exact ⟨h2, h3, hb⟩
theorem NetAt.setBits {w : World} {b : Nat} {n : NetM} (h : NetAt w b n) (k : Int) : NetAt (w.setCell ⟨b, 1, none⟩ (.int .i64 k)) b { n with bits := k } := by
  have h1 := heap_setCell_any w b 1 _ _ _ (.int .i64 k) h
  unfold NetAt
  rw [h1]
  congr 2
theorem NetAt.frozen {w : World} {b : Nat} {n : NetM} (h : NetAt w b n) (j : Nat) : w.frozen? ⟨b, j, none⟩ = false := by simp [World.frozen?, show w.heap[b]? = _ from h]
theorem piece_len {c : UInt8} : ∀ {l p : List UInt8}, p ∈ splitB c l → p.length ≤ l.length
  | [], p, h => by simp [splitB] at h; subst h; simp
  | x :: r, p, h => by
    rw [splitB_eq] at h
    split at h
    · rcases List.mem_cons.1 h with rfl | h
      · simp
      · have := piece_len h; simp; omega
    · split at h
      · rename_i hq
        exact absurd hq (splitB_ne c r)
      · rename_i hd tl hq
        rcases List.mem_cons.1 h with rfl | h
        · have := piece_len (c := c) (l := r) (p := hd) (by rw [hq]; exact List.mem_cons_self); simp; omega
        · have := piece_len (c := c) (l := r) (p := p) (by rw [hq]; exact List.mem_cons_of_mem _ h); simp; omega
theorem arr_size (p : List UInt8) : (⟨p.toArray⟩ : ByteArray).size = p.length := by show p.toArray.size = _; simp
end Go.Proofs.YtnehgbpfgehhiaaGreatDoor.Cidr
/-
  CIDR, the program: what it asks of the library: cuts, pieces, numbers in base ten; the variables that these read.
-/
namespace Go.Proofs.YtnehgbpfgehhiaaGreatDoor.Cidr
open Go.RowKit Base
theorem var_on {P : Program} {w w' : World} {n : String} {cs : Array Value} (h : w.var? P n = some cs) (hb : Below w.heap.size w w') : w'.var? P n = some cs := by
  unfold World.var? at h ⊢
  cases hg : P.globalNamed n with
  | none => rw [hg] at h; cases h
  | some g =>
    rw [hg] at h
    simp only [Option.bind_some] at h ⊢
    cases hh : w.heap[g]? with
    | none => rw [hh] at h; cases h
    | some o => rw [hb.block g (heap_lt hh)]; rw [hh] at h ⊢; exact h
/-- The library's variables. -/
structure Env (w : World) : Prop where
  max : ∃ m, w.var? Tryz.prog "internal/bytealg.MaxLen" = some #[.int .i64 m]
  syn : ∃ tp p, w.var? Tryz.prog "strconv.ErrSyntax" = some #[.iface tp p]
  rng : ∃ tp p, w.var? Tryz.prog "strconv.ErrRange" = some #[.iface tp p]
  pow : Lib.TabIs Tryz.prog w "internal/strconv.uint64pow10" .u64 Lib.pow10Tab
theorem Env.on {w w' : World} (h : Env w) (hb : Below w.heap.size w w') : Env w' := by
  obtain ⟨⟨m, h1⟩, ⟨a, b, h2⟩, ⟨c, d, h3⟩, h4⟩ := h
  exact ⟨⟨m, var_on h1 hb⟩, ⟨a, b, var_on h2 hb⟩, ⟨c, d, var_on h3 hb⟩, var_on h4 hb⟩
theorem var_cell {w : World} {n : String} {g : Nat} {v : Value} (hg : Tryz.prog.globalNamed n = some g) (h : w.var? Tryz.prog n = some #[v]) : w.cell? ⟨g, 0, none⟩ = some v := by
  unfold World.var? at h
  rw [hg] at h
  simp only [Option.bind_some] at h
  unfold World.cell?
  cases hh : w.heap[g]? with
  | none => rw [hh] at h; cases h
  | some o =>
    rw [hh] at h
    cases o with
    | cells cs t fz => simp only [Option.some.injEq] at h; subst h; rfl
    | _ => cases h
theorem gMax : Tryz.prog.globalNamed "internal/bytealg.MaxLen" = some 0 := by kernel_rfl
theorem gSyn : Tryz.prog.globalNamed "strconv.ErrSyntax" = some 6 := by kernel_rfl
theorem gRng : Tryz.prog.globalNamed "strconv.ErrRange" = some 7 := by kernel_rfl
theorem Env.maxCell {w : World} (h : Env w) : ∃ m, w.cell? ⟨0, 0, none⟩ = some (.int .i64 m) := by
  obtain ⟨m, hm⟩ := h.max
  exact ⟨m, var_cell gMax hm⟩
theorem bel_drew (n : Nat) (w : World) : Below w.heap.size w (w.drewN n) := ⟨rfl, rfl, rfl, Nat.le_refl _, fun _ _ => rfl⟩
/-! ### A text cut at a byte -/
theorem byte_none {l : List UInt8} {c : UInt8} (h : Lib.indexByte l c = -1) : ∀ x ∈ l, x ≠ c := fun x hx e => by
  obtain ⟨k, hk⟩ := List.mem_iff_getElem?.1 hx
  exact Lib.indexByte_none h k (by rw [hk, e])
theorem byte_some {l : List UInt8} {c : UInt8} {o : Nat} (h : Lib.indexByte l c = o) : o < l.length ∧ l = l.take o ++ c :: l.drop (o + 1) ∧ ∀ x ∈ l.take o, x ≠ c := by
  obtain ⟨h1, h2⟩ := Lib.indexByte_some h
  obtain ⟨hl, he⟩ := List.getElem?_eq_some_iff.1 h1
  refine ⟨hl, ?_, ?_⟩
  · rw [← he, List.getElem_cons_drop, List.take_append_drop]
  · intro x hx e
    obtain ⟨k, hk⟩ := List.mem_iff_getElem?.1 hx
    have hk2 : k < o := by
      have := (List.getElem?_eq_some_iff.1 hk).1
      rw [List.length_take] at this; omega
    rw [List.getElem?_take_of_lt hk2] at hk
    exact h2 k hk2 (by rw [hk, e])
theorem byte_cases (l : List UInt8) (c : UInt8) : Lib.indexByte l c = -1 ∨ ∃ o : Nat, Lib.indexByte l c = o := by
  have := Lib.indexByte_ge l c
  by_cases h : Lib.indexByte l c = -1
  · exact Or.inl h
  · exact Or.inr ⟨(Lib.indexByte l c).toNat, by omega⟩
theorem splitB_miss {l : List UInt8} {c : UInt8} (h : Lib.indexByte l c = -1) : splitB c l = [l] := splitB_none (byte_none h)
theorem splitB_hit {l : List UInt8} {c : UInt8} {o : Nat} (h : Lib.indexByte l c = o) : splitB c l = l.take o :: splitB c (l.drop (o + 1)) := by
  obtain ⟨_, h1, h2⟩ := byte_some h
  conv => lhs; rw [h1]
  exact splitB_at h2
theorem lib_split (c : UInt8) : ∀ (k : Nat) (s : ByteArray), Lib.countB s ⟨#[c]⟩ = k → (Lib.splitB ⟨#[c]⟩ 0 k s).map (·.data.toList) = splitB c s.data.toList
  | 0, s, hk => by
    rcases Lib.indexB_cases s ⟨#[c]⟩ with hix | ⟨i, hix, _⟩
    · have h2 : Lib.indexByte s.data.toList c = -1 := by rw [← Lib.index_one]; exact hix
      rw [splitB_miss h2]; rfl
    · have := Lib.countB_hit s ⟨#[c]⟩ i (Nat.le_refl 1) hix; omega
  | k + 1, s, hk => by
    rcases Lib.indexB_cases s ⟨#[c]⟩ with hix | ⟨i, hix, _⟩
    · rw [Lib.countB_miss s _ hix] at hk; omega
    · have h2 : Lib.indexByte s.data.toList c = i := by rw [← Lib.index_one]; exact hix
      have h3 := Lib.countB_hit s ⟨#[c]⟩ i (Nat.le_refl 1) hix
      have h4 := lib_split c k (s.extract (i + 1) s.size) (by have : (⟨#[c]⟩ : ByteArray).size = 1 := rfl; rw [this] at h3; omega)
      rw [Lib.splitB_hit _ _ _ _ _ hix, List.map_cons, splitB_hit h2]
      have e1 : (s.extract 0 (i + 0)).data.toList = s.data.toList.take i := by rw [extract_bytes]; simp
      have e2 : (s.extract (i + 1) s.size).data.toList = s.data.toList.drop (i + 1) := by
        rw [extract_bytes]
        rw [List.take_of_length_le (by rw [str_len]; omega)]
      rw [e1]
      congr 1
      rw [← e2]; exact h4
theorem map_S (l : List ByteArray) : (l.map (·.data.toList)).map S = l.map Value.string := by
  rw [List.map_map]; rfl
/-- strings.Split at one byte. -/
theorem pSplit (s : ByteArray) (c : UInt8) (w : World) (hs : s.size ≤ 100) (he : Env w) : Calls Tryz.prog 37 #[.string s, .string ⟨#[c]⟩] w (SplitEnd (splitB c s.data.toList) w) := by
  obtain ⟨m, hm⟩ := he.maxCell
  refine (Tryz.strings_Split s ⟨#[c]⟩ m w (by omega) hm (Nat.le_refl 1)).mono ?_
  rintro e w' ⟨rfl, rfl⟩
  have hl := lib_split c _ s rfl
  have hlen := Lib.splitB_all ⟨#[c]⟩ (Nat.le_refl 1) 0 (Lib.countB s ⟨#[c]⟩) s rfl
  have hle := Lib.countB_le ⟨#[c]⟩ (Nat.le_refl 1) s.size s (Nat.le_refl _)
  refine ⟨_, rfl, ?_, Below.alloc1 _ _⟩
  unfold OwnsS
  rw [← hl, map_S, List.length_map, hlen]
  have := World.ownsRow_lit (base := w.heap.size) (e := 9) (size := 1) w ((Lib.splitB ⟨#[c]⟩ 0 (Lib.countB s ⟨#[c]⟩) s).map Value.string).toArray (Lib.countB s ⟨#[c]⟩ + 1) (Nat.le_refl _) (by unfold maxLen; omega) (by simp [hlen])
  simpa using this
/-- strings.Cut at one byte, however long the text is. -/
def CutEnd1 (l : List UInt8) (c : UInt8) (w : World) (e : Ending) (w' : World) : Prop :=
  Below w.heap.size w w' ∧ ((splitB c l = [l] ∧ e = .returned (.tuple #[S l, .string ⟨#[]⟩, .bool false])) ∨ ∃ p q, splitB c l = p :: splitB c q ∧ e = .returned (.tuple #[S p, S q, .bool true]) ∧ p.length + q.length < l.length)
set_option maxRecDepth 100000 in
theorem pCutL (s : ByteArray) (c : UInt8) (w : World) (hs : s.size ≤ 9223372036854775807) : Calls Tryz.prog 205 #[.string s, .string ⟨#[c]⟩] w (CutEnd1 s.data.toList c w) := by
  rcases byte_cases s.data.toList c with hix | ⟨o, hix⟩
  · have HM := Lib.hid (splitB_miss hix)
    have HI := Lib.hid (Tryz.stringslite_Index_one s c)
    go_enter Tryz.func205, Tryz.ntmps205
    go_wp2_with (first | (go_at_call 150; refine (HI.out _).mono ?_; rintro e w' ⟨rfl, rfl⟩; rw [hix]) | fail)
    go_ret3
    exact ⟨Below.refl _ _, Or.inl ⟨HM.out, rfl⟩⟩
  · obtain ⟨h1, -, -⟩ := byte_some hix
    rw [str_len] at h1
    have HM := Lib.hid (splitB_hit hix)
    have HI := Lib.hid (Tryz.stringslite_Index_one s c)
    have c1 : (0 : Int) ≤ (o : Int) := by omega
    have c2 : (o : Int) ≤ (s.size : Int) := by omega
    have c3 : (0 : Int) ≤ (o : Int) + 1 := by omega
    have c4 : (o : Int) + 1 ≤ (s.size : Int) := by omega
    have HE1 : Hid (s.extract 0 o = ⟨(s.data.toList.take o).toArray⟩) := by
      show _ = _
      rw [extract_bytes]; simp
    have HE2 : Hid (s.extract (o + 1) s.size = ⟨(s.data.toList.drop (o + 1)).toArray⟩) := by
      show _ = _
      rw [extract_bytes, List.take_of_length_le (by rw [str_len]; omega)]
    have HL : Hid ((s.data.toList.take o).length + (s.data.toList.drop (o + 1)).length < s.data.toList.length) := by
      show _ < _
      rw [List.length_take, List.length_drop, str_len]; omega
    go_enter Tryz.func205, Tryz.ntmps205
    go_wp2_with (first | (go_at_call 150; refine (HI.out _).mono ?_; rintro e w' ⟨rfl, rfl⟩; rw [hix]) | fail)
    go_region
    go_wp2
    go_ret3
    exact ⟨(Below.refl _ _).drew, Or.inr ⟨_, _, HM.out, by rw [HE1.out, HE2.out]; rfl, HL.out⟩⟩
theorem pCut1 (s : ByteArray) (c : UInt8) (w : World) (hs : s.size ≤ 9223372036854775807) : Calls Tryz.prog 179 #[.string s, .string ⟨#[c]⟩] w (CutEnd1 s.data.toList c w) := by
  have HC := Lib.hid (pCutL s c w hs)
  go_enter Tryz.func179, Tryz.ntmps179
  go_wp2_with (first | (go_at_call 205; refine (HC.out).mono ?_; rintro e w' ⟨hb, (⟨h1, rfl⟩ | ⟨p, q, h1, rfl, h3⟩)⟩) | fail)
  · go_ret3
    exact ⟨hb, Or.inl ⟨h1, rfl⟩⟩
  · go_ret3
    exact ⟨hb, Or.inr ⟨p, q, h1, rfl, h3⟩⟩
end Go.Proofs.YtnehgbpfgehhiaaGreatDoor.Cidr
/-
  CIDR, the program: a number of one to three digits.
-/
namespace Go.Proofs.YtnehgbpfgehhiaaGreatDoor.Cidr
open Go.RowKit Base
theorem p10 : ∀ (l : List UInt8) (a : Nat), (a + 1) * 10 ^ l.length ≤ 65536 → Lib.parseUintM 65535 a l = if l.all isDig = true then .ok (l.foldl (fun n c => 10 * n + (c.toNat - 48)) a) else .syntax
  | [], a, _ => by simp [Lib.parseUintM]
  | c :: r, a, h => by
    rw [List.length_cons, Nat.pow_succ] at h
    have h0 : 1 ≤ 10 ^ r.length := Nat.one_le_pow _ _ (by omega)
    have h1 : (a + 1) * 10 ≤ 65536 := Nat.le_trans (by rw [show (a + 1) * (10 ^ r.length * 10) = (a + 1) * 10 * 10 ^ r.length by rw [Nat.mul_comm (10 ^ r.length) 10, ← Nat.mul_assoc]]; exact Nat.le_mul_of_pos_right _ (by omega)) h
    rw [Lib.parseUintM, List.all_cons, List.foldl_cons]
    by_cases hd : 48 ≤ c.toNat ∧ c.toNat ≤ 57
    · rw [if_pos hd, if_neg (by omega), if_neg (by omega)]
      have ih := p10 r (a * 10 + (c.toNat - 48)) (Nat.le_trans (by rw [show (a + 1) * (10 ^ r.length * 10) = (a * 10 + 10) * 10 ^ r.length by rw [Nat.mul_comm (10 ^ r.length) 10, ← Nat.mul_assoc]; congr 1; omega]; exact Nat.mul_le_mul_right _ (by omega)) h)
      rw [ih, (dig_iff c).2 hd, Bool.true_and, Nat.mul_comm a 10]
    · have : isDig c = false := by rw [Bool.eq_false_iff]; exact fun h => hd ((dig_iff c).1 h)
      rw [if_neg hd, this, Bool.false_and, if_neg (by simp)]
def digsN (l : List UInt8) : Option Nat := if l ≠ [] ∧ l.all isDig = true then some (decF l) else none
theorem parse10 (l : List UInt8) (h : l.length ≤ 3) : Lib.parseUintB 16 l = match digsN l with | some n => .ok n | none => .syntax := by
  unfold Lib.parseUintB digsN
  by_cases h0 : l = []
  · subst h0; simp
  · have hp : 10 ^ l.length ≤ 10 ^ 3 := Nat.pow_le_pow_right (by decide) h
    rw [if_neg h0, show (2 ^ 16 - 1 : Nat) = 65535 from rfl, p10 l 0 (by omega)]
    by_cases hd : l.all isDig = true
    · rw [if_pos hd, if_pos ⟨h0, hd⟩]; rfl
    · rw [if_neg hd, if_neg (fun h => hd h.2)]
theorem bytesWorld_below (w : World) (s : ByteArray) : Below w.heap.size w (Lib.bytesWorld w 5 s) := Joins.below_bytesWorld _ w 5 s (Nat.le_refl _)
def ParseEnd (o : Option Nat) (w : World) (e : Ending) (w' : World) : Prop :=
  Below w.heap.size w w' ∧ ((∃ n : Nat, o = some n ∧ e = .returned (.tuple #[.int .u64 (n : Int), .nilIface])) ∨ (o = none ∧ ∃ x t p, e = .returned (.tuple #[.int .u64 x, .iface t p])))
theorem pParse10 (s : ByteArray) (w : World) (hs : s.size ≤ 3) (he : Env w) : Calls Tryz.prog 204 #[.string s, .int .i64 10, .int .i64 16] w (ParseEnd (digsN s.data.toList) w) := by
  have hp := parse10 s.data.toList (by rw [str_len]; exact hs)
  cases hd : digsN s.data.toList with
  | some n =>
    rw [hd] at hp
    refine (Tryz.strconv_ParseUint_10_at16_ok s (by omega) n hp w).mono ?_
    rintro e w' ⟨rfl, h⟩
    refine ⟨?_, Or.inl ⟨n, rfl, rfl⟩⟩
    rcases h with rfl | rfl
    · exact Below.refl _ _
    · exact bytesWorld_below w s
  | none =>
    rw [hd] at hp
    obtain ⟨tp, p, hv⟩ := he.syn
    refine (Tryz.strconv_ParseUint_10_at16_syntax_var s (by omega) hp tp p w hv).mono ?_
    rintro e w' ⟨N, rfl, _, _, hb⟩
    exact ⟨hb, Or.inr ⟨rfl, _, _, _, rfl⟩⟩
theorem parse_yes {f : FuncId} {args : Array Value} {w : World} {n : Nat} (h : Calls Tryz.prog f args w (ParseEnd (some n) w)) : Calls Tryz.prog f args w (fun e w' => e = .returned (.tuple #[.int .u64 (n : Int), .nilIface]) ∧ Below w.heap.size w w') :=
  h.mono fun e w' h => by
    rcases h with ⟨hb, ⟨m, h1, h2⟩ | ⟨h1, _⟩⟩
    · cases h1; exact ⟨h2, hb⟩
    · cases h1
theorem parse_no {f : FuncId} {args : Array Value} {w : World} (h : Calls Tryz.prog f args w (ParseEnd none w)) : Calls Tryz.prog f args w (fun e w' => ∃ x t p, e = .returned (.tuple #[.int .u64 x, .iface t p]) ∧ Below w.heap.size w w') :=
  h.mono fun e w' h => by
    rcases h with ⟨hb, ⟨m, h1, _⟩ | ⟨_, x, t, p, h2⟩⟩
    · cases h1
    · exact ⟨x, t, p, h2, hb⟩
theorem decN_digs (l : List UInt8) (h3 : l.length ≤ 3) (h0 : ¬ (l.getD 0 0 = 48 ∧ 1 < l.length)) : decN l = digsN l := by
  unfold decN digsN
  have : 1 ≤ l.length ↔ l ≠ [] := by cases l <;> simp
  by_cases hd : l ≠ [] ∧ l.all isDig = true
  · rw [if_pos ⟨this.2 hd.1, h3, h0, hd.2⟩, if_pos hd]
  · rw [if_neg (fun h => hd ⟨this.1 h.1, h.2.2.2⟩), if_neg hd]
theorem digs_small {l : List UInt8} {n : Nat} (h : digsN l = some n) (h3 : l.length ≤ 3) : n ≤ 999 := by
  unfold digsN at h
  split at h
  · rename_i hh
    cases h; exact decF_small l hh.2 h3
  · cases h
def NumEnd2 (o : Option Nat) (w : World) (e : Ending) (w' : World) : Prop := e = .returned (.tuple #[.int .i64 (o.getD 0 : Nat), .bool o.isSome]) ∧ Below w.heap.size w w'
theorem num2_none {o : Option Nat} (h : o = none) {w w' : World} (hb : Below w.heap.size w w') : NumEnd2 o w (.returned (.tuple #[.int .i64 0, .bool false])) w' := by subst h; exact ⟨rfl, hb⟩
theorem num2_some {o : Option Nat} {n : Nat} (h : o = some n) {w w' : World} (hb : Below w.heap.size w w') : NumEnd2 o w (.returned (.tuple #[.int .i64 (n : Int), .bool true])) w' := by subst h; exact ⟨rfl, hb⟩
set_option maxHeartbeats 1000000 in
set_option maxRecDepth 100000 in
theorem pNumber (s : ByteArray) (w : World) (he : Env w) : Calls Tryz.prog 178 #[.string s] w (NumEnd2 (decN s.data.toList) w) := by
  have HL := Lib.hid (str_len s)
  have HE := Lib.hid he
  obtain ⟨o, ho⟩ : ∃ o, o = decN s.data.toList := ⟨_, rfl⟩
  rw [← ho]
  clear he
  by_cases h3 : s.size ≤ 3
  · by_cases h1 : 1 < s.size
    · have hg := str_get s 0 (by omega)
      by_cases h0 : s[0] = 48
      · have ho2 := Lib.hid (show o = none by rw [ho]; unfold decN; rw [if_neg (fun h => h.2.2.1 ⟨by rw [hg]; exact h0, by rw [HL.out]; exact h1⟩)])
        have e2 : ¬ (3 : Int) < (s.size : Int) := by omega
        have e3 : ((s[0].toNat : Int) == 48) = true := by rw [h0]; rfl
        have e4 : (1 : Int) < (s.size : Int) := by omega
        clear ho h0 hg
        go_enter Tryz.func178, Tryz.ntmps178
        go_wp2
        go_ret2
        exact num2_none ho2.out (Below.refl _ _)
      · have ho2 : o = digsN s.data.toList := by rw [ho]; exact decN_digs _ (by rw [HL.out]; exact h3) (by rw [hg]; exact fun h => h0 h.1)
        have HSM : Hid (∀ n, o = some n → n ≤ 999) := fun n hn => digs_small (ho2.symm.trans hn) (by rw [HL.out]; exact h3)
        have HP := Lib.hid (pParse10 s w h3 HE.out)
        rw [← ho2] at HP
        have e2 : ¬ (3 : Int) < (s.size : Int) := by omega
        have e3 : ((s[0].toNat : Int) == 48) = false := by
          rw [beq_eq_false_iff_ne]; intro h; exact h0 (UInt8.toNat_inj.1 (by rw [show (48 : UInt8).toNat = 48 from rfl]; omega))
        have e4 : (1 : Int) < (s.size : Int) := by omega
        clear ho ho2 h0 hg
        cases o with
        | none =>
          have HP2 := Lib.hid (parse_no HP.out)
          clear HP HSM
          go_enter Tryz.func178, Tryz.ntmps178
          go_wp2_with (first | (go_at_call 204; refine HP2.out.mono ?_; rintro e w1 ⟨x, t, p, rfl, hb⟩; refine Hid.out ?_) | fail)
          refine Lib.hid ?_
          go_wp2
          go_ret2
          exact num2_none rfl hb
        | some n =>
          have HP2 := Lib.hid (parse_yes HP.out)
          have hn := HSM.out n rfl
          clear HP HSM
          have i5 : IntKind.i64.wrap (n : Int) = (n : Int) := IntWalk.i64_in _ (by omega)
          go_enter Tryz.func178, Tryz.ntmps178
          go_wp2_with (first | (go_at_call 204; refine HP2.out.mono ?_; rintro e w1 ⟨rfl, hb⟩; refine Hid.out ?_) | fail)
          refine Lib.hid ?_
          go_wp2
          go_ret2
          exact num2_some rfl hb
    · have ho2 : o = digsN s.data.toList := by rw [ho]; exact decN_digs _ (by rw [HL.out]; exact h3) (by rw [HL.out]; exact fun h => h1 h.2)
      have HSM : Hid (∀ n, o = some n → n ≤ 999) := fun n hn => digs_small (ho2.symm.trans hn) (by rw [HL.out]; exact h3)
      have HP := Lib.hid (pParse10 s w h3 HE.out)
      rw [← ho2] at HP
      have e2 : ¬ (3 : Int) < (s.size : Int) := by omega
      have e4 : ¬ (1 : Int) < (s.size : Int) := by omega
      clear ho ho2
      cases o with
      | none =>
        have HP2 := Lib.hid (parse_no HP.out)
        clear HP HSM
        go_enter Tryz.func178, Tryz.ntmps178
        go_wp2_with (first | (go_at_call 204; refine HP2.out.mono ?_; rintro e w1 ⟨x, t, p, rfl, hb⟩; refine Hid.out ?_) | fail)
        refine Lib.hid ?_
        go_wp2
        go_ret2
        exact num2_none rfl hb
      | some n =>
        have HP2 := Lib.hid (parse_yes HP.out)
        have hn := HSM.out n rfl
        clear HP HSM
        have i5 : IntKind.i64.wrap (n : Int) = (n : Int) := IntWalk.i64_in _ (by omega)
        go_enter Tryz.func178, Tryz.ntmps178
        go_wp2_with (first | (go_at_call 204; refine HP2.out.mono ?_; rintro e w1 ⟨rfl, hb⟩; refine Hid.out ?_) | fail)
        refine Lib.hid ?_
        go_wp2
        go_ret2
        exact num2_some rfl hb
  · have ho2 := Lib.hid (show o = none by rw [ho]; unfold decN; rw [if_neg (fun h => h3 (by have := h.2.1; rw [HL.out] at this; exact this))])
    have e2 : (3 : Int) < (s.size : Int) := by omega
    clear ho
    go_enter Tryz.func178, Tryz.ntmps178
    go_wp2
    go_ret2
    exact num2_none ho2.out (Below.refl _ _)
end Go.Proofs.YtnehgbpfgehhiaaGreatDoor.Cidr
