/-
  CIDR: a range's form is read as that range; what a text was read as is written in one form: the statement's walk.
-/
import Derived.Test.YtdmajikhpacpfaaDoorCidrOrdW
import Derived.Test.YtdmajikhpacpfaaDoorCidrBackP
namespace Go.Proofs.YtdmajikhpacpfaaDoor.Cidr
open Go.RowKit Base
theorem wpList_neq_g {ops : Array Oper} {rest : List Oper} {op : Oper} {a : Act} {w : World} {Q : Exit → Act → World → Prop} (hgd : Region.wanted op (yielded ops a.tmps) = true) (s t : Operand) (r : TypeId) (ho : op.op = .binOp .neq 25 s t r)
    (x y : NetM) (hs : a.eval s = netV x) (ht : a.eval t = netV y) (hx : x.a.length = 16) (hy : y.a.length = 16)
    (h : wpList Tryd.prog ops Q rest (a.put op.dst (.bool (!decide (x = y)))) w) : wpList Tryd.prog ops Q (op :: rest) a w := by
  show (if Region.wanted op (yielded ops a.tmps) then _ else _)
  rw [if_pos hgd]
  refine Or.inl ?_
  unfold Oper.wp
  rw [exec_neqNet ho hs ht hx hy w]
  exact h
theorem show_yes {f : FuncId} {args : Array Value} {w : World} {l : List UInt8} (h : Calls Tryd.prog f args w (ShowEnd (some l) w)) : Calls Tryd.prog f args w fun e w' => e = .returned (.tuple #[.string ⟨l.toArray⟩, .int .i64 0]) ∧ Below w.heap.size w w' :=
  h.mono fun e w' h => by
    rcases h with ⟨hb, ⟨h1, _⟩ | ⟨l2, h1, h2⟩⟩
    · cases h1
    · cases h1; exact ⟨h2, hb⟩
theorem show_no {f : FuncId} {args : Array Value} {w : World} (h : Calls Tryd.prog f args w (ShowEnd none w)) : Calls Tryd.prog f args w fun e w' => e = .returned (.tuple #[.string ⟨#[]⟩, .int .i64 70]) ∧ Below w.heap.size w w' :=
  h.mono fun e w' h => by
    rcases h with ⟨hb, ⟨_, h2⟩ | ⟨l2, h1, _⟩⟩
    · exact ⟨h2, hb⟩
    · cases h1
set_option maxHeartbeats 4000000 in
set_option maxRecDepth 100000 in
theorem back_law (n : NetM) (s : ByteArray) (ha : n.a.length = 16) (hs : s.size ≤ 140737488351232) (w : World) (he : EnvS w) : Calls Tryd.prog 6 #[netV n, .string s] w fun e w' => e = .returned (.bool true) ∧ Below w.heap.size w w' := by
  have HSH := Lib.hid (fun wx hx => shown_any wx hx)
  have HS0 := Lib.hid (size25_of ha)
  have HC0 := Lib.hid (size25c ha)
  have HA0 := Lib.hid ha
  have HN0 := Lib.hid (NetAt.new w n)
  have HB0 := Lib.hid (Below.alloc1 w (.cells (netC n) 25))
  have HW := Lib.hid he
  have HPN := Lib.hid (fun wx (hx : EnvS wx) => pShow n ha wx hx)
  have HPS := Lib.hid (fun wx (hx : EnvS wx) => pParse s wx (by omega) hx.env)
  clear he hs
  cases hsn : showN n with
  | none =>
    rw [hsn] at HPN
    have K1 : Hid (∀ wx, EnvS wx → Calls Tryd.prog 17 #[netV n] wx fun e w' => e = .returned (.tuple #[.string ⟨#[]⟩, .int .i64 70]) ∧ Below wx.heap.size wx w') := fun wx hx => show_no (HPN.out wx hx)
    clear hsn HPN HPS ha
    go_enter Tryd.func6, Tryd.ntmps6
    go_wp2_with (first | (go_at_call 8; refine (HSH.out _ (HW.out.on HB0.out)).mono ?_; rintro e w1 ⟨rfl, b1⟩; refine Hid.out ?_) | fail)
    refine Lib.hid ?_
    replace HN0 := Lib.hid (HN0.out.on b1)
    have HB1 : Hid (Below w.heap.size w w1) := HB0.out.trans (b1.mono HB0.out.size)
    clear b1
    go_wp2_with (first | (refine wpList_load_mid rfl 25 (.tmp 2) rfl w.heap.size 0 rfl (netL n) _ HN0.out.range0 Tryd.underlying25 rfl HS0.out ?_) | (go_at_call 17; refine (K1.out _ (HW.out.on HB1.out)).mono ?_; rintro e w2 ⟨rfl, b1⟩; refine Hid.out ?_) | fail)
    refine Lib.hid ?_
    replace HN0 := Lib.hid (HN0.out.on b1)
    have HB2 : Hid (Below w.heap.size w w2) := HB1.out.trans (b1.mono HB1.out.size)
    clear b1
    go_wp2
    go_ret
    exact ⟨rfl, HB2.out⟩
  | some l =>
    obtain ⟨hr, hp⟩ := show_parse ha hsn
    have hll := show_len hsn
    have K1 : Hid (∀ wx, EnvS wx → Calls Tryd.prog 17 #[netV n] wx fun e w' => e = .returned (.tuple #[.string ⟨l.toArray⟩, .int .i64 0]) ∧ Below wx.heap.size wx w') := fun wx hx => show_yes (by have := HPN.out wx hx; rw [hsn] at this; exact this)
    have K2 : Hid (∀ wx, EnvS wx → Calls Tryd.prog 11 #[.string ⟨l.toArray⟩] wx fun e w' => e = .returned (.tuple #[netV n, .int .i64 0]) ∧ Below wx.heap.size wx w') := fun wx hx => (addr_yes (n := n) (by have := pParse ⟨l.toArray⟩ wx (by rw [arr_size]; omega) hx.env; rw [hp] at this; exact this)).mono fun e w' h => h.2
    generalize (⟨l.toArray⟩ : ByteArray) = T at K1 K2
    clear hr hp hll hsn HPN ha
    cases hps : parseN s with
    | none =>
      rw [hps] at HPS
      have K3 : Hid (∀ wx, EnvS wx → Calls Tryd.prog 11 #[.string s] wx fun e w' => e = .returned (.tuple #[netV zeroN, .int .i64 70]) ∧ Below wx.heap.size wx w') := fun wx hx => addr_no (HPS.out wx hx)
      obtain ⟨z, hz⟩ : ∃ z, z = zeroN := ⟨_, rfl⟩
      have HA2 : Hid (z.a.length = 16) := by rw [hz]; exact rfl
      rw [← hz] at K3
      have HC2 := Lib.hid (size25c HA2.out)
      clear hz HPS hps
      go_enter Tryd.func6, Tryd.ntmps6
      go_wp2_with (first | (go_at_call 8; refine (HSH.out _ (HW.out.on HB0.out)).mono ?_; rintro e w1 ⟨rfl, b1⟩; refine Hid.out ?_) | fail)
      refine Lib.hid ?_
      replace HN0 := Lib.hid (HN0.out.on b1)
      have HB1 : Hid (Below w.heap.size w w1) := HB0.out.trans (b1.mono HB0.out.size)
      clear b1
      go_wp2_with (first | (refine wpList_load_mid rfl 25 (.tmp 2) rfl w.heap.size 0 rfl (netL n) _ HN0.out.range0 Tryd.underlying25 rfl HS0.out ?_) | (go_at_call 17; refine (K1.out _ (HW.out.on HB1.out)).mono ?_; rintro e w2 ⟨rfl, b1⟩; refine Hid.out ?_) | fail)
      refine Lib.hid ?_
      replace HN0 := Lib.hid (HN0.out.on b1)
      have HB2 : Hid (Below w.heap.size w w2) := HB1.out.trans (b1.mono HB1.out.size)
      clear b1
      go_wp2_with (first | (go_at_call 11; refine (K2.out _ (HW.out.on HB2.out)).mono ?_; rintro e w3 ⟨rfl, b1⟩; refine Hid.out ?_) | fail)
      refine Lib.hid ?_
      replace HN0 := Lib.hid (HN0.out.on b1)
      have HB3 : Hid (Below w.heap.size w w3) := HB2.out.trans (b1.mono HB2.out.size)
      clear b1
      have HT := Lib.hid (there_net (NetAt.new w3 zeroN) rfl HA0.out)
      go_wp2_with (first | (refine wpList_store_mid rfl 25 (.tmp 8) (.tmp 34) rfl w3.heap.size 0 (netC n) rfl rfl HT.out HC0.out (netC_all _) ?_; generalize hw3 : World.setCells _ _ _ _ = w4; refine Hid.out ?_) | fail)
      refine Lib.hid ?_
      obtain ⟨hn3, b1⟩ := net_new HA0.out hw3
      clear hw3 HT
      replace HN0 := Lib.hid (HN0.out.on b1)
      have HB4 : Hid (Below w.heap.size w w4) := HB3.out.trans (b1.mono HB3.out.size)
      have HN1 := Lib.hid hn3
      clear b1 hn3
      go_wp2_with (first | (refine wpList_load_g (by rfl) 25 (.tmp 8) rfl w3.heap.size 0 rfl (netL n) _ HN1.out.range0 Tryd.underlying25 rfl HS0.out ?_) | (refine wpList_load_g (by rfl) 25 (.tmp 2) rfl w.heap.size 0 rfl (netL n) _ HN0.out.range0 Tryd.underlying25 rfl HS0.out ?_) | (refine wpList_neq_g (by rfl) (.tmp 39) (.tmp 40) 25 rfl n n rfl rfl HA0.out HA0.out ?_; rw [show (!decide (n = n)) = false by simp]; refine Hid.out ?_) | fail)
      refine Lib.hid ?_
      go_wp2_with (first | (go_at_call 11; refine (K3.out _ (HW.out.on HB4.out)).mono ?_; rintro e w5 ⟨rfl, b1⟩; refine Hid.out ?_) | fail)
      refine Lib.hid ?_
      have HB5 : Hid (Below w.heap.size w w5) := HB4.out.trans (b1.mono HB4.out.size)
      clear b1
      have HT := Lib.hid (there_net (NetAt.new w5 zeroN) rfl HA2.out)
      go_wp2_with (first | (refine wpList_store_mid rfl 25 (.tmp 10) (.tmp 46) rfl w5.heap.size 0 (netC z) rfl rfl HT.out HC2.out (netC_all _) ?_; generalize hw3 : World.setCells _ _ _ _ = w6; refine Hid.out ?_) | fail)
      refine Lib.hid ?_
      obtain ⟨hn3, b1⟩ := net_new HA2.out hw3
      clear hw3 HT
      have HB6 : Hid (Below w.heap.size w w6) := HB5.out.trans (b1.mono HB5.out.size)
      have HN2 := Lib.hid hn3
      clear b1 hn3
      go_wp2
      go_ret
      exact ⟨rfl, HB6.out⟩
    | some x =>
      rw [hps] at HPS
      have K3 : Hid (∀ wx, EnvS wx → Calls Tryd.prog 11 #[.string s] wx fun e w' => x.a.length = 16 ∧ e = .returned (.tuple #[netV x, .int .i64 0]) ∧ Below wx.heap.size wx w') := fun wx hx => addr_yes (HPS.out wx hx)
      obtain ⟨l2, hl2⟩ := right_show (parse_right hps)
      have K4 : Hid (∀ wx, x.a.length = 16 → EnvS wx → Calls Tryd.prog 17 #[netV x] wx fun e w' => e = .returned (.tuple #[.string ⟨l2.toArray⟩, .int .i64 0]) ∧ Below wx.heap.size wx w') := fun wx hxa hx => show_yes (by have := pShow x hxa wx hx; rw [hl2] at this; exact this)
      have hll2 := show_len hl2
      have K5 : Hid (∀ wx, x.a.length = 16 → EnvS wx → Calls Tryd.prog 11 #[.string ⟨l2.toArray⟩] wx fun e w' => e = .returned (.tuple #[netV x, .int .i64 0]) ∧ Below wx.heap.size wx w') := fun wx hxa hx => (addr_yes (n := x) (by have := pParse ⟨l2.toArray⟩ wx (by rw [arr_size]; omega) hx.env; rw [(show_parse hxa hl2).2] at this; exact this)).mono fun e w' h => h.2
      generalize (⟨l2.toArray⟩ : ByteArray) = U at K4 K5
      clear HPS hps hl2 hll2
      go_enter Tryd.func6, Tryd.ntmps6
      go_wp2_with (first | (go_at_call 8; refine (HSH.out _ (HW.out.on HB0.out)).mono ?_; rintro e w1 ⟨rfl, b1⟩; refine Hid.out ?_) | fail)
      refine Lib.hid ?_
      replace HN0 := Lib.hid (HN0.out.on b1)
      have HB1 : Hid (Below w.heap.size w w1) := HB0.out.trans (b1.mono HB0.out.size)
      clear b1
      go_wp2_with (first | (refine wpList_load_mid rfl 25 (.tmp 2) rfl w.heap.size 0 rfl (netL n) _ HN0.out.range0 Tryd.underlying25 rfl HS0.out ?_) | (go_at_call 17; refine (K1.out _ (HW.out.on HB1.out)).mono ?_; rintro e w2 ⟨rfl, b1⟩; refine Hid.out ?_) | fail)
      refine Lib.hid ?_
      replace HN0 := Lib.hid (HN0.out.on b1)
      have HB2 : Hid (Below w.heap.size w w2) := HB1.out.trans (b1.mono HB1.out.size)
      clear b1
      go_wp2_with (first | (go_at_call 11; refine (K2.out _ (HW.out.on HB2.out)).mono ?_; rintro e w3 ⟨rfl, b1⟩; refine Hid.out ?_) | fail)
      refine Lib.hid ?_
      replace HN0 := Lib.hid (HN0.out.on b1)
      have HB3 : Hid (Below w.heap.size w w3) := HB2.out.trans (b1.mono HB2.out.size)
      clear b1
      have HT := Lib.hid (there_net (NetAt.new w3 zeroN) rfl HA0.out)
      go_wp2_with (first | (refine wpList_store_mid rfl 25 (.tmp 8) (.tmp 34) rfl w3.heap.size 0 (netC n) rfl rfl HT.out HC0.out (netC_all _) ?_; generalize hw3 : World.setCells _ _ _ _ = w4; refine Hid.out ?_) | fail)
      refine Lib.hid ?_
      obtain ⟨hn3, b1⟩ := net_new HA0.out hw3
      clear hw3 HT
      replace HN0 := Lib.hid (HN0.out.on b1)
      have HB4 : Hid (Below w.heap.size w w4) := HB3.out.trans (b1.mono HB3.out.size)
      have HN1 := Lib.hid hn3
      clear b1 hn3
      go_wp2_with (first | (refine wpList_load_g (by rfl) 25 (.tmp 8) rfl w3.heap.size 0 rfl (netL n) _ HN1.out.range0 Tryd.underlying25 rfl HS0.out ?_) | (refine wpList_load_g (by rfl) 25 (.tmp 2) rfl w.heap.size 0 rfl (netL n) _ HN0.out.range0 Tryd.underlying25 rfl HS0.out ?_) | (refine wpList_neq_g (by rfl) (.tmp 39) (.tmp 40) 25 rfl n n rfl rfl HA0.out HA0.out ?_; rw [show (!decide (n = n)) = false by simp]; refine Hid.out ?_) | fail)
      refine Lib.hid ?_
      go_wp2_with (first | (go_at_call 11; refine (K3.out _ (HW.out.on HB4.out)).mono ?_; rintro e w5 ⟨hxa, rfl, b1⟩; refine Hid.out ?_) | fail)
      refine Lib.hid ?_
      have HB5 : Hid (Below w.heap.size w w5) := HB4.out.trans (b1.mono HB4.out.size)
      clear b1
      have HA2 := Lib.hid hxa
      have HC2 := Lib.hid (size25c hxa)
      have HS2 := Lib.hid (size25_of hxa)
      clear hxa
      have HT := Lib.hid (there_net (NetAt.new w5 zeroN) rfl HA2.out)
      go_wp2_with (first | (refine wpList_store_mid rfl 25 (.tmp 10) (.tmp 46) rfl w5.heap.size 0 (netC x) rfl rfl HT.out HC2.out (netC_all _) ?_; generalize hw3 : World.setCells _ _ _ _ = w6; refine Hid.out ?_) | fail)
      refine Lib.hid ?_
      obtain ⟨hn3, b1⟩ := net_new HA2.out hw3
      clear hw3 HT
      have HB6 : Hid (Below w.heap.size w w6) := HB5.out.trans (b1.mono HB5.out.size)
      have HN2 := Lib.hid hn3
      clear b1 hn3
      go_wp2_with (first | (refine wpList_load_mid rfl 25 (.tmp 10) rfl w5.heap.size 0 rfl (netL x) _ HN2.out.range0 Tryd.underlying25 rfl HS2.out ?_) | (go_at_call 17; refine (K4.out _ HA2.out (HW.out.on HB6.out)).mono ?_; rintro e w7 ⟨rfl, b1⟩; refine Hid.out ?_) | fail)
      refine Lib.hid ?_
      replace HN2 := Lib.hid (HN2.out.on b1)
      have HB7 : Hid (Below w.heap.size w w7) := HB6.out.trans (b1.mono HB6.out.size)
      clear b1
      go_wp2_with (first | (go_at_call 11; refine (K5.out _ HA2.out (HW.out.on HB7.out)).mono ?_; rintro e w8 ⟨rfl, b1⟩; refine Hid.out ?_) | fail)
      refine Lib.hid ?_
      replace HN2 := Lib.hid (HN2.out.on b1)
      have HB8 : Hid (Below w.heap.size w w8) := HB7.out.trans (b1.mono HB7.out.size)
      clear b1
      have HT := Lib.hid (there_net (NetAt.new w8 zeroN) rfl HA2.out)
      go_wp2_with (first | (refine wpList_store_mid rfl 25 (.tmp 14) (.tmp 58) rfl w8.heap.size 0 (netC x) rfl rfl HT.out HC2.out (netC_all _) ?_; generalize hw3 : World.setCells _ _ _ _ = w9; refine Hid.out ?_) | fail)
      refine Lib.hid ?_
      obtain ⟨hn3, b1⟩ := net_new HA2.out hw3
      clear hw3 HT
      replace HN2 := Lib.hid (HN2.out.on b1)
      have HB9 : Hid (Below w.heap.size w w9) := HB8.out.trans (b1.mono HB8.out.size)
      have HN3 := Lib.hid hn3
      clear b1 hn3
      go_wp2_with (first | (refine wpList_load_mid rfl 25 (.tmp 14) rfl w8.heap.size 0 rfl (netL x) _ HN3.out.range0 Tryd.underlying25 rfl HS2.out ?_) | (go_at_call 17; refine (K4.out _ HA2.out (HW.out.on HB9.out)).mono ?_; rintro e w10 ⟨rfl, b1⟩; refine Hid.out ?_) | fail)
      refine Lib.hid ?_
      replace HN2 := Lib.hid (HN2.out.on b1)
      replace HN3 := Lib.hid (HN3.out.on b1)
      have HB10 : Hid (Below w.heap.size w w10) := HB9.out.trans (b1.mono HB9.out.size)
      clear b1
      go_wp2_with (first | (refine wpList_load_g (by rfl) 25 (.tmp 14) rfl w8.heap.size 0 rfl (netL x) _ HN3.out.range0 Tryd.underlying25 rfl HS2.out ?_) | (refine wpList_load_g (by rfl) 25 (.tmp 10) rfl w5.heap.size 0 rfl (netL x) _ HN2.out.range0 Tryd.underlying25 rfl HS2.out ?_) | (refine wpList_eql_g (by rfl) (.tmp 72) (.tmp 73) 25 rfl x x rfl rfl HA2.out HA2.out ?_; rw [show decide (x = x) = true by simp]; refine Hid.out ?_) | fail)
      refine Lib.hid ?_
      go_wp2
      go_ret
      exact ⟨rfl, HB10.out⟩
end Go.Proofs.YtdmajikhpacpfaaDoor.Cidr
