/-
  HEADER, the program: where the fields end: the walk.
-/
import Derived.Test.YtnogpoojhhmadaaDoorHpEnds
namespace Go.Proofs.YtnogpoojhhmadaaDoor.Header
open Go.RowKit Base
theorem cont_step {l : List UInt8} {a : Nat} (h : a < l.length) (hb : isBl (l.getD a 0) = true) : contE l l.length a = contE l l.length (lineOf l a).2 := by
  have hlb := line_bounds h
  obtain ⟨n, hn⟩ : ∃ n, l.length = n + 1 := ⟨l.length - 1, by omega⟩
  conv => lhs; rw [hn, contE, if_pos ⟨h, hb⟩]
  exact cont_fuel l n l.length _ (by omega) (by omega)
theorem cont_done {l : List UInt8} {a : Nat} (h : ¬ (a < l.length ∧ isBl (l.getD a 0) = true)) : contE l l.length a = a := by
  cases hl : l.length with
  | zero => rfl
  | succ n => rw [contE, if_neg h]
theorem ends_fuel (l : List UInt8) : ∀ (n m a : Nat), a ≤ l.length → l.length ≤ a + n → l.length ≤ a + m → endsP l n a = endsP l m a
  | 0, 0, _, _, _, _ => rfl
  | 0, m + 1, a, _, h, _ => by
    rw [endsP, endsP, if_neg]
    rw [List.drop_eq_nil_of_le (by omega)]
    show ¬ 0 < 0
    omega
  | n + 1, 0, a, _, _, h => by
    rw [endsP, endsP, if_neg]
    rw [List.drop_eq_nil_of_le (by omega)]
    show ¬ 0 < 0
    omega
  | n + 1, m + 1, a, h0, h1, h2 => by
    rw [endsP, endsP]
    split
    · rename_i hz
      have hlt : a < l.length := by have := (nsz_facts hz).1; rw [List.length_drop] at this; omega
      have hb := line_bounds hlt
      have hc := cont_le l l.length (lineOf l a).2 hb.2.2.1
      rw [ends_fuel l n m _ hc.2 (by omega) (by omega)]
    · rfl
theorem ends_step {l : List UInt8} {a : Nat} (hz : 0 < nsz (l.drop a)) : endsP l l.length a = contE l l.length (lineOf l a).2 :: endsP l l.length (contE l l.length (lineOf l a).2) := by
  have hlt : a < l.length := by have := (nsz_facts hz).1; rw [List.length_drop] at this; omega
  have hb := line_bounds hlt
  have hc := cont_le l l.length (lineOf l a).2 hb.2.2.1
  obtain ⟨n, hn⟩ : ∃ n, l.length = n + 1 := ⟨l.length - 1, by omega⟩
  conv => lhs; rw [hn, endsP, if_pos hz]
  rw [ends_fuel l n l.length _ hc.2 (by omega) (by omega)]
theorem ends_done {l : List UInt8} {a : Nat} (hz : nsz (l.drop a) = 0) : endsP l l.length a = [] := by
  cases hl : l.length with
  | zero => rfl
  | succ n => rw [endsP, if_neg (by omega)]
theorem reads_from {w : World} {b o c a : Nat} {l : List UInt8} (h : Reads w (.slice (some ⟨b, o, none⟩) l.length c) l) (hc : l.length ≤ c) (ha : a < l.length) : Reads w (.slice (some ⟨b, o + a, none⟩) (l.length - a) (c - a)) (l.drop a) := by
  have := Base.Reads.tail h (at_ := a) (by omega)
  rw [if_neg (by omega)] at this
  simpa [Addr.add_lit] using this
/-- Whole numbers in a row of the call's own. -/
def OwnsI (w : World) (B : Nat) (v : Value) (T : List Nat) : Prop := w.ownsRow B 3 1 v T.length (T.map fun k : Nat => Value.int .i64 (k : Int))
theorem OwnsI.on {w w' : World} {B : Nat} {v : Value} {T : List Nat} (h : OwnsI w B v T) (hb : Below w.heap.size w w') : OwnsI w' B v T := by
  refine ⟨h.1, ?_⟩
  rcases h.2 with hn | ⟨g, cap, cur, rfl, h1, h2, h3⟩
  · exact Or.inl hn
  · exact Or.inr ⟨g, cap, cur, rfl, h1, by rw [hb.block g (heap_lt h2)]; exact h2, h3⟩
theorem infoI : (Tryd.prog.info? 3).map (fun i => (i.zero, i.size, i.bytes)) = some (some (.int .i64 0), 1, 8) := by kernel_rfl
theorem wp_addI {wr : World} {B : Nat} {v : Value} {ws : List Nat} {ops : Array Oper} {rest : List Oper} {o : Oper} {a : Act} {Q : Exit → Act → World → Prop} (hgd : o.guard = none) (s y : Operand) (ho : o.op = .call { callee := .builtin .append, args := #[s, y], argTypes := #[46, 46] })
    (h : OwnsI wr B v ws) (hn : ws.length ≤ 1000000000001) (hB : B ≤ wr.heap.size) (p : Nat) (hs : a.eval s = v) (hx : a.eval y = .slice (some ⟨wr.heap.size, 0, none⟩) 1 1)
    (hK : ∀ v' w', OwnsI w' B v' (ws ++ [p]) → Below B wr w' → wpList Tryd.prog ops Q rest (a.put o.dst v') w') :
    wpList Tryd.prog ops Q (o :: rest) a (wr.alloc (.cells #[.int .i64 (p : Int)] 3)) := by
  obtain ⟨i0, hi, hz0, hz1, hz2⟩ := info_parts infoI
  have h1 := h.on (Below.alloc1 wr (.cells #[.int .i64 (p : Int)] 3))
  have hB1 : B ≤ (wr.alloc (.cells #[.int .i64 (p : Int)] 3)).heap.size := Nat.le_trans hB (Below.alloc1 wr _).size
  refine wpList_append_row _ hgd s y 46 ho B 3 i0 (.int .i64 0) 8 Tryd.underlying46 hi hz0 hz1 hz2 rfl v _ ws.length (ws.map fun k : Nat => Value.int .i64 (k : Int)) [.int .i64 (p : Int)] hs hx h1 (vreads_one _ _ _) (fun u hu => by rw [List.mem_singleton.1 hu]; rfl) (by rw [List.length_singleton]; omega) (by rw [List.length_singleton]; omega) hB1 (fun v' w' o2 g2 a2 => ?_)
  refine hK v' w' ?_ (((Below.alloc1 wr _).mono hB).trans ((Below.refl _ _).grown g2 hB1 (fun k hk => (World.ownsRow.lt h1 k hk).1)))
  unfold OwnsI
  rw [List.length_append, List.map_append]
  exact o2
def EndsEnd (l : List UInt8) (w : World) (e : Ending) (w' : World) : Prop := ∃ v, e = .returned v ∧ OwnsI w' w.heap.size v (endsP l l.length 0) ∧ Below w.heap.size w w'
theorem bl_int (x : UInt8) : decide ((x.toNat : Int) = 32 ∨ (x.toNat : Int) = 9) = isBl x := by
  unfold isBl
  rw [decide_eq_decide]
  omega
set_option maxHeartbeats 8000000 in
set_option maxRecDepth 100000 in
theorem pEnds1 (b o c : Nat) (l : List UInt8) (w : World) (hr : Reads w (.slice (some ⟨b, o, none⟩) l.length c) l) (hl : l.length ≤ 4000000000) (hcc : l.length ≤ c) (he : Env w) : Calls Tryd.prog 25 #[.slice (some ⟨b, o, none⟩) l.length c] w (EndsEnd l w) := by
  have HR := Lib.hid hr
  have HE := Lib.hid he
  obtain ⟨fin, hfin⟩ : ∃ fin, fin = endsP l l.length 0 := ⟨_, rfl⟩
  have HF0 : Hid (endsP l l.length 0 = fin) := hfin.symm
  have HZ0 : Hid ([] ++ endsP l l.length 0 = fin) := hfin.symm
  have HO0 : Hid (OwnsI w w.heap.size (.slice none 0 0) []) := World.ownsRow_nil _ _ _ _
  clear hfin hr he
  go_enter Tryd.func25, Tryd.ntmps25
  go_wp2
  go_loopw [3, 4] (fun ev i wr => ∃ (a : Nat) (v : Value) (T : List Nat), a ≤ l.length ∧ i = .int .i64 (a : Int) ∧ ev = v ∧ Hid (OwnsI wr w.heap.size v T) ∧ Hid (T ++ endsP l l.length a = fin) ∧ Hid (Below w.heap.size w wr) ∧ Hid (T.length ≤ a)) (fun _ i _ => l.length - (intOf i).toNat)
  case atStart => exact ⟨0, _, [], Nat.zero_le _, rfl, rfl, HO0, HZ0, Below.refl _ _, Nat.le_refl 0⟩
  case round =>
    clear HZ0 HO0
    obtain ⟨a, v, T, ha, rfl, hev, HO, HF, HB, HT⟩ := hrel
    obtain rfl : v = _ := hev.symm
    have i0 : (0 : Int) ≤ (a : Int) := by omega
    have i1 : (a : Int) ≤ (l.length : Int) := by omega
    by_cases hlt : a < l.length
    · have i2 : (a : Int) < (l.length : Int) := by omega
      have hrf := reads_from (HR.out.on HB.out) hcc hlt
      have HN := Lib.hid (pNsz (some ⟨b, o + a, none⟩) (l.length - a) (c - a) (l.drop a) wr hrf (by rw [List.length_drop]) (by rw [List.length_drop]; omega))
      have HS := Lib.hid (pLsz (some ⟨b, o + a, none⟩) (l.length - a) (c - a) (l.drop a) wr hrf (by rw [List.length_drop]; omega) (HE.out.on HB.out))
      by_cases hz : 0 < nsz (l.drop a)
      · have j1 : (0 : Int) < (nsz (l.drop a) : Int) := by omega
        have hbd := line_bounds hlt
        have HES := Lib.hid (ends_step hz)
        have HXE : Hid ((a : Int) + ((lineL (l.drop a)).2 : Int) = ((lineOf l a).2 : Int)) := by show _ = _; unfold lineOf; simp
        have HCL := Lib.hid (cont_le l l.length (lineOf l a).2 hbd.2.2.1)
        obtain ⟨x, hx⟩ : ∃ x, x = (lineOf l a).2 := ⟨_, rfl⟩
        rw [← hx] at HES HXE hbd HCL
        have hx1 : x ≤ l.length := hbd.2.2.1
        have hx2 : a < x := hbd.2.2.2
        have HXR : Hid (IntKind.i64.wrap ((a : Int) + ((lineL (l.drop a)).2 : Int)) = (x : Int)) := by show _ = _; rw [HXE.out]; exact IntWalk.i64_in _ (by omega)
        clear hz hbd hrf hx
        generalize hns : nsz (l.drop a) = ns at HN j1
        generalize hll : (lineL (l.drop a)).2 = ll at HXE HXR
        have HS2 : Hid (Calls Tryd.prog 41 #[.slice (some ⟨b, o + a, none⟩) (l.length - a) (c - a)] wr fun e w' => e = .returned (.int .i64 (ll : Int)) ∧ Below wr.heap.size wr w') := by have := HS.out; unfold SizeEnd at this; rw [hll] at this; exact this
        have wl : IntKind.i64.wrap ((a : Int) + (ll : Int)) = (x : Int) := HXR.out
        clear hns hll HS HXE
        go_wp2_with (first | (go_at_call 40; refine HN.out.mono ?_; rintro e w' ⟨rfl, rfl⟩; refine Hid.out ?_) | fail)
        refine Lib.hid ?_
        go_wp2_with (first | (go_at_call 41; refine HS2.out.mono ?_; rintro e w1 ⟨rfl, hb1⟩; refine Hid.out ?_) | fail)
        refine Lib.hid ?_
        have HO1 : Hid (OwnsI w1 w.heap.size v T) := HO.out.on hb1
        have HB1 : Hid (Below w.heap.size w w1) := HB.out.trans (hb1.mono HB.out.size)
        clear hb1 HN HS2 HO
        obtain ⟨B, hB⟩ : ∃ B, B = contE l l.length x := ⟨_, rfl⟩
        have HBE : Hid (contE l l.length x = B) := hB.symm
        have HB2 : Hid (x ≤ B ∧ B ≤ l.length) := by rw [← HBE.out] at *; exact HCL
        have HF2 : Hid (T ++ [B] ++ endsP l l.length B = fin) := by
          show _ = _
          rw [← HF.out, HES.out, HBE.out]; simp
        clear hB HES HCL HF
        go_wp2
        go_loopw [4] (fun i wr => ∃ (a' : Nat), x ≤ a' ∧ a' ≤ l.length ∧ i = .int .i64 (a' : Int) ∧ Hid (OwnsI wr w.heap.size v T) ∧ Hid (contE l l.length a' = B) ∧ Hid (Below w.heap.size w wr)) (fun i _ => l.length - (intOf i).toNat)
        case atStart => exact ⟨x, Nat.le_refl _, hx1, rfl, HO1, HBE, HB1⟩
        case round =>
          clear HO1 HBE HB1
          obtain ⟨a', hxa, ha', rfl, HO2, HBE2, HBB⟩ := hrel
          have k0 : (0 : Int) ≤ (a' : Int) := by omega
          have k1 : (a' : Int) ≤ (l.length : Int) := by omega
          by_cases hlt2 : a' < l.length
          · have k2 : (a' : Int) < (l.length : Int) := by omega
            have hrd := HR.out.on HBB.out
            obtain ⟨b', o', hbo, _, _, hcell⟩ := reads_cells hrd (i := a') hlt2
            cases hbo
            have c0 := hcell a' hlt2
            have HBL := Lib.hid (pBlank ((l.getD a' 0).toNat : Int) wr)
            have k3 : (a' : Int) ≤ (c : Int) := by omega
            cases hbl : isBl (l.getD a' 0)
            · have HDN : Hid (a' = B) := by show _ = _; rw [← HBE2.out, cont_done (by rw [hbl]; simp)]
              have HBL2 : Hid (Calls Tryd.prog 42 #[.int .i32 ((l.getD a' 0).toNat : Int)] wr fun e w' => e = .returned (.bool false) ∧ wr = w') := by have := HBL.out; rw [bl_int, hbl] at this; exact this
              have hByte : ((l.getD a' 0).toNat : Int) < 256 := by have := (l.getD a' 0).toNat_lt; omega
              clear hcell hbl HBL hrd
              generalize (l.getD a' 0).toNat = cb at c0 HBL2 hByte
              go_wp2_with (first | (go_at_call 42; refine HBL2.out.mono ?_; rintro e w' ⟨rfl, rfl⟩; refine Hid.out ?_) | fail)
              refine Lib.hid ?_
              have HTN : Hid (T.length ≤ 1000000000001) := by show _ ≤ _; have := HT.out; omega
              have HSZ : Hid (w.heap.size ≤ wr.heap.size) := HBB.out.size
              go_wp2_with (first | (at_builtin; go_must (refine wp_addI rfl _ _ rfl HO2.out HTN.out HSZ.out a' rfl rfl ?_); intro v2 w2 own2 b2; refine Hid.out ?_) | fail)
              refine Lib.hid ?_
              have HO3 : Hid (OwnsI w2 w.heap.size v2 (T ++ [a'])) := own2
              have HB3 : Hid (Below w.heap.size w w2) := HBB.out.trans b2
              have HF3 : Hid ((T ++ [a']) ++ endsP l l.length a' = fin) := by show _ = _; rw [HDN.out]; exact HF2.out
              have HT3 : Hid ((T ++ [a']).length ≤ a') := by show _ ≤ _; rw [List.length_append, List.length_singleton]; have := HT.out; omega
              clear own2 b2 HO2 HBB
              go_wp2
              go_roundw
              case rel => exact ⟨a', v2, T ++ [a'], ha', rfl, rfl, HO3, HF3, HB3, HT3⟩
              case measure => simp [intOf]; omega
            · have hb2 := line_bounds hlt2
              have HCS : Hid (contE l l.length (lineOf l a').2 = B) := by show _ = _; rw [← HBE2.out, cont_step hlt2 hbl]
              have HXE : Hid ((a' : Int) + ((lineL (l.drop a')).2 : Int) = ((lineOf l a').2 : Int)) := by show _ = _; unfold lineOf; simp
              have HBL2 : Hid (Calls Tryd.prog 42 #[.int .i32 ((l.getD a' 0).toNat : Int)] wr fun e w' => e = .returned (.bool true) ∧ wr = w') := by have := HBL.out; rw [bl_int, hbl] at this; exact this
              have hByte : ((l.getD a' 0).toNat : Int) < 256 := by have := (l.getD a' 0).toNat_lt; omega
              have HS3 := Lib.hid (pLsz (some ⟨b, o + a', none⟩) (l.length - a') (c - a') (l.drop a') wr (reads_from hrd hcc hlt2) (by rw [List.length_drop]; omega) (HE.out.on HBB.out))
              obtain ⟨y, hy⟩ : ∃ y, y = (lineOf l a').2 := ⟨_, rfl⟩
              rw [← hy] at HCS HXE hb2
              have hy1 : y ≤ l.length := hb2.2.2.1
              have hy2 : a' < y := hb2.2.2.2
              have HXR : Hid (IntKind.i64.wrap ((a' : Int) + ((lineL (l.drop a')).2 : Int)) = (y : Int)) := by show _ = _; rw [HXE.out]; exact IntWalk.i64_in _ (by omega)
              generalize hll : (lineL (l.drop a')).2 = ll at HXE HXR
              have HS4 : Hid (Calls Tryd.prog 41 #[.slice (some ⟨b, o + a', none⟩) (l.length - a') (c - a')] wr fun e w' => e = .returned (.int .i64 (ll : Int)) ∧ Below wr.heap.size wr w') := by have := HS3.out; unfold SizeEnd at this; rw [hll] at this; exact this
              have wl2 : IntKind.i64.wrap ((a' : Int) + (ll : Int)) = (y : Int) := HXR.out
              clear hll HS3 HXE HXR hy hb2 hcell hbl HBL hrd wl
              generalize (l.getD a' 0).toNat = cb at c0 HBL2 hByte
              go_wp2_with (first | (go_at_call 42; refine HBL2.out.mono ?_; rintro e w' ⟨rfl, rfl⟩; refine Hid.out ?_) | fail)
              refine Lib.hid ?_
              go_wp2_with (first | (go_at_call 41; refine HS4.out.mono ?_; rintro e w3 ⟨rfl, hb3⟩; refine Hid.out ?_) | fail)
              refine Lib.hid ?_
              have HO4 : Hid (OwnsI w3 w.heap.size v T) := HO2.out.on hb3
              have HB4 : Hid (Below w.heap.size w w3) := HBB.out.trans (hb3.mono HBB.out.size)
              clear hb3 HBL2 HS4 HO2 HBB
              go_wp2
              go_roundw
              case rel => exact ⟨y, by omega, hy1, rfl, HO4, HCS, HB4⟩
              case measure => simp [intOf]; omega
          · have k2 : ¬ (a' : Int) < (l.length : Int) := by omega
            have HDN : Hid (a' = B) := by show _ = _; rw [← HBE2.out, cont_done (fun h => hlt2 h.1)]
            have HTN : Hid (T.length ≤ 1000000000001) := by show _ ≤ _; have := HT.out; omega
            have HSZ : Hid (w.heap.size ≤ wr.heap.size) := HBB.out.size
            go_wp2_with (first | (at_builtin; go_must (refine wp_addI rfl _ _ rfl HO2.out HTN.out HSZ.out a' rfl rfl ?_); intro v2 w2 own2 b2; refine Hid.out ?_) | fail)
            refine Lib.hid ?_
            have HO3 : Hid (OwnsI w2 w.heap.size v2 (T ++ [a'])) := own2
            have HB3 : Hid (Below w.heap.size w w2) := HBB.out.trans b2
            have HF3 : Hid ((T ++ [a']) ++ endsP l l.length a' = fin) := by show _ = _; rw [HDN.out]; exact HF2.out
            have HT3 : Hid ((T ++ [a']).length ≤ a') := by show _ ≤ _; rw [List.length_append, List.length_singleton]; have := HT.out; omega
            clear own2 b2 HO2 HBB
            go_wp2
            go_roundw
            case rel => exact ⟨a', v2, T ++ [a'], ha', rfl, rfl, HO3, HF3, HB3, HT3⟩
            case measure => simp [intOf]; omega
      · have hz0 : nsz (l.drop a) = 0 := by omega
        have HRES : Hid (T = endsP l l.length 0) := by
          show _ = _
          have := HF.out
          rw [ends_done hz0, List.append_nil] at this
          rw [this, HF0.out]
        rw [hz0] at HN
        clear hz hz0 hrf HS
        go_wp2_with (first | (go_at_call 40; refine HN.out.mono ?_; rintro e w' ⟨rfl, rfl⟩; refine Hid.out ?_) | fail)
        refine Lib.hid ?_
        go_wp2
        go_ret
        exact ⟨_, rfl, by rw [← HRES.out]; exact HO.out, HB.out⟩
    · have hal : a = l.length := by omega
      have hd : l.drop a = [] := List.drop_eq_nil_of_le (by omega)
      have HRES : Hid (T = endsP l l.length 0) := by
        show _ = _
        have := HF.out
        rw [ends_done (by rw [hd]; rfl), List.append_nil] at this
        rw [this, HF0.out]
      have HN := Lib.hid (pNsz (if c = l.length then some ⟨b, o, none⟩ else some ⟨b, o + l.length, none⟩) 0 (c - l.length) [] wr (Or.inl ⟨rfl, _, _, rfl, fun h => by split at h <;> cases h⟩) rfl (by simp))
      have HN2 : Hid (Calls Tryd.prog 40 #[.slice (if c = l.length then some ⟨b, o, none⟩ else some ⟨b, o + l.length, none⟩) 0 (c - l.length)] wr fun e w' => e = .returned (.int .i64 0) ∧ wr = w') := HN.out
      subst hal
      clear hd HN
      go_wp2_with (first | (go_at_call 40; refine HN2.out.mono ?_; rintro e w' ⟨rfl, rfl⟩; refine Hid.out ?_) | fail)
      all_goals
        refine Lib.hid ?_
        go_wp2
        go_ret
        exact ⟨_, rfl, by rw [← HRES.out]; exact HO.out, HB.out⟩
/-- Of nothing. -/
theorem pEnds0 (A : Option Addr) (c : Nat) (w : World) (hA : A = none → c = 0) : Calls Tryd.prog 25 #[.slice A 0 c] w (EndsEnd [] w) := by
  cases A with
  | none =>
    obtain rfl := hA rfl
    have HN : Hid (Calls Tryd.prog 40 #[.slice none 0 0] w fun e w' => e = .returned (.int .i64 0) ∧ w = w') := pNsz none 0 0 [] w (Or.inl ⟨rfl, _, _, rfl, fun _ => rfl⟩) rfl (by simp)
    clear hA
    go_enter Tryd.func25, Tryd.ntmps25
    go_wp2
    go_loopw [3, 4] (fun ev i wr => ev = .slice none 0 0 ∧ i = .int .i64 0 ∧ Hid (wr = w)) (fun _ _ _ => 0)
    case atStart => exact ⟨rfl, rfl, rfl⟩
    case round =>
      obtain ⟨rfl, rfl, HW⟩ := hrel
      have HN2 : Hid (Calls Tryd.prog 40 #[.slice none 0 0] wr fun e w' => e = .returned (.int .i64 0) ∧ wr = w') := by rw [HW.out]; exact HN
      go_wp2_with (first | (go_at_call 40; refine HN2.out.mono ?_; rintro e w' ⟨rfl, rfl⟩; refine Hid.out ?_) | fail)
      refine Lib.hid ?_
      go_wp2
      go_ret
      exact ⟨_, rfl, World.ownsRow_nil _ _ _ _, by rw [HW.out]; exact Below.refl _ _⟩
  | some x =>
    have HN : Hid (∀ x', Calls Tryd.prog 40 #[.slice (some x') 0 c] w fun e w' => e = .returned (.int .i64 0) ∧ w = w') := fun x' => pNsz (some x') 0 c [] w (Or.inl ⟨rfl, _, _, rfl, fun h => by cases h⟩) rfl (by simp)
    clear hA
    go_enter Tryd.func25, Tryd.ntmps25
    go_wp2
    go_loopw [3, 4] (fun ev i wr => ev = .slice none 0 0 ∧ i = .int .i64 0 ∧ Hid (wr = w)) (fun _ _ _ => 0)
    case atStart => exact ⟨rfl, rfl, rfl⟩
    case round =>
      obtain ⟨rfl, rfl, HW⟩ := hrel
      have HN2 : Hid (∀ x', Calls Tryd.prog 40 #[.slice (some x') 0 c] wr fun e w' => e = .returned (.int .i64 0) ∧ wr = w') := by rw [HW.out]; exact HN
      go_wp2_with (first | (go_at_call 40; refine (HN2.out _).mono ?_; rintro e w' ⟨rfl, rfl⟩; refine Hid.out ?_) | fail)
      all_goals
        refine Lib.hid ?_
        go_wp2
        go_ret
        exact ⟨_, rfl, World.ownsRow_nil _ _ _ _, by rw [HW.out]; exact Below.refl _ _⟩
theorem pEnds (v : Value) (l : List UInt8) (w : World) (hr : Reads w v l) (hl : l.length ≤ 4000000000) (he : Env w) : Calls Tryd.prog 25 #[v] w (EndsEnd l w) := by
  rcases hr with ⟨rfl, a, c, rfl, hn⟩ | ⟨b, o, c, rfl, hc, hcell⟩
  · exact pEnds0 a c w hn
  · exact pEnds1 b o c l w (Or.inr ⟨b, o, c, rfl, hc, hcell⟩) hl hc he
end Go.Proofs.YtnogpoojhhmadaaDoor.Header
