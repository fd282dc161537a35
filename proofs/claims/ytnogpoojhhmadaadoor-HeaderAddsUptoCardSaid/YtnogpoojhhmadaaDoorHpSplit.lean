/-
  HEADER, the program: a content is cut: the walk.
-/
import Derived.Test.YtnogpoojhhmadaaDoorHpField
import Derived.Test.YtnogpoojhhmadaaDoorHdrSplit
import Derived.OwnWalk
namespace Go.Proofs.YtnogpoojhhmadaaDoor.Header
open Go.RowKit Base
theorem last_snoc (b : Nat) : ∀ (E : List Nat) (a : Nat), lastE a (E ++ [b]) = b
  | [], _ => rfl
  | _ :: r, _ => last_snoc b r _
theorem flds_snoc (l : List UInt8) (b : Nat) : ∀ (E : List Nat) (a : Nat), fldsP l a (E ++ [b]) = fldsP l a E ++ [fldP l (lastE a E) b]
  | [], _ => rfl
  | x :: r, a => by
    rw [List.cons_append, fldsP, flds_snoc l b r x, fldsP, lastE]
    rfl
theorem flds_len (l : List UInt8) : ∀ (E : List Nat) (a : Nat), (fldsP l a E).length = E.length
  | [], _ => rfl
  | x :: r, a => by rw [fldsP, List.length_cons, flds_len l r x, List.length_cons]
/-- What holds of each end. -/
theorem ends_facts (l : List UInt8) : ∀ (n a i : Nat) (z : Nat), (endsP l n a)[i]? = some z → ∃ x, x = lastE a ((endsP l n a).take i) ∧ 0 < nsz (l.drop x) ∧ x + nsz (l.drop x) + 1 ≤ z ∧ z ≤ l.length
  | 0, a, i, z, h => by rw [endsP] at h; simp at h
  | n + 1, a, i, z, h => by
    rw [endsP] at h ⊢
    by_cases hz : 0 < nsz (l.drop a)
    · rw [if_pos hz] at h ⊢
      have hlt : a < l.length := by have := (nsz_facts hz).1; rw [List.length_drop] at this; omega
      have hb := line_bounds hlt
      have hc := cont_le l l.length (lineOf l a).2 hb.2.2.1
      cases i with
      | zero =>
        rw [List.getElem?_cons_zero] at h
        cases h
        refine ⟨a, rfl, hz, ?_, hc.2⟩
        have hcn := colon_nsz (l.drop a)
        rw [if_pos hz] at hcn
        have := (colon_pos hcn).2.1
        rw [List.length_take] at this
        have h2 : (lineOf l a).1 = a + (lineL (l.drop a)).1 := rfl
        omega
      | succ j =>
        rw [List.getElem?_cons_succ] at h
        rw [List.take_succ_cons, lastE]
        exact ends_facts l n _ j z h
    · rw [if_neg hz] at h; simp at h
theorem last_le (l : List UInt8) (n a : Nat) (ha : a ≤ l.length) : lastE a (endsP l n a) ≤ l.length := by
  rcases List.eq_nil_or_concat (endsP l n a) with h | ⟨E, b, h⟩
  · rw [h]; exact ha
  · rw [List.concat_eq_append] at h
    rw [h, last_snoc]
    obtain ⟨_, _, _, _, h4⟩ := ends_facts l n a E.length b (by rw [h]; simp)
    exact h4
theorem endF_flds (l : List UInt8) (E : List Nat) : endF (fldsP l 0 E) = lastE 0 E := by
  rcases List.eq_nil_or_concat E with h | ⟨E', b, h⟩
  · rw [h]; rfl
  · rw [List.concat_eq_append] at h
    rw [h, flds_snoc, last_snoc]
    unfold endF
    rw [List.length_append, List.length_singleton, Nat.add_sub_cancel, List.getElem?_append_right (Nat.le_refl _)]
    simp [fldP]
theorem code_flds (l : List UInt8) (E : List Nat) : codeF (fldsP l 0 E) = if 65536 < lastE 0 E then 111 else if 1000 < E.length then 112 else 0 := by
  unfold codeF
  rw [endF_flds, flds_len]
theorem OwnsI.form {w : World} {B : Nat} {v : Value} {T : List Nat} (h : OwnsI w B v T) : ∃ a c, v = .slice a T.length c ∧ T.length ≤ c := row_form h
theorem OwnsI.cell {w : World} {B : Nat} {a : Option Addr} {n c : Nat} {ls : List Nat} (h : OwnsI w B (.slice a n c) ls) {i x : Nat} (hx : ls[i]? = some x) : ∃ b, a = some ⟨b, 0, none⟩ ∧ w.cell? ⟨b, i, none⟩ = some (.int .i64 (x : Int)) := by
  rcases h.2 with ⟨he, hn⟩ | ⟨g, cap, cur, he, _, h2, h3, h4, h5, h6⟩
  · rw [List.eq_nil_of_length_eq_zero hn] at hx; simp at hx
  · cases he
    refine ⟨g, rfl, ?_⟩
    have hi := (List.getElem?_eq_some_iff.1 hx).1
    rw [Nat.mul_one] at h6
    have h7 : (ls.map fun k : Nat => Value.int .i64 (k : Int))[i]? = some (.int .i64 (x : Int)) := by rw [List.getElem?_map, hx]; rfl
    rw [← h6, List.getElem?_take_of_lt hi, Array.getElem?_toList] at h7
    unfold World.cell?
    rw [h2]
    exact h7
theorem own_apart {w : World} {B B' : Nat} {e e' : TypeId} {s s' : Nat} {v v' : Value} {n n' : Nat} {xs xs' : List Value} (h : w.ownsRow B e s v n xs) (h' : w.ownsRow B' e' s' v' n' xs') (hne : e ≠ e') : ∀ k, v.ownBlock = some k → v'.ownBlock = some k → False := by
  intro k hk hk'
  rcases h.2 with ⟨rfl, _⟩ | ⟨g, cap, cur, rfl, _, h1, _⟩
  · simp [Value.ownBlock] at hk
  · rcases h'.2 with ⟨rfl, _⟩ | ⟨g', cap', cur', rfl, _, h1', _⟩
    · simp [Value.ownBlock] at hk'
    · have e1 : g = k := by simpa [Value.ownBlock] using hk
      have e2 : g' = k := by simpa [Value.ownBlock] using hk'
      subst e1
      subst e2
      rw [h1] at h1'
      cases h1'
      exact hne rfl
theorem OwnsI.big {w : World} {B : Nat} {v : Value} {T : List Nat} (h : OwnsI w B v T) : T.length ≤ 9223372036854775807 := by
  rcases h.2 with ⟨_, hn⟩ | ⟨g, cap, cur, _, h1, h2, h3, h4, _⟩
  · omega
  · have h4 : cap ≤ 9223372036854775807 := h4
    omega
/-- Fields in a row of the call's own. -/
def OwnsF (w : World) (B : Nat) (v : Value) (T : List Fld) : Prop := w.ownsRow B 30 4 v T.length (T.flatMap cells4)
theorem OwnsF.on {w w' : World} {B : Nat} {v : Value} {T : List Fld} (h : OwnsF w B v T) (hb : Below w.heap.size w w') : OwnsF w' B v T := by
  refine ⟨h.1, ?_⟩
  rcases h.2 with hn | ⟨g, cap, cur, rfl, h1, h2, h3⟩
  · exact Or.inl hn
  · exact Or.inr ⟨g, cap, cur, rfl, h1, by rw [hb.block g (heap_lt h2)]; exact h2, h3⟩
theorem wp_addF {wr : World} {B : Nat} {v : Value} {T : List Fld} {ops : Array Oper} {rest : List Oper} {o : Oper} {a : Act} {Q : Exit → Act → World → Prop} (hgd : o.guard = none) (s y : Operand) (ho : o.op = .call { callee := .builtin .append, args := #[s, y], argTypes := #[24, 24] })
    (h : OwnsF wr B v T) (hn : T.length ≤ 1000000) (hB : B ≤ wr.heap.size) (f : Fld) (hs : a.eval s = v) (hx : a.eval y = .slice (some ⟨wr.heap.size, 0, none⟩) 1 1)
    (hK : ∀ v' w', OwnsF w' B v' (T ++ [f]) → Below B wr w' → (∀ k, k < wr.heap.size → v.ownBlock ≠ some k → w'.heap[k]? = wr.heap[k]?) → wpList Tryd.prog ops Q rest (a.put o.dst v') w') :
    wpList Tryd.prog ops Q (o :: rest) a (wr.alloc (.cells #[S f.nm, S f.bd, .int .i64 (f.fr : Int), .int .i64 (f.en : Int)] 30)) := by
  obtain ⟨i0, hi, hz0, hz1, hz2⟩ := info_parts infoF
  have h1 := h.on (Below.alloc1 wr (.cells #[S f.nm, S f.bd, .int .i64 (f.fr : Int), .int .i64 (f.en : Int)] 30))
  have hB1 : B ≤ (wr.alloc (.cells #[S f.nm, S f.bd, .int .i64 (f.fr : Int), .int .i64 (f.en : Int)] 30)).heap.size := Nat.le_trans hB (Below.alloc1 wr _).size
  have hnb := (MapKept.heap_alloc wr (.cells #[S f.nm, S f.bd, .int .i64 (f.fr : Int), .int .i64 (f.en : Int)] 30)).1
  refine wpList_append_own _ hgd s y 24 ho B 30 i0 (.agg #[.string ⟨#[]⟩, .string ⟨#[]⟩, .int .i64 0, .int .i64 0]) 4 48 Tryd.underlying24 hi hz0 hz1 hz2 rfl (by decide) v T.length (T.flatMap cells4) hs h1 ⟨wr.heap.size, 0, none⟩ 1 1 (cells4 f) hx rfl
    (fun j u hu => by
      rw [Addr.add_lit, Nat.zero_add]
      exact (cell_of_row _ _ j _ _ _ hnb).trans (by simpa [cells4] using hu))
    (fun u hu => by simp [cells4] at hu; rcases hu with rfl | rfl | rfl | rfl <;> rfl) (by unfold maxLen; omega) (by omega) hB1 (fun v' w' o2 g2 a2 => ?_)
  refine hK v' w' ?_ (((Below.alloc1 wr _).mono hB).trans ((Below.refl _ _).grown g2 hB1 (fun k hk => (World.ownsRow.lt h1 k hk).1))) (fun k hk hne => (g2.block k (Nat.lt_of_lt_of_le hk (Below.alloc1 wr _).size) (fun e => hne e.symm)).trans ((Below.alloc1 wr _).block k hk))
  unfold OwnsF
  rw [List.length_append, List.flatMap_append]
  simpa using o2
set_option maxHeartbeats 16000000 in
set_option maxRecDepth 100000 in
theorem pSplit1 (A : Option Addr) (c : Nat) (l : List UInt8) (w : World) (hr : Reads w (.slice A l.length c) l) (hl : l.length ≤ 4000000000) (he : Env w) : Calls Tryd.prog 9 #[.slice A l.length c] w (SplitEnd l w) := by
  obtain ⟨E, hE⟩ : ∃ E, E = endsP l l.length 0 := ⟨_, rfl⟩
  have hsp := split_is l
  rw [← hE] at hsp
  obtain ⟨z, hz⟩ : ∃ z, z = lastE 0 E := ⟨_, rfl⟩
  have hcode := code_flds l E
  rw [← hz] at hsp hcode
  have hzl : z ≤ l.length := by rw [hz, hE]; exact last_le l l.length 0 (Nat.zero_le _)
  have HS := Lib.hid hsp
  have HCD := Lib.hid hcode
  have HZ := Lib.hid hz
  have HEE := Lib.hid hE
  have HR := Lib.hid hr
  have HV := Lib.hid he
  have HEN := Lib.hid (pEnds (.slice A l.length c) l w hr hl he)
  unfold EndsEnd at HEN
  rw [← hE] at HEN
  have HFACT : Hid (∀ (i x : Nat), E[i]? = some x → ∃ y, y = lastE 0 (E.take i) ∧ 0 < nsz (l.drop y) ∧ y + nsz (l.drop y) + 1 ≤ x ∧ x ≤ l.length) := by rw [hE]; exact fun i x h => ends_facts l l.length 0 i x h
  clear hsp hcode hz hE hr he
  go_enter Tryd.func9, Tryd.ntmps9
  go_wp2_with (first | (go_at_call 25; refine HEN.out.mono ?_; rintro e w1 ⟨v, rfl, own1, hb1⟩; refine Hid.out ?_) | fail)
  refine Lib.hid ?_
  obtain ⟨ae, ce, rfl, hce⟩ := own1.form
  have HO := Lib.hid own1
  have HB := Lib.hid hb1
  clear HEN own1 hb1
  have e0 : (0 : Int) ≤ (z : Int) := by omega
  go_upto_if 15 with fail
  go_cut [6] (fun x wx => x = .int .i64 (z : Int) ∧ wx = w1)
  case first =>
    rcases List.eq_nil_or_concat E with h | ⟨E', b, h⟩
    · have h0 : ¬ (0 : Int) < (E.length : Int) := by rw [h]; simp
      have h1 : Hid ((z : Int) = 0) := by show _ = _; rw [HZ.out, h]; rfl
      clear h
      go_wp2
      go_meet
      exact ⟨by rw [h1.out], rfl⟩
    · rw [List.concat_eq_append] at h
      have hlen : E.length = E'.length + 1 := by rw [h]; simp
      have h0 : (0 : Int) < (E.length : Int) := by omega
      have h1 : E[E'.length]? = some z := by rw [HZ.out, h, last_snoc]; simp
      obtain ⟨g, hg, hc0⟩ := HO.out.cell h1
      subst hg
      have h2 : (E.length : Int) - 1 = (E'.length : Int) := by omega
      have h3 : (0 : Int) ≤ (E'.length : Int) := by omega
      have h4 : (E'.length : Int) < (E.length : Int) := by omega
      have h5 : (E'.length : Int) ≤ 9223372036854775807 := by have := HO.out.big; omega
      have h6 : wrap64 (E'.length : Int) = (E'.length : Int) := IntWalk.wrap64_in _ (by omega)
      have HLEN := Lib.hid hlen
      clear h h1 hlen
      go_wp2
      go_meet
      exact ⟨rfl, rfl⟩
  case rest =>
  obtain ⟨rfl, rfl⟩ := hcut
  by_cases hbig : 65536 < z
  · have hb : (65536 : Int) < (z : Int) := by omega
    have HEND : Hid (SplitEnd l w (.returned (.tuple #[.slice none 0 0, .int .i64 0, .int .i64 111])) wc) := by
      refine ⟨HB.out, Or.inr ⟨?_, ?_⟩⟩
      · rw [HS.out]; show codeF (fldsP l 0 E) ≠ 0; rw [HCD.out, if_pos hbig]; omega
      · rw [HS.out]; show _ = Ending.returned (.tuple #[.slice none 0 0, .int .i64 0, .int .i64 (codeF (fldsP l 0 E) : Int)]); rw [HCD.out, if_pos hbig]; rfl
    clear hbig
    go_wp2
    go_ret3
    exact HEND.out
  · have hb : ¬ (65536 : Int) < (z : Int) := by omega
    by_cases hmany : 1000 < E.length
    · have hm : (1000 : Int) < (E.length : Int) := by omega
      have HEND : Hid (SplitEnd l w (.returned (.tuple #[.slice none 0 0, .int .i64 0, .int .i64 112])) wc) := by
        refine ⟨HB.out, Or.inr ⟨?_, ?_⟩⟩
        · rw [HS.out]; show codeF (fldsP l 0 E) ≠ 0; rw [HCD.out, if_neg hbig, if_pos hmany]; omega
        · rw [HS.out]; show _ = Ending.returned (.tuple #[.slice none 0 0, .int .i64 0, .int .i64 (codeF (fldsP l 0 E) : Int)]); rw [HCD.out, if_neg hbig, if_pos hmany]; rfl
      clear hbig hmany
      go_wp2
      go_ret3
      exact HEND.out
    · have hm : ¬ (1000 : Int) < (E.length : Int) := by omega
      have HC0 : Hid (codeF (fldsP l 0 E) = 0) := by show _ = _; rw [HCD.out, if_neg hbig, if_neg hmany]
      have HMY := Lib.hid hmany
      clear hbig hmany HCD
      obtain ⟨i0, hi, hz0, hz1, hz2⟩ := info_parts infoF
      go_wp2_with (first | (at_make; refine wpList_make_own _ rfl _ _ 24 rfl w.heap.size 30 i0 (.agg #[.string ⟨#[]⟩, .string ⟨#[]⟩, .int .i64 0, .int .i64 0]) 4 Tryd.underlying24 hi hz0 hz1 .i64 .i64 _ E.length rfl rfl rfl (by rw [hz2]; have := HMY.out; omega) (by unfold maxLen; have := HMY.out; omega) HB.out.size ?_; intro w2 hown2 hg2; refine Hid.out ?_) | fail)
      refine Lib.hid ?_
      have b2 : Below w.heap.size wc w2 := (Below.refl _ _).grown hg2 HB.out.size (fun k hk => by cases hk)
      have bx : Below wc.heap.size wc w2 := (Below.refl _ _).grown hg2 (Nat.le_refl _) (fun k hk => by cases hk)
      have HO2 : Hid (OwnsI w2 w.heap.size (.slice ae E.length ce) E) := HO.out.on bx
      have HB2 : Hid (Below w.heap.size w w2) := HB.out.trans b2
      have HF2 : Hid (OwnsF w2 w.heap.size (.slice (some ⟨wc.heap.size, 0, none⟩) 0 E.length) (fldsP l 0 (E.take 0))) := hown2
      clear b2 bx hown2 hg2 HO HB hi hz0 hz1 hz2 i0
      go_wp2
      go_loopw [7, 8, 32] (fun fv fr iv wr => ∃ (i : Nat) (v : Value), i ≤ E.length ∧ iv = .int .i64 (i : Int) ∧ fv = v ∧ fr = .int .i64 ((lastE 0 (E.take i) : Nat) : Int) ∧ Hid (OwnsF wr w.heap.size v (fldsP l 0 (E.take i))) ∧ Hid (OwnsI wr w.heap.size (.slice ae E.length ce) E) ∧ Hid (Below w.heap.size w wr)) (fun _ _ iv _ => E.length - (intOf iv).toNat)
      case atStart => exact ⟨0, _, Nat.zero_le _, rfl, rfl, rfl, HF2, HO2, HB2⟩
      case round =>
        clear HF2 HO2 HB2
        obtain ⟨i, v, hi, rfl, hv, rfl, HF, HO, HB⟩ := hrel
        obtain rfl : v = _ := hv.symm
        have i0 : (0 : Int) ≤ (i : Int) := by omega
        by_cases hlt : i < E.length
        · have i1 : (i : Int) < (E.length : Int) := by omega
          obtain ⟨x, hx⟩ : ∃ x, E[i]? = some x := ⟨E[i], List.getElem?_eq_getElem hlt⟩
          obtain ⟨y, hy, hy1, hy2, hy3⟩ := HFACT.out i x hx
          obtain ⟨g, hg, hc0⟩ := HO.out.cell hx
          subst hg
          have HFD := Lib.hid (pField (.slice A l.length c) l y x wr (HR.out.on HB.out) hl hy3 hy1 hy2)
          obtain ⟨f, hf⟩ : ∃ f, f = fldP l y x := ⟨_, rfl⟩
          have HFD2 : Hid (Calls Tryd.prog 26 #[.slice A l.length c, .int .i64 (y : Int), .int .i64 (x : Int)] wr fun e w' => e = .returned (.agg #[S f.nm, S f.bd, .int .i64 (f.fr : Int), .int .i64 (f.en : Int)]) ∧ Below wr.heap.size wr w') := by rw [hf]; exact HFD.out
          have htk : E.take (i + 1) = E.take i ++ [x] := by
            rw [List.take_add_one, hx]; rfl
          have HT : Hid (fldsP l 0 (E.take (i + 1)) = fldsP l 0 (E.take i) ++ [f]) := by show _ = _; rw [htk, flds_snoc, hf, hy]
          have HL : Hid (lastE 0 (E.take (i + 1)) = x) := by show _ = _; rw [htk, last_snoc]
          have HN : Hid ((fldsP l 0 (E.take i)).length ≤ 1000000) := by show _ ≤ _; rw [flds_len, List.length_take]; have := HMY.out; omega
          rw [← hy]
          clear htk hf hy hy1 hy2 hy3 hx HFD
          have c0 := hc0
          clear hc0
          go_wp2_with (first | (go_at_call 26; refine HFD2.out.mono ?_; rintro e w3 ⟨rfl, hb3⟩; refine Hid.out ?_) | fail)
          refine Lib.hid ?_
          have HF3 : Hid (OwnsF w3 w.heap.size v (fldsP l 0 (E.take i))) := HF.out.on hb3
          have HO3 : Hid (OwnsI w3 w.heap.size (.slice (some ⟨g, 0, none⟩) E.length ce) E) := HO.out.on hb3
          have HB3 : Hid (Below w.heap.size w w3) := HB.out.trans (hb3.mono HB.out.size)
          clear hb3 HFD2 HF HO HB
          go_wp2_with (first | (at_builtin; go_must (refine wp_addF rfl _ _ rfl HF3.out HN.out HB3.out.size f rfl rfl ?_); intro v4 w4 own4 b4 kp4; refine Hid.out ?_) | fail)
          refine Lib.hid ?_
          have hsz : w.heap.size ≤ w3.heap.size := HB3.out.size
          have HF4 : Hid (OwnsF w4 w.heap.size v4 (fldsP l 0 (E.take (i + 1)))) := by have := own4; rw [← HT.out] at this; exact this
          have HB4 : Hid (Below w.heap.size w w4) := HB3.out.trans b4
          have HO4 : Hid (OwnsI w4 w.heap.size (.slice (some ⟨g, 0, none⟩) E.length ce) E) := row_kept HO3.out fun k hk => kp4 k (World.ownsRow.lt HO3.out k hk).2 (fun e => own_apart HF3.out HO3.out (by decide) k e hk)
          have HL2 := HL.out
          clear own4 b4 kp4 HF3 HO3 HB3 HT hsz
          go_wp2
          go_roundw
          case rel => exact ⟨i + 1, v4, hlt, by go_num, rfl, by rw [HL.out], HF4, HO4, HB4⟩
          case measure => simp [intOf]; omega
        · have i1 : ¬ (i : Int) < (E.length : Int) := by omega
          have hT : E.take i = E := List.take_of_length_le (by omega)
          rw [hT] at HF
          have hbc := Below.alloc1 wr crlfO
          have hcv := conv_crlf wr
          have hrt := Base.Reads.tail ((HR.out.on HB.out).on hbc) (at_ := z) hzl
          have HPF : Hid (∀ A' : Option Addr, A' = (if c = z then A else Option.map (fun x => x.add z) A) → Calls Tryd.prog 27 #[.slice A' (l.length - z) (c - z), .slice (some ⟨wr.heap.size, 0, none⟩) 2 2] (wr.alloc crlfO) fun e w' => e = .returned (.bool (Lib.hasPrefix (l.drop z) [13, 10])) ∧ (wr.alloc crlfO) = w') := fun A' h => by rw [h]; exact pPrefix hrt (crlf_reads wr)
          have hlc : l.length ≤ c := (reads_len HR.out).2
          have hb5 : Below w.heap.size w (wr.alloc crlfO) := HB.out.trans (hbc.mono HB.out.size)
          have HEND : Hid (∀ (n : Nat), bodyP l z = n → SplitEnd l w (.returned (.tuple #[v, .int .i64 (n : Int), .int .i64 0])) (wr.alloc crlfO)) := fun n hn => by
            refine ⟨hb5, Or.inl ⟨?_, v, ?_, ?_⟩⟩
            · rw [HS.out]; exact HC0.out
            · rw [HS.out, ← hn]
            · rw [HS.out]; exact FReads.of_row (HF.out.on hbc) rfl
          have j1 : (z : Int) ≤ (l.length : Int) := by omega
          cases hp : Lib.hasPrefix (l.drop z) [13, 10]
          · have HPF2 : Hid (∀ A' : Option Addr, A' = (if c = z then A else Option.map (fun x => x.add z) A) → Calls Tryd.prog 27 #[.slice A' (l.length - z) (c - z), .slice (some ⟨wr.heap.size, 0, none⟩) 2 2] (wr.alloc crlfO) fun e w' => e = .returned (.bool false) ∧ (wr.alloc crlfO) = w') := by rw [hp] at HPF; exact HPF
            have HE2 := Lib.hid (HEND.out z (by unfold bodyP; rw [if_neg (by rw [hp]; simp)]))
            clear hp HPF HEND hrt hb5 hbc hT HF HO HB
            go_wp2_with (first | (go_at_call 27; refine (HPF2.out _ (by first | rfl | simp [*])).mono ?_; rintro e w' ⟨rfl, rfl⟩; refine Hid.out ?_) | fail)
            all_goals
              refine Lib.hid ?_
              go_wp2
              go_ret3
              exact HE2.out
          · have HPF2 : Hid (∀ A' : Option Addr, A' = (if c = z then A else Option.map (fun x => x.add z) A) → Calls Tryd.prog 27 #[.slice A' (l.length - z) (c - z), .slice (some ⟨wr.heap.size, 0, none⟩) 2 2] (wr.alloc crlfO) fun e w' => e = .returned (.bool true) ∧ (wr.alloc crlfO) = w') := by rw [hp] at HPF; exact HPF
            have HE2 := Lib.hid (HEND.out (z + 2) (by unfold bodyP; rw [if_pos hp]))
            clear hp HPF HEND hrt hb5 hbc hT HF HO HB
            go_wp2_with (first | (go_at_call 27; refine (HPF2.out _ (by first | rfl | simp [*])).mono ?_; rintro e w' ⟨rfl, rfl⟩; refine Hid.out ?_) | fail)
            all_goals
              refine Lib.hid ?_
              go_wp2
              go_ret3
              exact HE2.out
theorem pSplit (v : Value) (l : List UInt8) (w : World) (hr : Reads w v l) (hl : l.length ≤ 4000000000) (he : Env w) : Calls Tryd.prog 9 #[v] w (SplitEnd l w) := by
  obtain ⟨A, c, rfl⟩ := hr.form
  exact pSplit1 A c l w hr hl he
end Go.Proofs.YtnogpoojhhmadaaDoor.Header
