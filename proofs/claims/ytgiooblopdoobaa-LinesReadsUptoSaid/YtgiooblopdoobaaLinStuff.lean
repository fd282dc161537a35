/-
  LINES, the given answers: a content, as it is sent.
-/
import Derived.Test.YtgiooblopdoobaaLinConE
namespace Go.Proofs.Ytgiooblopdoobaa.Lines
open Go.RowKit Base
/-- Bytes with a dot ahead of each dot that begins a line. -/
def dotG : Option UInt8 → List UInt8 → List UInt8
  | _, [] => []
  | p, c :: r => (if c.toNat = 46 ∧ (p = none ∨ p = some 10) then [46, c] else [c]) ++ dotG (some c) r
def stuffOf (l : List UInt8) : List UInt8 := dotG none l ++ [46, 13, 10]
theorem dotG_len : ∀ (l : List UInt8) (p : Option UInt8), (dotG p l).length ≤ 2 * l.length
  | [], _ => by simp [dotG]
  | c :: r, p => by
    have := dotG_len r (some c)
    rw [dotG, List.length_append, List.length_cons]
    split <;> simp <;> omega
theorem say_bare (long : Bool) : sayOf true long ≠ 0 := by simp [sayOf]
theorem scan_bare : ∀ (l : List UInt8) (p : Option UInt8) (n : Nat) (long : Bool), scanG p n true long l ≠ 0
  | [], _, _, long => by rw [scanG]; exact say_bare long
  | c :: r, p, n, long => by
    rw [scanG]
    split
    · decide
    · split
      · rw [Bool.true_or]; exact scan_bare r _ _ _
      · split
        · rw [Bool.true_or]; exact scan_bare r _ _ _
        · exact scan_bare r _ _ _
/-- How many bytes a line that goes on must have yet. -/
def needG : Option UInt8 → Nat
  | none => 0
  | some c => if c.toNat = 10 then 0 else if c.toNat = 13 then 1 else 2
theorem need_le (p : Option UInt8) : needG p ≤ 2 := by
  cases p with
  | none => simp [needG]
  | some c =>
    rw [needG]
    split
    · omega
    · split <;> omega
theorem stuff_lenG : ∀ (l : List UInt8) (p : Option UInt8) (n : Nat) (bare long : Bool), scanG p n bare long l = 0 → (l = [] → needG p = 0) → (l ≠ [] → l.getLast? = some 10) → 3 * (dotG p l).length + needG p ≤ 4 * l.length
  | [], p, n, bare, long, _, h0, _ => by simp [dotG, h0 rfl]
  | c :: r, p, n, bare, long, h, _, hl => by
    have hl2 : r ≠ [] → r.getLast? = some 10 := fun hr => by
      have := hl (by simp)
      rwa [List.getLast?_cons, List.getLast?_eq_some_getLast hr, Option.getD_some, ← List.getLast?_eq_some_getLast hr] at this
    have hlc : r = [] → c.toNat = 10 := fun hr => by
      have := hl (by simp)
      rw [hr] at this
      simp at this
      rw [this]; rfl
    have hp := need_le p
    rw [scanG] at h
    rw [dotG, List.length_append, List.length_cons]
    split at h
    · cases h
    · rename_i h0
      split at h
      · rename_i h13
        have hb : (bare || decide (r.head? ≠ some 10)) = false := by
          cases hx : (bare || decide (r.head? ≠ some 10)) with
          | false => rfl
          | true => rw [hx] at h; exact absurd h (scan_bare _ _ _ _)
        have ih := stuff_lenG r (some c) _ _ _ h (fun hr => by have := hlc hr; omega) hl2
        rw [show needG (some c) = 1 by rw [needG, if_neg (by omega), if_pos h13]] at ih
        rw [if_neg (by rintro ⟨h, _⟩; omega)]
        simp only [List.length_cons, List.length_nil]
        omega
      · rename_i h13
        split at h
        · rename_i h10
          have hb : (bare || decide (p ≠ some 13)) = false := by
            cases hx : (bare || decide (p ≠ some 13)) with
            | false => rfl
            | true => rw [hx] at h; exact absurd h (scan_bare _ _ _ _)
          have hp13 : p = some 13 := by
            rw [Bool.or_eq_false_iff] at hb
            simpa using hb.2
          have ih := stuff_lenG r (some c) _ _ _ h (fun _ => by rw [needG, if_pos h10]) hl2
          rw [show needG (some c) = 0 by rw [needG, if_pos h10]] at ih
          have hnp : needG p = 1 := by rw [hp13]; rfl
          rw [if_neg (by rintro ⟨h, _⟩; omega)]
          simp only [List.length_cons, List.length_nil]
          omega
        · rename_i h10
          have ih := stuff_lenG r (some c) _ _ _ h (fun hr => absurd (hlc hr) h10) hl2
          rw [show needG (some c) = 2 by rw [needG, if_neg h10, if_neg h13]] at ih
          split
          · rename_i h46
            have : needG p = 0 := by
              rcases h46.2 with e | e
              · rw [e]; rfl
              · rw [e]; rfl
            simp only [List.length_cons, List.length_nil]
            omega
          · simp only [List.length_cons, List.length_nil]
            omega
theorem stuff_len {l : List UInt8} (h : codeOf l = 0) : 3 * (dotG none l).length ≤ 4 * l.length := by
  unfold codeOf at h
  cases hx : (decide (0 < l.length) && decide (l.getLast? ≠ some 10)) with
  | true => rw [hx] at h; exact absurd h (scan_bare _ _ _ _)
  | false =>
    rw [hx] at h
    have := stuff_lenG l none 0 false false h (fun _ => rfl) (fun hn => by
      have h0 : 0 < l.length := List.length_pos_iff.2 hn
      simpa [h0] using hx)
    omega
def StuffEnd (l : List UInt8) (w : World) (e : Ending) (w' : World) : Prop :=
  Below w.heap.size w w' ∧ ((codeOf l ≠ 0 ∧ e = .returned (.tuple #[.slice none 0 0, .int .i64 (codeOf l : Int)])) ∨ (codeOf l = 0 ∧ ∃ v, e = .returned (.tuple #[v, .int .i64 0]) ∧ Owns w' w.heap.size v (stuffOf l)))
set_option maxHeartbeats 8000000 in
set_option maxRecDepth 100000 in
theorem rStuffA (b o cap : Nat) (l : List UInt8) (w : World) (hl : l.length ≤ 140737488351232) (hlc : l.length ≤ cap) (h0 : 0 < l.length)
    (hc : ∀ i, i < l.length → w.cell? ⟨b, o + i, none⟩ = some (.int .u8 ((l.getD i 0).toNat : Int))) :
    Calls Try.prog 17 #[.slice (some ⟨b, o, none⟩) l.length cap] w (StuffEnd l w) := by
  have HR : Reads w (.slice (some ⟨b, o, none⟩) l.length cap) l := Or.inr ⟨b, o, cap, rfl, hlc, hc⟩
  have HCO := Lib.hid (rContent HR (by omega))
  unfold CodeEnd at HCO
  have HC : Hid (∀ w2, Below w.heap.size w w2 → ∀ i, i < l.length → ∃ c : Nat, c = (l.getD i 0).toNat ∧ c ≤ 255 ∧ w2.cell? ⟨b, o + i, none⟩ = some (.int .u8 (c : Int))) := fun w2 h2 i hi => ⟨_, rfl, by have := (l.getD i 0).toNat_lt; omega, by
    have h1 := hc i hi
    rw [h2.cell (p := ⟨b, o + i, none⟩) (cell_lt h1)]; exact h1⟩
  clear HR hc
  unfold StuffEnd
  obtain ⟨fin, hfin⟩ : ∃ fin, fin = dotG none l := ⟨_, rfl⟩
  have HFL0 : Hid (codeOf l = 0 → 3 * fin.length ≤ 4 * l.length) := by rw [hfin]; exact stuff_len
  have HFS : Hid (stuffOf l = fin ++ [46, 13, 10]) := by rw [hfin]; rfl
  have HF0 : Hid ([] ++ dotG (prevOf l 0) (l.drop 0) = fin) := by rw [hfin]; rfl
  clear hfin
  obtain ⟨cd, hcd⟩ : ∃ cd, cd = codeOf l := ⟨_, rfl⟩
  rw [← hcd] at HCO HFL0 ⊢
  clear hcd
  by_cases hcd : cd = 0
  · subst hcd
    have HFL : Hid (3 * fin.length ≤ 4 * l.length) := HFL0.out rfl
    clear HFL0
    have HCZ : Hid (Calls Try.prog 21 #[.slice (some ⟨b, o, none⟩) l.length cap] w fun e w' => e = .returned (.int .i64 0) ∧ w = w') := HCO
    clear HCO
    go_enter Try.func17, Try.ntmps17
    go_wp2_with (first | (go_at_call 21; refine HCZ.out.mono ?_; rintro ee w1 ⟨rfl, rfl⟩; refine Hid.out ?_) | fail)
    refine Lib.hid ?_
    clear HCZ
    have HN1 : Hid (Owns w w.heap.size (.slice none 0 0) []) := owns_nil _ _
    go_wp2
    go_loopw [5, 6] (fun ov iv wr => ∃ (k : Nat) (v : Value) (q : List UInt8), k ≤ l.length ∧ iv = .int .i64 (k : Int) ∧ ov = v ∧ Hid (q ++ dotG (prevOf l k) (l.drop k) = fin) ∧ Hid (Owns wr w.heap.size v q) ∧ Hid (Below w.heap.size w wr)) (fun _ iv _ => l.length - (intOf iv).toNat)
    case atStart => exact ⟨0, _, [], by omega, rfl, rfl, HF0, HN1, Below.refl _ _⟩
    case round =>
      clear HF0 HN1
      obtain ⟨k, v, q, hk, rfl, hov, HF, HO, HB⟩ := hrel
      obtain rfl : v = _ := hov.symm
      have HQL : Hid (3 * q.length ≤ 4 * l.length) := by
        have h1 := congrArg List.length HF.out
        rw [List.length_append] at h1
        have := HFL.out; show _ ≤ _; omega
      by_cases hlt : k < l.length
      · obtain ⟨c, hce, hcb, hcell⟩ := HC.out wr HB.out k hlt
        have HCE := Lib.hid hce
        have HK : Hid (∀ w2, Below w.heap.size w w2 → w2.cell? ⟨b, o + k, none⟩ = some (.int .u8 (c : Int))) := fun w2 h2 => by
          obtain ⟨c', h1, _, h3⟩ := HC.out w2 h2 k hlt
          rw [h3, hce, h1]
        have heq := HF.out
        rw [drop_consB hlt, dotG, ← hce, ← prevOf_succ] at heq
        clear HF hce
        have HP : (((c = 46 ∧ k = 0) ∨ (c = 46 ∧ ∃ (j d : Nat), k = j + 1 ∧ wr.cell? ⟨b, o + j, none⟩ = some (.int .u8 (d : Int)) ∧ d = 10)) ∧ Hid ((q ++ [46]) ++ [l.getD k 0] ++ dotG (prevOf l (k + 1)) (l.drop (k + 1)) = fin)) ∨
            (((c = 46 ∧ ∃ (j d : Nat), k = j + 1 ∧ wr.cell? ⟨b, o + j, none⟩ = some (.int .u8 (d : Int)) ∧ ¬ (d : Int) = 10 ∧ d ≤ 255) ∨ ¬ (c : Int) = 46) ∧ Hid (q ++ [l.getD k 0] ++ dotG (prevOf l (k + 1)) (l.drop (k + 1)) = fin)) := by
          by_cases h46 : c = 46
          · rcases Nat.eq_zero_or_pos k with h | h
            · subst h
              rw [if_pos ⟨h46, Or.inl rfl⟩] at heq
              refine Or.inl ⟨Or.inl ⟨h46, rfl⟩, ?_⟩
              show _ = _
              rw [← heq]; simp
            · obtain ⟨j, rfl⟩ : ∃ j, k = j + 1 := ⟨k - 1, by omega⟩
              obtain ⟨d, hde, hdb, hdc⟩ := HC.out wr HB.out j (by omega)
              by_cases hd : d = 10
              · rw [if_pos ⟨h46, Or.inr (by rw [prevOf_succ]; exact (byte_eq (n := 10) (by omega)).2 (by omega))⟩] at heq
                refine Or.inl ⟨Or.inr ⟨h46, j, d, rfl, hdc, hd⟩, ?_⟩
                show _ = _
                rw [← heq]; simp
              · rw [if_neg (by
                  rintro ⟨_, hx | hx⟩
                  · rw [prevOf_succ] at hx; cases hx
                  · rw [prevOf_succ] at hx
                    have := (byte_eq (n := 10) (by omega)).1 hx
                    omega)] at heq
                refine Or.inr ⟨Or.inl ⟨h46, j, d, rfl, hdc, by omega, hdb⟩, ?_⟩
                show _ = _
                rw [← heq]; simp
          · rw [if_neg (fun x => h46 x.1)] at heq
            refine Or.inr ⟨Or.inr (by omega), ?_⟩
            show _ = _
            rw [← heq]; simp
        clear heq
        rcases HP with ⟨HP, HE⟩ | ⟨HP, HE⟩
        · rcases HP with ⟨rfl, rfl⟩ | ⟨rfl, j, d, rfl, hdc, rfl⟩
          case' inl =>
            rw [Nat.add_zero] at hcell HK
          case' inr => have jz : ¬ (j : Int) + 1 = 0 := by omega
          all_goals
            go_wp2_with (at_builtin; go_must (refine wp_append_reads _ rfl _ _ rfl w.heap.size v _ q [46] rfl rfl (HO.out.on (Below.alloc1 wr _)) (reads_one wr 5 46 46 rfl) (by have := HQL.out; simp; omega) (Nat.le_trans HB.out.size (Below.alloc1 wr _).size) ?_); intro v2 w2 own2 b2; refine Hid.out ?_)
            refine Lib.hid ?_
            have HO2 := Lib.hid own2
            have HB2 : Hid (Below w.heap.size w w2) := (HB.out.trans ((Below.alloc1 wr _).mono HB.out.size)).trans b2
            have hcell2 := HK.out w2 HB2.out
            clear own2 b2 hcell
            go_wp2_with (at_builtin; go_must (refine wp_append_reads _ rfl _ _ rfl w.heap.size v2 _ (q ++ [46]) [l.getD _ 0] rfl rfl (HO2.out.on (Below.alloc1 w2 _)) (reads_one w2 5 _ _ (by rw [← HCE.out]; first | done | rfl)) (by have := HQL.out; simp; omega) (Nat.le_trans HB2.out.size (Below.alloc1 w2 _).size) ?_); intro v3 w3 own3 b3; refine Hid.out ?_)
            refine Lib.hid ?_
            have HO3 := Lib.hid own3
            have HB3 : Hid (Below w.heap.size w w3) := (HB2.out.trans ((Below.alloc1 w2 _).mono HB2.out.size)).trans b3
            clear own3 b3
            go_wp2
            go_roundw
            case rel =>
              refine ⟨_, v3, _, ?_, ?_, rfl, HE, HO3, HB3⟩
              · omega
              · go_num
            case measure => simp [intOf]; omega
        · rcases HP with ⟨rfl, j, d, rfl, hdc, hd, hdb⟩ | hn46
          case' inl =>
            have jz : ¬ (j : Int) + 1 = 0 := by omega
            have jd : ((j : Int) + 1 == 0 || (d : Int) == 10) = false := by simp [jz, hd]
          all_goals
            go_wp2_with (at_builtin; go_must (refine wp_append_reads _ rfl _ _ rfl w.heap.size v _ q [l.getD _ 0] rfl rfl (HO.out.on (Below.alloc1 wr _)) (reads_one wr 5 _ _ (by rw [← HCE.out]; first | done | rfl)) (by have := HQL.out; simp; omega) (Nat.le_trans HB.out.size (Below.alloc1 wr _).size) ?_); intro v3 w3 own3 b3; refine Hid.out ?_)
            refine Lib.hid ?_
            have HO3 := Lib.hid own3
            have HB3 : Hid (Below w.heap.size w w3) := (HB.out.trans ((Below.alloc1 wr _).mono HB.out.size)).trans b3
            clear own3 b3
            go_wp2
            go_roundw
            case rel =>
              refine ⟨_, v3, _, ?_, ?_, rfl, HE, HO3, HB3⟩
              · omega
              · go_num
            case measure => simp [intOf]; omega
      · have heq := HF.out
        rw [List.drop_eq_nil_of_le (by omega), dotG, List.append_nil] at heq
        have HE : Hid (q = fin) := heq
        clear heq HF
        go_wp2_with (at_builtin; go_must (refine wp_append_reads _ rfl _ _ rfl w.heap.size v _ q [46, 13, 10] rfl rfl (HO.out.on (Below.alloc1 wr _)) (reads_lit wr 5 _ [46, 13, 10] 3 rfl rfl (0, 0)) (by have := HQL.out; simp; omega) (Nat.le_trans HB.out.size (Below.alloc1 wr _).size) ?_); intro v3 w3 own3 b3; refine Hid.out ?_)
        refine Lib.hid ?_
        have HO3 := Lib.hid own3
        have HB3 : Hid (Below w.heap.size w w3) := (HB.out.trans ((Below.alloc1 wr _).mono HB.out.size)).trans b3
        clear own3 b3
        go_wp2
        go_ret2
        exact ⟨HB3.out, Or.inr ⟨trivial, v3, rfl, by rw [HFS.out, ← HE.out]; exact HO3.out⟩⟩
  · have k0 : ¬ (cd : Int) = 0 := by omega
    go_enter Try.func17, Try.ntmps17
    go_wp2_with (first | (go_at_call 21; refine HCO.out.mono ?_; rintro ee w1 ⟨rfl, rfl⟩; refine Hid.out ?_) | fail)
    refine Lib.hid ?_
    go_wp2
    go_ret2
    exact ⟨Below.refl _ _, Or.inl ⟨hcd, rfl⟩⟩
end Go.Proofs.Ytgiooblopdoobaa.Lines
