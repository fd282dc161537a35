/-
  CIDR, the program: a number of one to three digits.
-/
import Derived.Test.YtdmajikhpacpfaaDoorCidrPLib
namespace Go.Proofs.YtdmajikhpacpfaaDoor.Cidr
open Go.RowKit Base
theorem p10 : ∀ (l : List UInt8) (a : Nat), (a + 1) * 10 ^ l.length ≤ 65536 → Lib.parseUintM 65535 a l = if l.all isDig = true then .ok (l.foldl (fun n c => 10 * n + (c.toNat - 48)) a) else .syntax
  | [], a, _ => by simp [Lib.parseUintM]
  | c :: r, a, h => by
    rw [List.length_cons, Nat.pow_succ] at h
    have h0 : 1 ≤ 10 ^ r.length := Nat.one_le_pow _ _ (by omega)
    have h1 : (a + 1) * 10 ≤ 65536 := Nat.le_trans (by rw [show (a + 1) * (10 ^ r.length * 10) = (a + 1) * 10 * 10 ^ r.length by rw [Nat.mul_comm (10 ^ r.length) 10, ← Nat.mul_assoc]]; exact Nat.le_mul_of_pos_right _ (by omega)) h
    rw [Lib.parseUintM, List.all_cons, List.foldl_cons]
    by_cases hd : 48 ≤ c.toNat ∧ c.toNat ≤ 57
    · rw [if_pos hd, if_neg (by omega), if_neg (by omega)]
      have ih := p10 r (a * 10 + (c.toNat - 48)) (Nat.le_trans (by rw [show (a + 1) * (10 ^ r.length * 10) = (a * 10 + 10) * 10 ^ r.length by rw [Nat.mul_comm (10 ^ r.length) 10, ← Nat.mul_assoc]; congr 1; omega]; exact Nat.mul_le_mul_right _ (by omega)) h)
      rw [ih, (dig_iff c).2 hd, Bool.true_and, Nat.mul_comm a 10]
    · have : isDig c = false := by rw [Bool.eq_false_iff]; exact fun h => hd ((dig_iff c).1 h)
      rw [if_neg hd, this, Bool.false_and, if_neg (by simp)]
def digsN (l : List UInt8) : Option Nat := if l ≠ [] ∧ l.all isDig = true then some (decF l) else none
theorem parse10 (l : List UInt8) (h : l.length ≤ 3) : Lib.parseUintB 16 l = match digsN l with | some n => .ok n | none => .syntax := by
  unfold Lib.parseUintB digsN
  by_cases h0 : l = []
  · subst h0; simp
  · have hp : 10 ^ l.length ≤ 10 ^ 3 := Nat.pow_le_pow_right (by decide) h
    rw [if_neg h0, show (2 ^ 16 - 1 : Nat) = 65535 from rfl, p10 l 0 (by omega)]
    by_cases hd : l.all isDig = true
    · rw [if_pos hd, if_pos ⟨h0, hd⟩]; rfl
    · rw [if_neg hd, if_neg (fun h => hd h.2)]
theorem bytesWorld_below (w : World) (s : ByteArray) : Below w.heap.size w (Lib.bytesWorld w 5 s) := Joins.below_bytesWorld _ w 5 s (Nat.le_refl _)
def ParseEnd (o : Option Nat) (w : World) (e : Ending) (w' : World) : Prop :=
  Below w.heap.size w w' ∧ ((∃ n : Nat, o = some n ∧ e = .returned (.tuple #[.int .u64 (n : Int), .nilIface])) ∨ (o = none ∧ ∃ x t p, e = .returned (.tuple #[.int .u64 x, .iface t p])))
theorem pParse10 (s : ByteArray) (w : World) (hs : s.size ≤ 3) (he : Env w) : Calls Tryd.prog 52 #[.string s, .int .i64 10, .int .i64 16] w (ParseEnd (digsN s.data.toList) w) := by
  have hp := parse10 s.data.toList (by rw [str_len]; exact hs)
  cases hd : digsN s.data.toList with
  | some n =>
    rw [hd] at hp
    refine (Tryd.strconv_ParseUint_10_at16_ok s (by omega) n hp w).mono ?_
    rintro e w' ⟨rfl, h⟩
    refine ⟨?_, Or.inl ⟨n, rfl, rfl⟩⟩
    rcases h with rfl | rfl
    · exact Below.refl _ _
    · exact bytesWorld_below w s
  | none =>
    rw [hd] at hp
    obtain ⟨tp, p, hv⟩ := he.syn
    refine (Tryd.strconv_ParseUint_10_at16_syntax_var s (by omega) hp tp p w hv).mono ?_
    rintro e w' ⟨N, rfl, _, _, hb⟩
    exact ⟨hb, Or.inr ⟨rfl, _, _, _, rfl⟩⟩
theorem parse_yes {f : FuncId} {args : Array Value} {w : World} {n : Nat} (h : Calls Tryd.prog f args w (ParseEnd (some n) w)) : Calls Tryd.prog f args w (fun e w' => e = .returned (.tuple #[.int .u64 (n : Int), .nilIface]) ∧ Below w.heap.size w w') :=
  h.mono fun e w' h => by
    rcases h with ⟨hb, ⟨m, h1, h2⟩ | ⟨h1, _⟩⟩
    · cases h1; exact ⟨h2, hb⟩
    · cases h1
theorem parse_no {f : FuncId} {args : Array Value} {w : World} (h : Calls Tryd.prog f args w (ParseEnd none w)) : Calls Tryd.prog f args w (fun e w' => ∃ x t p, e = .returned (.tuple #[.int .u64 x, .iface t p]) ∧ Below w.heap.size w w') :=
  h.mono fun e w' h => by
    rcases h with ⟨hb, ⟨m, h1, _⟩ | ⟨_, x, t, p, h2⟩⟩
    · cases h1
    · exact ⟨x, t, p, h2, hb⟩
theorem decN_digs (l : List UInt8) (h3 : l.length ≤ 3) (h0 : ¬ (l.getD 0 0 = 48 ∧ 1 < l.length)) : decN l = digsN l := by
  unfold decN digsN
  have : 1 ≤ l.length ↔ l ≠ [] := by cases l <;> simp
  by_cases hd : l ≠ [] ∧ l.all isDig = true
  · rw [if_pos ⟨this.2 hd.1, h3, h0, hd.2⟩, if_pos hd]
  · rw [if_neg (fun h => hd ⟨this.1 h.1, h.2.2.2⟩), if_neg hd]
theorem digs_small {l : List UInt8} {n : Nat} (h : digsN l = some n) (h3 : l.length ≤ 3) : n ≤ 999 := by
  unfold digsN at h
  split at h
  · rename_i hh
    cases h; exact decF_small l hh.2 h3
  · cases h
def NumEnd2 (o : Option Nat) (w : World) (e : Ending) (w' : World) : Prop := e = .returned (.tuple #[.int .i64 (o.getD 0 : Nat), .bool o.isSome]) ∧ Below w.heap.size w w'
theorem num2_none {o : Option Nat} (h : o = none) {w w' : World} (hb : Below w.heap.size w w') : NumEnd2 o w (.returned (.tuple #[.int .i64 0, .bool false])) w' := by subst h; exact ⟨rfl, hb⟩
theorem num2_some {o : Option Nat} {n : Nat} (h : o = some n) {w w' : World} (hb : Below w.heap.size w w') : NumEnd2 o w (.returned (.tuple #[.int .i64 (n : Int), .bool true])) w' := by subst h; exact ⟨rfl, hb⟩
set_option maxHeartbeats 1000000 in
set_option maxRecDepth 100000 in
theorem pNumber (s : ByteArray) (w : World) (he : Env w) : Calls Tryd.prog 31 #[.string s] w (NumEnd2 (decN s.data.toList) w) := by
  have HL := Lib.hid (str_len s)
  have HE := Lib.hid he
  obtain ⟨o, ho⟩ : ∃ o, o = decN s.data.toList := ⟨_, rfl⟩
  rw [← ho]
  clear he
  by_cases h3 : s.size ≤ 3
  · by_cases h1 : 1 < s.size
    · have hg := str_get s 0 (by omega)
      by_cases h0 : s[0] = 48
      · have ho2 := Lib.hid (show o = none by rw [ho]; unfold decN; rw [if_neg (fun h => h.2.2.1 ⟨by rw [hg]; exact h0, by rw [HL.out]; exact h1⟩)])
        have e2 : ¬ (3 : Int) < (s.size : Int) := by omega
        have e3 : ((s[0].toNat : Int) == 48) = true := by rw [h0]; rfl
        have e4 : (1 : Int) < (s.size : Int) := by omega
        clear ho h0 hg
        go_enter Tryd.func31, Tryd.ntmps31
        go_wp2
        go_ret2
        exact num2_none ho2.out (Below.refl _ _)
      · have ho2 : o = digsN s.data.toList := by rw [ho]; exact decN_digs _ (by rw [HL.out]; exact h3) (by rw [hg]; exact fun h => h0 h.1)
        have HSM : Hid (∀ n, o = some n → n ≤ 999) := fun n hn => digs_small (ho2.symm.trans hn) (by rw [HL.out]; exact h3)
        have HP := Lib.hid (pParse10 s w h3 HE.out)
        rw [← ho2] at HP
        have e2 : ¬ (3 : Int) < (s.size : Int) := by omega
        have e3 : ((s[0].toNat : Int) == 48) = false := by
          rw [beq_eq_false_iff_ne]; intro h; exact h0 (UInt8.toNat_inj.1 (by rw [show (48 : UInt8).toNat = 48 from rfl]; omega))
        have e4 : (1 : Int) < (s.size : Int) := by omega
        clear ho ho2 h0 hg
        cases o with
        | none =>
          have HP2 := Lib.hid (parse_no HP.out)
          clear HP HSM
          go_enter Tryd.func31, Tryd.ntmps31
          go_wp2_with (first | (go_at_call 52; refine HP2.out.mono ?_; rintro e w1 ⟨x, t, p, rfl, hb⟩; refine Hid.out ?_) | fail)
          refine Lib.hid ?_
          go_wp2
          go_ret2
          exact num2_none rfl hb
        | some n =>
          have HP2 := Lib.hid (parse_yes HP.out)
          have hn := HSM.out n rfl
          clear HP HSM
          have i5 : IntKind.i64.wrap (n : Int) = (n : Int) := IntWalk.i64_in _ (by omega)
          go_enter Tryd.func31, Tryd.ntmps31
          go_wp2_with (first | (go_at_call 52; refine HP2.out.mono ?_; rintro e w1 ⟨rfl, hb⟩; refine Hid.out ?_) | fail)
          refine Lib.hid ?_
          go_wp2
          go_ret2
          exact num2_some rfl hb
    · have ho2 : o = digsN s.data.toList := by rw [ho]; exact decN_digs _ (by rw [HL.out]; exact h3) (by rw [HL.out]; exact fun h => h1 h.2)
      have HSM : Hid (∀ n, o = some n → n ≤ 999) := fun n hn => digs_small (ho2.symm.trans hn) (by rw [HL.out]; exact h3)
      have HP := Lib.hid (pParse10 s w h3 HE.out)
      rw [← ho2] at HP
      have e2 : ¬ (3 : Int) < (s.size : Int) := by omega
      have e4 : ¬ (1 : Int) < (s.size : Int) := by omega
      clear ho ho2
      cases o with
      | none =>
        have HP2 := Lib.hid (parse_no HP.out)
        clear HP HSM
        go_enter Tryd.func31, Tryd.ntmps31
        go_wp2_with (first | (go_at_call 52; refine HP2.out.mono ?_; rintro e w1 ⟨x, t, p, rfl, hb⟩; refine Hid.out ?_) | fail)
        refine Lib.hid ?_
        go_wp2
        go_ret2
        exact num2_none rfl hb
      | some n =>
        have HP2 := Lib.hid (parse_yes HP.out)
        have hn := HSM.out n rfl
        clear HP HSM
        have i5 : IntKind.i64.wrap (n : Int) = (n : Int) := IntWalk.i64_in _ (by omega)
        go_enter Tryd.func31, Tryd.ntmps31
        go_wp2_with (first | (go_at_call 52; refine HP2.out.mono ?_; rintro e w1 ⟨rfl, hb⟩; refine Hid.out ?_) | fail)
        refine Lib.hid ?_
        go_wp2
        go_ret2
        exact num2_some rfl hb
  · have ho2 := Lib.hid (show o = none by rw [ho]; unfold decN; rw [if_neg (fun h => h3 (by have := h.2.1; rw [HL.out] at this; exact this))])
    have e2 : (3 : Int) < (s.size : Int) := by omega
    clear ho
    go_enter Tryd.func31, Tryd.ntmps31
    go_wp2
    go_ret2
    exact num2_none ho2.out (Below.refl _ _)
end Go.Proofs.YtdmajikhpacpfaaDoor.Cidr
