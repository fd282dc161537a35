/-
  Both sides, call by call, in one set of words.
-/
import Derived.Test.YtfmphhcdbocgnaaRefClear
import Derived.Test.YtfmphhcdbocgnaaPipeTake
import Derived.Test.YtfmphhcdbocgnaaPipeOpen2
namespace Go.Proofs.Ytfmphhcdbocgnaa.Pipe
open Go.RowKit Base
open Go.Proofs (encStr)
section
variable {own : Nat → Tag} {w : World} {g mb : Nat} {Ps : List (PA × PG)} {f t : ByteArray}
def POpenEnd (own : Nat → Tag) (w : World) (g mb : Nat) (L : List PA) (f t : ByteArray) (most : Int) (e : Ending) (w' : World) : Prop :=
  ∃ own' Ps', e = .returned (.int .i64 (openCode L f t most)) ∧ Holds own' w' g mb Ps' ∧ Ps'.map Prod.fst = openL L f t most ∧ Step own w own' w'
theorem portsOf_fst (Ps : List (PA × PG)) : portsOf Ps = portsA (Ps.map Prod.fst) := by
  unfold portsOf portsA; rw [List.flatMap_map]
theorem pOpen (h : Holds own w g mb Ps) (hn : Ps.length ≤ 1000000) (f t : ByteArray) (most : Int) (hf : f.size ≤ maxLen) (ht : t.size ≤ maxLen) :
    Calls Try.prog 10 #[.pointer (some ⟨g, 0, none⟩), .string f, .string t, .int .i64 most] w (POpenEnd own w g mb (Ps.map Prod.fst) f t most) := by
  have bad : ∀ (_ : openBad (Ps.map Prod.fst) f t = true), Calls Try.prog 10 #[.pointer (some ⟨g, 0, none⟩), .string f, .string t, .int .i64 most] w (AnsEnd 50 w) → Calls Try.prog 10 #[.pointer (some ⟨g, 0, none⟩), .string f, .string t, .int .i64 most] w (POpenEnd own w g mb (Ps.map Prod.fst) f t most) := fun hb hc =>
    hc.mono fun e w' ⟨he, bb⟩ => ⟨own, Ps, by unfold openCode; rw [if_pos hb]; exact he, h.on bb, by unfold openL; rw [if_pos hb], Step.of_below bb⟩
  cases p1 : portB f.data.toList with
  | false => exact bad (by unfold openBad; rw [p1]; rfl) (cOpenBad1 g f t most hf p1)
  | true =>
    cases p2 : portB t.data.toList with
    | false => exact bad (by unfold openBad; rw [p1, p2]; rfl) (cOpenBad2 g f t most hf ht p1 p2)
    | true =>
      by_cases p3 : f = t
      · have hb : openBad (Ps.map Prod.fst) f t = true := by unfold openBad; rw [decide_eq_true p3]; simp
        refine bad hb ?_
        subst p3
        exact cOpenBad3 g f most hf p1
      · rcases find_cases Ps f t with ⟨i, p, hp, rfl, rfl⟩ | hno
        · refine bad ?_ (cOpenBad4 h hp most hf ht p1 p2 p3)
          have : hasPipe (Ps.map Prod.fst) p.1.f p.1.t = true := by
            unfold hasPipe
            rw [List.any_eq_true]
            exact ⟨p.1, List.mem_map.2 ⟨p, List.mem_of_getElem? hp, rfl⟩, by simp⟩
          unfold openBad; rw [this]; simp
        · have hhp : hasPipe (Ps.map Prod.fst) f t = false := hasPipe_no.2 fun x hx => by
            obtain ⟨p, hp, rfl⟩ := List.mem_map.1 hx
            exact hno p hp
          by_cases p4 : 32 < (onceL ([f.data.toList, t.data.toList] ++ portsOf Ps)).length
          · exact bad (by unfold openBad; rw [← portsOf_fst, decide_eq_true p4]; simp) (cOpenFull h f t most hf ht p1 p2 p3 hno hn p4)
          · have hb : openBad (Ps.map Prod.fst) f t = false := by unfold openBad; rw [p1, p2, decide_eq_false p3, hhp, ← portsOf_fst, decide_eq_false p4]; rfl
            by_cases p5 : most < 1 ∨ 64 < most
            · exact (cOpenArg h f t most hf ht p1 p2 p3 hno hn p4 p5).mono fun e w' ⟨he, bb⟩ => ⟨own, Ps, by unfold openCode; rw [hb, if_neg (by simp), if_pos p5]; exact he, h.on bb, by unfold openL; rw [hb, if_neg (by simp), if_pos p5], Step.of_below bb⟩
            · obtain ⟨mn, rfl⟩ := Int.eq_ofNat_of_zero_le (show 0 ≤ most by omega)
              exact (cOpenOk h f t mn hf ht p1 p2 p3 hno hn p4 (by omega) (by omega)).mono fun e w' ⟨he, own', G', k1, k2⟩ =>
                ⟨own', _, by unfold openCode; rw [hb, if_neg (by simp), if_neg p5]; exact he, k1, by unfold openL; rw [hb, if_neg (by simp), if_neg p5, List.map_append, Int.toNat_natCast]; rfl, k2⟩
/-- Which pipe of a list. -/
def idx (L : List PA) (f t : ByteArray) : Option Nat := L.findIdx? fun p => decide (p.f = f) && decide (p.t = t)
def lenA (L : List PA) (f t : ByteArray) : Int := match L.find? (fun p => decide (p.f = f) && decide (p.t = t)) with | some p => p.q.length | none => 0
def roomA (L : List PA) (f t : ByteArray) : Int := match L.find? (fun p => decide (p.f = f) && decide (p.t = t)) with | some p => (p.most : Int) - (p.q.length : Int) | none => 0
theorem apart_of {L : List PA} (hk : KeysApart L) {i : Nat} {p : PA} (hp : L[i]? = some p) : L.find? (fun x => decide (x.f = p.f) && decide (x.t = p.t)) = some p := by
  induction L generalizing i with
  | nil => simp at hp
  | cons a r ih =>
    unfold KeysApart at hk
    obtain ⟨h1, h2⟩ := List.pairwise_cons.1 hk
    cases i with
    | zero => simp at hp; subst hp; simp
    | succ k =>
      have hp' : r[k]? = some p := by simpa using hp
      have := h1 p (List.mem_of_getElem? hp')
      rw [List.find?_cons_of_neg (by simpa using this)]
      exact ih h2 hp'
theorem find_none {L : List PA} {f t : ByteArray} (h : ∀ p ∈ L, ¬ (p.f = f ∧ p.t = t)) : L.find? (fun x => decide (x.f = f) && decide (x.t = t)) = none := by
  rw [List.find?_eq_none]
  intro x hx
  simpa using h x hx
theorem Holds.apart (h : Holds own w g mb Ps) : KeysApart (Ps.map Prod.fst) := by
  have := h.map.apart
  rw [List.pairwise_map] at this
  unfold KeysApart
  rw [List.pairwise_map]
  exact this.imp fun {a b} hne e => hne (by simp [entry, e.1, e.2])
theorem pLen (h : Holds own w g mb Ps) (hf : f.size ≤ maxLen) (ht : t.size ≤ maxLen) :
    Calls Try.prog 13 #[.pointer (some ⟨g, 0, none⟩), .string f, .string t] w (AnsEnd (lenA (Ps.map Prod.fst) f t) w) := by
  rcases find_cases Ps f t with ⟨i, p, hp, rfl, rfl⟩ | hno
  · refine (cLen h hp).mono fun e w' ⟨he, hw⟩ => ⟨?_, Below.of_eq hw⟩
    unfold lenA
    rw [apart_of h.apart (i := i) (p := p.1) (by rw [List.getElem?_map, hp]; rfl)]; exact he
  · refine (cLenNo h hf ht hno).mono fun e w' ⟨he, hw⟩ => ⟨?_, Below.of_eq hw⟩
    unfold lenA
    rw [find_none (fun x hx => by obtain ⟨p, hp, rfl⟩ := List.mem_map.1 hx; exact hno p hp)]; exact he
theorem pRoom (h : Holds own w g mb Ps) (hf : f.size ≤ maxLen) (ht : t.size ≤ maxLen) :
    Calls Try.prog 14 #[.pointer (some ⟨g, 0, none⟩), .string f, .string t] w (AnsEnd (roomA (Ps.map Prod.fst) f t) w) := by
  rcases find_cases Ps f t with ⟨i, p, hp, rfl, rfl⟩ | hno
  · refine (cRoom h hp).mono fun e w' ⟨he, hw⟩ => ⟨?_, hw⟩
    unfold roomA
    rw [apart_of h.apart (i := i) (p := p.1) (by rw [List.getElem?_map, hp]; rfl)]; exact he
  · refine (cRoomNo h hf ht hno).mono fun e w' ⟨he, hw⟩ => ⟨?_, Below.of_eq hw⟩
    unfold roomA
    rw [find_none (fun x hx => by obtain ⟨p, hp, rfl⟩ := List.mem_map.1 hx; exact hno p hp)]; exact he
variable {rv : Value} {Rs : List (PA × RG)}
theorem find_casesR (Rs : List (PA × RG)) (f t : ByteArray) : (∃ (i : Nat) (p : PA × RG), Rs[i]? = some p ∧ p.1.f = f ∧ p.1.t = t) ∨ ∀ p ∈ Rs, ¬ (p.1.f = f ∧ p.1.t = t) := by
  by_cases h : ∃ p ∈ Rs, p.1.f = f ∧ p.1.t = t
  · obtain ⟨p, hp, h⟩ := h
    obtain ⟨i, hi⟩ := List.getElem?_of_mem hp
    exact Or.inl ⟨i, p, hi, h⟩
  · exact Or.inr fun p hp hx => h ⟨p, hp, hx⟩
theorem qLen (h : RHolds own w g rv Rs) (hk : KeysApart (Rs.map Prod.fst)) (hn : Rs.length ≤ 1000000) :
    Calls Try.prog 22 #[.pointer (some ⟨g, 0, none⟩), .string f, .string t] w (AnsEnd (lenA (Rs.map Prod.fst) f t) w) := by
  rcases find_casesR Rs f t with ⟨i, p, hp, rfl, rfl⟩ | hno
  · refine (rLen h hk hp hn).mono fun e w' ⟨he, hw⟩ => ⟨?_, Below.of_eq hw⟩
    unfold lenA
    rw [apart_of hk (i := i) (p := p.1) (by rw [List.getElem?_map, hp]; rfl)]; exact he
  · refine (rLenNo h f t hno hn).mono fun e w' ⟨he, hw⟩ => ⟨?_, Below.of_eq hw⟩
    unfold lenA
    rw [find_none (fun x hx => by obtain ⟨p, hp, rfl⟩ := List.mem_map.1 hx; exact hno p hp)]; exact he
/-- What every pipe of the list is. -/
def Fine (L : List PA) : Prop := ∀ p ∈ L, 1 ≤ p.most ∧ p.most ≤ 64 ∧ p.q.length ≤ p.most ∧ (∀ l ∈ p.q, l.length ≤ 65536)
theorem Holds.fine (h : Holds own w g mb Ps) : Fine (Ps.map Prod.fst) := fun x hx => by
  obtain ⟨p, hp, rfl⟩ := List.mem_map.1 hx
  obtain ⟨i, hi⟩ := List.getElem?_of_mem hp
  have hP := h.pipes i p hi
  exact ⟨hP.most1, hP.most2, hP.fits, hP.short⟩
theorem qRoom (h : RHolds own w g rv Rs) (hk : KeysApart (Rs.map Prod.fst)) (hn : Rs.length ≤ 1000000) (hF : Fine (Rs.map Prod.fst)) :
    Calls Try.prog 23 #[.pointer (some ⟨g, 0, none⟩), .string f, .string t] w (AnsEnd (roomA (Rs.map Prod.fst) f t) w) := by
  rcases find_casesR Rs f t with ⟨i, p, hp, rfl, rfl⟩ | hno
  · have hf := hF p.1 (List.mem_map.2 ⟨p, List.mem_of_getElem? hp, rfl⟩)
    refine (rRoom h hk hp hn hf.2.1 hf.2.2.1).mono fun e w' ⟨he, hw⟩ => ⟨?_, hw⟩
    unfold roomA
    rw [apart_of hk (i := i) (p := p.1) (by rw [List.getElem?_map, hp]; rfl)]; exact he
  · refine (rRoomNo h f t hno hn).mono fun e w' ⟨he, hw⟩ => ⟨?_, Below.of_eq hw⟩
    unfold roomA
    rw [find_none (fun x hx => by obtain ⟨p, hp, rfl⟩ := List.mem_map.1 hx; exact hno p hp)]; exact he
end
end Go.Proofs.Ytfmphhcdbocgnaa.Pipe
