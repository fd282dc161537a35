/-
  Both sides, call by call, in one set of words: Send, Take.
-/
import Derived.Test.YtfmphhcdbocgnaaPipeBoth
import Derived.Test.YtfmphhcdbocgnaaRefSend3
import Derived.Test.YtfmphhcdbocgnaaRefSend4
import Derived.Test.YtfmphhcdbocgnaaRefTake
import Derived.Test.YtfmphhcdbocgnaaPipeSend2
namespace Go.Proofs.Ytfmphhcdbocgnaa.Pipe
open Go.RowKit Base
section
variable {own : Nat → Tag} {w : World} {g mb : Nat} {Ps : List (PA × PG)} {f t : ByteArray} {rv : Value} {Rs : List (PA × RG)}
/-- The pipe between two ports, turned. -/
def upd (L : List PA) (f t : ByteArray) (F : PA → PA) : List PA := L.map fun p => if p.f = f ∧ p.t = t then F p else p
theorem upd_none {L : List PA} {f t : ByteArray} (F : PA → PA) (h : ∀ p ∈ L, ¬ (p.f = f ∧ p.t = t)) : upd L f t F = L := by
  unfold upd
  conv => rhs; rw [← List.map_id L]
  refine List.map_congr_left fun p hp => ?_
  rw [if_neg (h p hp)]; rfl
theorem upd_set {L : List PA} (hk : KeysApart L) {i : Nat} {p : PA} (hp : L[i]? = some p) (F : PA → PA) : upd L p.f p.t F = L.set i (F p) := by
  induction L generalizing i with
  | nil => simp at hp
  | cons a r ih =>
    unfold KeysApart at hk
    obtain ⟨h1, h2⟩ := List.pairwise_cons.1 hk
    cases i with
    | zero =>
      simp at hp
      subst hp
      have := upd_none (L := r) (f := a.f) (t := a.t) F (fun q hq e => h1 q hq ⟨e.1.symm, e.2.symm⟩)
      unfold upd at this ⊢
      rw [List.map_cons, this, if_pos ⟨rfl, rfl⟩]; rfl
    | succ k =>
      have hp' : r[k]? = some p := by simpa using hp
      have hne := h1 p (List.mem_of_getElem? hp')
      have := ih h2 hp'
      unfold upd at this ⊢
      rw [List.map_cons, this, if_neg hne]; rfl
def sendCode (L : List PA) (f t : ByteArray) (n : Nat) : Int := match L.find? (fun p => decide (p.f = f) && decide (p.t = t)) with | some p => if 65536 < n then 53 else if p.most ≤ p.q.length then 51 else 0 | none => 52
def sendL (L : List PA) (f t : ByteArray) (l : List UInt8) : List PA := if sendCode L f t l.length = 0 then upd L f t (fun p => { p with q := p.q ++ [l] }) else L
def takeCode (L : List PA) (f t : ByteArray) : Int := match L.find? (fun p => decide (p.f = f) && decide (p.t = t)) with | some p => if p.q.isEmpty then 54 else 0 | none => 52
def takeB (L : List PA) (f t : ByteArray) : List UInt8 := match L.find? (fun p => decide (p.f = f) && decide (p.t = t)) with | some p => p.q.headD [] | none => []
def takeL (L : List PA) (f t : ByteArray) : List PA := upd L f t (fun p => { p with q := p.q.tail })
theorem fst_at {α : Type} {Xs : List (PA × α)} {i : Nat} {p : PA × α} (h : Xs[i]? = some p) : (Xs.map Prod.fst)[i]? = some p.1 := by rw [List.getElem?_map, h]; rfl
theorem fst_set {α : Type} (Xs : List (PA × α)) (i : Nat) (a : PA) (b : α) : (Xs.set i (a, b)).map Prod.fst = (Xs.map Prod.fst).set i a := by rw [List.map_set]
theorem fst_no {α : Type} {Xs : List (PA × α)} {f t : ByteArray} (h : ∀ p ∈ Xs, ¬ (p.1.f = f ∧ p.1.t = t)) : ∀ p ∈ Xs.map Prod.fst, ¬ (p.f = f ∧ p.t = t) := fun x hx => by
  obtain ⟨p, hp, rfl⟩ := List.mem_map.1 hx
  exact h p hp
theorem code_at {L : List PA} (hk : KeysApart L) {i : Nat} {p : PA} (hp : L[i]? = some p) (n : Nat) : sendCode L p.f p.t n = if 65536 < n then 53 else if p.most ≤ p.q.length then 51 else 0 := by
  unfold sendCode; rw [apart_of hk hp]
theorem code_no {L : List PA} (h : ∀ p ∈ L, ¬ (p.f = f ∧ p.t = t)) (n : Nat) : sendCode L f t n = 52 := by unfold sendCode; rw [find_none h]
theorem sendL_ok {L : List PA} (hk : KeysApart L) {i : Nat} {p : PA} (hp : L[i]? = some p) {l : List UInt8} (h1 : ¬ 65536 < l.length) (h2 : ¬ p.most ≤ p.q.length) : sendCode L p.f p.t l.length = 0 ∧ sendL L p.f p.t l = L.set i { p with q := p.q ++ [l] } := by
  have h : sendCode L p.f p.t l.length = 0 := by rw [code_at hk hp, if_neg h1, if_neg h2]
  exact ⟨h, by unfold sendL; rw [if_pos h, upd_set hk hp]⟩
theorem sendL_same {L : List PA} {l : List UInt8} (h : ¬ sendCode L f t l.length = 0) : sendL L f t l = L := by unfold sendL; rw [if_neg h]
def PSendEnd (own : Nat → Tag) (w : World) (g mb : Nat) (L : List PA) (f t : ByteArray) (l : List UInt8) (e : Ending) (w' : World) : Prop :=
  ∃ own' Ps', e = .returned (.int .i64 (sendCode L f t l.length)) ∧ Holds own' w' g mb Ps' ∧ Ps'.map Prod.fst = sendL L f t l ∧ Step own w own' w'
theorem pSend (h : Holds own w g mb Ps) {v : Value} {l : List UInt8} (hf : f.size ≤ maxLen) (ht : t.size ≤ maxLen) (hr : Reads w v l) :
    Calls Try.prog 11 #[.pointer (some ⟨g, 0, none⟩), .string f, .string t, v] w (PSendEnd own w g mb (Ps.map Prod.fst) f t l) := by
  have same : ∀ {n : Int} {e : Ending} {w' : World}, AnsEnd n w e w' → sendCode (Ps.map Prod.fst) f t l.length = n → n ≠ 0 → PSendEnd own w g mb (Ps.map Prod.fst) f t l e w' := fun {n e w'} ⟨he, bb⟩ hc hn =>
    ⟨own, Ps, by rw [hc]; exact he, h.on bb, (sendL_same (by rw [hc]; exact hn)).symm, Step.of_below bb⟩
  rcases find_cases Ps f t with ⟨i, p, hp, rfl, rfl⟩ | hno
  · have hk := h.apart
    have hP := h.pipes i p hp
    by_cases h1 : 65536 < l.length
    · exact (cSendLong h hp hr h1).mono fun e w' hh => same hh (by rw [code_at hk (fst_at hp), if_pos h1]) (by decide)
    · by_cases h2 : p.1.most ≤ p.1.q.length
      · exact (cSendFull h hp hr (by omega) (by have := hP.fits; omega)).mono fun e w' hh => same hh (by rw [code_at hk (fst_at hp), if_neg h1, if_pos h2]) (by decide)
      · obtain ⟨k1, k2⟩ := sendL_ok hk (fst_at hp) h1 h2
        exact (cSendOk h hp hr (by omega) (by omega)).mono fun e w' ⟨he, own', G', hh, hs⟩ => ⟨own', _, by rw [k1]; exact he, hh, by rw [fst_set, k2], hs⟩
  · exact (cSendNo h hf ht hno v).mono fun e w' hh => same hh (code_no (fst_no hno) _) (by decide)
def QSendEnd (own : Nat → Tag) (w : World) (g : Nat) (L : List PA) (f t : ByteArray) (l : List UInt8) (e : Ending) (w' : World) : Prop :=
  ∃ own' rv' Rs', e = .returned (.int .i64 (sendCode L f t l.length)) ∧ RHolds own' w' g rv' Rs' ∧ Rs'.map Prod.fst = sendL L f t l ∧ StepR own w own' w'
theorem qSend (h : RHolds own w g rv Rs) (hk : KeysApart (Rs.map Prod.fst)) (hn : Rs.length ≤ 1000000) (hF : Fine (Rs.map Prod.fst)) {v : Value} {l : List UInt8} (hr : Reads w v l) :
    Calls Try.prog 16 #[.pointer (some ⟨g, 0, none⟩), .string f, .string t, v] w (QSendEnd own w g (Rs.map Prod.fst) f t l) := by
  have same : ∀ {n : Int} {e : Ending} {w' : World}, AnsEnd n w e w' → sendCode (Rs.map Prod.fst) f t l.length = n → n ≠ 0 → QSendEnd own w g (Rs.map Prod.fst) f t l e w' := fun {n e w'} ⟨he, bb⟩ hc hn =>
    ⟨own, rv, Rs, by rw [hc]; exact he, h.on bb, (sendL_same (by rw [hc]; exact hn)).symm, StepR.of_below bb⟩
  rcases find_casesR Rs f t with ⟨i, p, hp, rfl, rfl⟩ | hno
  · have hf := hF p.1 (List.mem_map.2 ⟨p, List.mem_of_getElem? hp, rfl⟩)
    by_cases h1 : 65536 < l.length
    · exact (rSendLong h hk hn hp hr h1).mono fun e w' hh => same hh (by rw [code_at hk (fst_at hp), if_pos h1]) (by decide)
    · by_cases h2 : p.1.most ≤ p.1.q.length
      · exact (rSendFull h hk hn hp hr (by omega) hf.2.1 h2).mono fun e w' hh => same hh (by rw [code_at hk (fst_at hp), if_neg h1, if_pos h2]) (by decide)
      · obtain ⟨k1, k2⟩ := sendL_ok hk (fst_at hp) h1 h2
        exact (rSendOk h hk hn hp hr (by omega) hf.2.1 (by omega)).mono fun e w' ⟨he, own', rv', G', hh, hs⟩ => ⟨own', rv', _, by rw [k1]; exact he, hh, by rw [fst_set, k2], hs⟩
  · exact (rSendNo h f t hno hn v).mono fun e w' hh => same hh (code_no (fst_no hno) _) (by decide)
theorem take_no {L : List PA} (h : ∀ p ∈ L, ¬ (p.f = f ∧ p.t = t)) : takeCode L f t = 52 ∧ takeB L f t = [] ∧ takeL L f t = L :=
  ⟨by unfold takeCode; rw [find_none h], by unfold takeB; rw [find_none h], upd_none _ h⟩
theorem take_empty {L : List PA} (hk : KeysApart L) {i : Nat} {p : PA} (hp : L[i]? = some p) (he : p.q = []) : takeCode L p.f p.t = 54 ∧ takeB L p.f p.t = [] ∧ takeL L p.f p.t = L := by
  refine ⟨by unfold takeCode; rw [apart_of hk hp]; simp [he], by unfold takeB; rw [apart_of hk hp]; simp [he], ?_⟩
  unfold takeL
  rw [upd_set hk hp]
  have : ({ p with q := p.q.tail } : PA) = p := by cases p; simp at he; subst he; rfl
  rw [this]
  obtain ⟨hi, hx⟩ := List.getElem?_eq_some_iff.1 hp
  subst hx
  exact List.set_getElem_self hi
theorem take_ok {L : List PA} (hk : KeysApart L) {i : Nat} {p : PA} (hp : L[i]? = some p) {l : List UInt8} {q : List (List UInt8)} (he : p.q = l :: q) : takeCode L p.f p.t = 0 ∧ takeB L p.f p.t = l ∧ takeL L p.f p.t = L.set i { p with q := q } := by
  refine ⟨by unfold takeCode; rw [apart_of hk hp]; simp [he], by unfold takeB; rw [apart_of hk hp]; simp [he], ?_⟩
  unfold takeL
  rw [upd_set hk hp, he]; rfl
def PTakeEnd (own : Nat → Tag) (w : World) (g mb : Nat) (L : List PA) (f t : ByteArray) (e : Ending) (w' : World) : Prop :=
  ∃ v own' Ps', e = .returned (.tuple #[v, .int .i64 (takeCode L f t)]) ∧ Holds own' w' g mb Ps' ∧ Ps'.map Prod.fst = takeL L f t ∧ Step own w own' w' ∧ Owns w' 0 v (takeB L f t) ∧ ∀ x, v.ownBlock = some x → own' x = .no ∧ ∃ t, own x = .p t
theorem pTake (h : Holds own w g mb Ps) (hf : f.size ≤ maxLen) (ht : t.size ≤ maxLen) :
    Calls Try.prog 12 #[.pointer (some ⟨g, 0, none⟩), .string f, .string t] w (PTakeEnd own w g mb (Ps.map Prod.fst) f t) := by
  have same : ∀ {n : Int} {e : Ending} {w' : World}, NoneEnd n w e w' → (takeCode (Ps.map Prod.fst) f t = n ∧ takeB (Ps.map Prod.fst) f t = [] ∧ takeL (Ps.map Prod.fst) f t = Ps.map Prod.fst) → PTakeEnd own w g mb (Ps.map Prod.fst) f t e w' := fun {n e w'} ⟨he, hw⟩ ⟨k1, k2, k3⟩ => by
    subst hw
    exact ⟨_, own, Ps, by rw [k1]; exact he, h, k3.symm, Step.refl _ _, by rw [k2]; exact owns_nil _ _, fun x hx => by cases hx⟩
  rcases find_cases Ps f t with ⟨i, p, hp, rfl, rfl⟩ | hno
  · have hk := h.apart
    cases hq : p.1.q with
    | nil => exact (cTakeEmpty h hp hq).mono fun e w' hh => same hh (take_empty hk (fst_at hp) hq)
    | cons l q =>
      obtain ⟨k1, k2, k3⟩ := take_ok hk (fst_at hp) hq
      exact (cTakeOk h hp hq).mono fun e w' ⟨v, own', G', he, hh, hs, ho, hx⟩ => ⟨v, own', _, by rw [k1]; exact he, hh, by rw [fst_set, k3], hs, by rw [k2]; exact ho, hx⟩
  · exact (cTakeNo h hf ht hno).mono fun e w' hh => same hh (take_no (fst_no hno))
def QTakeEnd (own : Nat → Tag) (w : World) (g : Nat) (L : List PA) (f t : ByteArray) (e : Ending) (w' : World) : Prop :=
  ∃ v own' rv' Rs', e = .returned (.tuple #[v, .int .i64 (takeCode L f t)]) ∧ RHolds own' w' g rv' Rs' ∧ Rs'.map Prod.fst = takeL L f t ∧ StepR own w own' w' ∧ Owns w' 0 v (takeB L f t) ∧ ∀ x, v.ownBlock = some x → own' x = .r .msg
theorem qTake (h : RHolds own w g rv Rs) (hk : KeysApart (Rs.map Prod.fst)) (hn : Rs.length ≤ 1000000) (hF : Fine (Rs.map Prod.fst)) :
    Calls Try.prog 17 #[.pointer (some ⟨g, 0, none⟩), .string f, .string t] w (QTakeEnd own w g (Rs.map Prod.fst) f t) := by
  have same : ∀ {n : Int} {e : Ending} {w' : World}, NoneEnd n w e w' → (takeCode (Rs.map Prod.fst) f t = n ∧ takeB (Rs.map Prod.fst) f t = [] ∧ takeL (Rs.map Prod.fst) f t = Rs.map Prod.fst) → QTakeEnd own w g (Rs.map Prod.fst) f t e w' := fun {n e w'} ⟨he, hw⟩ ⟨k1, k2, k3⟩ => by
    subst hw
    exact ⟨_, own, rv, Rs, by rw [k1]; exact he, h, k3.symm, StepR.refl _ _, by rw [k2]; exact owns_nil _ _, fun x hx => by cases hx⟩
  rcases find_casesR Rs f t with ⟨i, p, hp, rfl, rfl⟩ | hno
  · have hf := hF p.1 (List.mem_map.2 ⟨p, List.mem_of_getElem? hp, rfl⟩)
    cases hq : p.1.q with
    | nil => exact (rTakeEmpty h hk hp hn hq).mono fun e w' hh => same hh (take_empty hk (fst_at hp) hq)
    | cons l q =>
      obtain ⟨k1, k2, k3⟩ := take_ok hk (fst_at hp) hq
      have hql : q.length ≤ 64 := by have h1 := hf.2.1; have h2 := hf.2.2.1; rw [hq] at h2; simp at h2; omega
      exact (rTakeOk h hk hn hp hq hql).mono fun e w' ⟨v, own', rv', G', he, hh, hs, ho, hx⟩ => ⟨v, own', rv', _, by rw [k1]; exact he, hh, by rw [fst_set, k3], hs, by rw [k2]; exact ho, hx⟩
  · exact (rTakeNo h f t hno hn).mono fun e w' hh => same hh (take_no (fst_no hno))
end
end Go.Proofs.Ytfmphhcdbocgnaa.Pipe
