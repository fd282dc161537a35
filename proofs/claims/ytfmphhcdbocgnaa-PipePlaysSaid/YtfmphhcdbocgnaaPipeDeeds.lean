/-
  How a list of deeds is opened.
-/
import Derived.Test.YtfmphhcdbocgnaaPipeLooks2
import Derived.Test.YtfmphhcdbocgnaaPipeArgs
import Derived.Deep.Slices
import Derived.Deep.Fields
import Derived.ChangeSame
import Derived.SizedLaws
namespace Go.Proofs.Ytfmphhcdbocgnaa.Pipe
open Go.ChangeShapes Go.WideShapes Go.ChangeAt Go.RowKit Base Go.Deep
structure DM where
  k : Int
  f : ByteArray
  t : ByteArray
  most : Int
  va : Option Addr
  vc : Nat
  l : List UInt8
instance : Inhabited DM := ⟨⟨0, ⟨#[]⟩, ⟨#[]⟩, 0, none, 0, []⟩⟩
def DM.agg (d : DM) : Value := .agg #[.int .i64 d.k, .string d.f, .string d.t, .int .i64 d.most, .slice d.va d.l.length d.vc]
def DM.At (W : World) (b o : Nat) (d : DM) : Prop :=
  W.cell? ⟨b, o, none⟩ = some (.int .i64 d.k) ∧ W.cell? ⟨b, o + 1, none⟩ = some (.string d.f) ∧ W.cell? ⟨b, o + 2, none⟩ = some (.string d.t) ∧ W.cell? ⟨b, o + 3, none⟩ = some (.int .i64 d.most) ∧
    W.cell? ⟨b, o + 4, none⟩ = some (.slice d.va d.l.length d.vc) ∧ d.f.size ≤ maxLen ∧ d.t.size ≤ maxLen ∧ Reads W (.slice d.va d.l.length d.vc) d.l ∧ d.l.length ≤ 140737488351232
def Deeds (W : World) (A : Option Addr) (ds : List DM) : Prop := ∀ (i : Nat) (d : DM), ds[i]? = some d → ∃ b o, A = some ⟨b, o, none⟩ ∧ d.At W b (o + i * 5)
theorem weights_all {H : Type} {P : Program} {e : TypeId} : ∀ {l : List (DataW H)} {i : Nat} {d : DataW H}, l[i]? = some d → (DataW.weightsAll P e l).all (· ≤ reachBytes) = true → (d.weights P e).all (· ≤ reachBytes) = true
  | [], i, d, hi, _ => by simp at hi
  | x :: r, i, d, hi, h => by
    unfold DataW.weightsAll at h
    rw [List.all_append, Bool.and_eq_true] at h
    cases i with
    | zero => simp at hi; subst hi; exact h.1
    | succ n => exact weights_all (by simpa using hi) h.2
theorem weights_each {H : Type} {P : Program} : ∀ {ts : List TypeId} {l : List (DataW H)} {j : Nat} {t : TypeId} {d : DataW H}, ts[j]? = some t → l[j]? = some d → (DataW.weightsEach P ts l).all (· ≤ reachBytes) = true → (d.weights P t).all (· ≤ reachBytes) = true
  | [], _, j, _, _, hj, _, _ => by simp at hj
  | _ :: _, [], j, _, _, _, hj, _ => by simp at hj
  | u :: us, x :: r, j, t, d, hj, hd, h => by
    unfold DataW.weightsEach at h
    rw [List.all_append, Bool.and_eq_true] at h
    cases j with
    | zero => simp at hj hd; subst hj; subst hd; exact h.1
    | succ n => exact weights_each (by simpa using hj) (by simpa using hd) h.2
theorem cells31 : Try.prog.cellsOf 31 = 5 := by kernel_rfl
theorem bytes5 : Try.prog.bytesOf 5 = 1 := by kernel_rfl
theorem cellsInt : Try.prog.cellsOf 3 = 1 := by kernel_rfl
theorem cellsStr : Try.prog.cellsOf 9 = 1 := by kernel_rfl
theorem bytes_in {H : Type} {enc : TypeId × Value → H} {W : World} {v : Value} {n : Nat} {y : DataW H × List MemPlace} (h : DataW.trod enc Try.prog W 0 (fun _ => true) true n 29 [v] = some y) :
    ∃ (va : Option Addr) (vc : Nat) (l : List UInt8), v = .slice va l.length vc ∧ Reads W v l ∧ ((y.1.weights Try.prog 29).all (· ≤ reachBytes) = true → l.length ≤ 140737488351232) := by
  rcases open_ints Try.underlying29 Try.underlying5 cells5 h with ⟨hcs, _⟩ | ⟨a, len, cap, zs, hcs, _, hl, _, hz, hx, hcell, hwz⟩
  · obtain rfl : v = .slice none 0 0 := by simpa using hcs
    exact ⟨none, 0, [], rfl, Or.inl ⟨rfl, none, 0, rfl, fun _ => rfl⟩, fun _ => Nat.zero_le _⟩
  · obtain rfl : v = .slice (some a) len cap := by simpa using hcs
    have hzl : zs.length = cap := by simpa using hz
    obtain ⟨l, hll, hr⟩ := reads_of_cells (a := some a) (n := len) (c := cap) hl hzl hwz (fun h => by cases h) (fun a' ha i hi => by cases ha; exact hcell i (by omega))
    refine ⟨some a, cap, l, by rw [hll], hr, fun hw => ?_⟩
    rw [hx] at hw
    unfold DataW.weights at hw
    rw [Try.underlying29] at hw
    simp only [List.all_cons, Bool.and_eq_true, decide_eq_true_eq] at hw
    have h1 := hw.1
    rw [bytes5] at h1
    have e : reachBytes = 140737488351232 := rfl
    simp [lits] at h1
    omega
theorem deed_at {H : Type} {enc : TypeId × Value → H} {W : World} {ab ao : Nat} {i n : Nat} {cs : List Value} {y : DataW H × List MemPlace} (hc : W.cells? 0 ((⟨ab, ao, none⟩ : Addr).add (i * 5)) 5 = some cs) (h : DataW.trod enc Try.prog W 0 (fun _ => true) true n 31 cs = some y)
    (hw : (y.1.weights Try.prog 31).all (· ≤ reachBytes) = true) : ∃ (d : DM), d.At W ab (ao + i * 5) := by
  obtain ⟨ys, m, _, hy, hlen, hyl, hf⟩ := DataW.trod_struct Try.underlying31 h
  obtain ⟨_, hcl, hat⟩ := World.cells?_some hc
  match cs, hcl with
  | [c0, c1, c2, c3, c4], _ =>
    have q0 := hat 0 (by omega)
    match ys, hyl with
    | [y0, y1, y2, y3, y4], _ =>
      have g0 : DataW.trod enc Try.prog W 0 (fun _ => true) true m 3 [c0] = some y0 := by simpa [cellsInt] using hf 0 _ rfl
      have g1 : DataW.trod enc Try.prog W 0 (fun _ => true) true m 9 [c1] = some y1 := by simpa [cellsStr] using hf 1 _ rfl
      have g2 : DataW.trod enc Try.prog W 0 (fun _ => true) true m 9 [c2] = some y2 := by simpa [cellsStr] using hf 2 _ rfl
      have g3 : DataW.trod enc Try.prog W 0 (fun _ => true) true m 3 [c3] = some y3 := by simpa [cellsInt] using hf 3 _ rfl
      have g4 : DataW.trod enc Try.prog W 0 (fun _ => true) true m 29 [c4] = some y4 := by simpa [cells29] using hf 4 _ rfl
      obtain ⟨k, e0, _, _⟩ := DataW.trod_int Try.underlying3 g0
      obtain ⟨f, e1, _, hfs⟩ := DataW.trod_string Try.underlying9 g1
      obtain ⟨t, e2, _, hts⟩ := DataW.trod_string Try.underlying9 g2
      obtain ⟨mo, e3, _, _⟩ := DataW.trod_int Try.underlying3 g3
      obtain ⟨va, vc, l, rfl, hr, hlw⟩ := bytes_in (v := c4) g4
      simp at e0 e1 e2 e3
      subst e0 e1 e2 e3
      have q1 := hat 1 (by omega)
      have q2 := hat 2 (by omega)
      have q3 := hat 3 (by omega)
      have q4 := hat 4 (by omega)
      simp only [Addr.add_lit, Nat.add_zero] at q0 q1 q2 q3 q4
      rw [hy] at hw
      unfold DataW.weights at hw
      rw [Try.underlying31] at hw
      have h4 := weights_each (j := 4) (t := 29) (d := y4.1) (by rfl) (by rfl) hw
      exact ⟨⟨k, f, t, mo, va, vc, l⟩, q0, q1, q2, q3, q4, hfs, hts, hr, hlw h4⟩
theorem open_deeds {H : Type} {enc : TypeId × Value → H} {W : World} {v : Value} {d : DataW H} {p : List MemPlace} {base : Nat} (hval : Value.okWide Try.prog W .any base 22 v)
    (h : DataW.Trod enc Try.prog W 0 (fun _ => true) true 22 v d p) (hw : (d.weights Try.prog 22).all (· ≤ reachBytes) = true) : ∃ A c ds, v = .slice A (List.length ds) c ∧ Deeds W A ds ∧ ds.length ≤ 9223372036854775807 := by
  obtain ⟨a1, len, cap, rfl⟩ := okWide_slice Try.underlying22 hval
  obtain ⟨fuel, hf⟩ := h
  rcases open_slice Try.underlying22 hf with ⟨hcs, _⟩ | ⟨a, len', cap', m, n, D, Pl, hcs, _, hl, hm, hmm, hx, hi⟩
  · simp [Value.cells] at hcs
    obtain ⟨rfl, rfl, rfl⟩ := hcs
    exact ⟨none, 0, [], rfl, (fun i l hi => by simp at hi), Nat.zero_le _⟩
  · simp [Value.cells] at hcs
    obtain ⟨rfl, rfl, rfl⟩ := hcs
    simp only [Prod.mk.injEq] at hx
    obtain ⟨rfl, _⟩ := hx
    unfold DataW.weights at hw
    rw [Try.underlying22] at hw
    simp only [List.all_cons, List.all_append, Bool.and_eq_true] at hw
    have hw1 := hw.2.1
    rw [cells31] at hi
    by_cases h0 : len = 0
    · subst h0
      exact ⟨some a, cap, [], rfl, (fun i l hi => by simp at hi), Nat.zero_le _⟩
    obtain ⟨cs0, z1, _⟩ := hi 0 (by simp at hmm; omega)
    obtain ⟨_, z2, z3⟩ := World.cells?_some z1
    obtain ⟨ab, ao, spot⟩ := a
    have hspot : spot = none := by
      have z4 := z3 0 (by omega)
      have z5 := World.cell?_spot (z4.trans (List.getElem?_eq_getElem (by omega)))
      simpa [Addr.add] using z5
    subst hspot
    have each : ∀ r, r < len → ∃ d : DM, d.At W ab (ao + r * 5) := fun r hr => by
      obtain ⟨cs', h1, h2⟩ := hi r (by simp at hmm; omega)
      exact deed_at h1 h2 (weights_all (i := r) (by simp [hr]) hw1)
    obtain ⟨F, hF⟩ := Go.Deep.choose_lt (α := DM) each
    refine ⟨some ⟨ab, ao, none⟩, cap, (List.range len).map F, by simp, fun i d hi => ?_, by unfold maxLen at hm; simp; omega⟩
    have hil : i < len := by simpa using (List.getElem?_eq_some_iff.1 hi).1
    simp [hil] at hi
    subst hi
    exact ⟨ab, ao, rfl, hF i hil⟩
end Go.Proofs.Ytfmphhcdbocgnaa.Pipe
