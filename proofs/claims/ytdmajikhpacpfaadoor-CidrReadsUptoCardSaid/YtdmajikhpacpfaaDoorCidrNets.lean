/-
  CIDR: a slice of ranges that came in; appended to an empty one; one of the call's own read again.
-/
import Derived.Test.YtdmajikhpacpfaaDoorCidrFrame
import Derived.Test.YtdmajikhpacpfaaDoorCidrList
import Derived.Test.YtdmajikhpacpfaaDoorCidrG2
import Derived.Deep.Slices
import Derived.Deep.Strs
namespace Go.Proofs.YtdmajikhpacpfaaDoor.Cidr
open Go.ChangeShapes Go.WideShapes Go.ChangeAt Go.RowKit Base
open Go.ChangeMaps (open_string shut_string)
theorem cells23 : Tryd.prog.cellsOf 23 = 16 := by kernel_rfl
theorem cells3 : Tryd.prog.cellsOf 3 = 1 := by kernel_rfl
theorem cells4 : Tryd.prog.cellsOf 4 = 1 := by kernel_rfl
theorem bytes25 : Tryd.prog.bytesOf 25 = 32 := by kernel_rfl
theorem bytes_list : ∀ (l : List Value), (∀ x ∈ l, ∃ y : UInt8, x = B8 y) → ∃ ys : List UInt8, l = ys.map B8
  | [], _ => ⟨[], rfl⟩
  | x :: q, hq => by
    obtain ⟨y, rfl⟩ := hq x List.mem_cons_self
    obtain ⟨ys, rfl⟩ := bytes_list q fun x hx => hq x (List.mem_cons_of_mem _ hx)
    exact ⟨y :: ys, rfl⟩
theorem trod_byte {H : Type} {enc : TypeId × Value → H} {W : World} {n : Nat} {v : Value} {y : DataW H × List MemPlace} (h : DataW.trod enc Tryd.prog W 0 (fun _ => true) true n 5 [v] = some y) : ∃ x : UInt8, v = B8 x := by
  obtain ⟨z, hz, _, hwf⟩ := DataW.trod_int Tryd.underlying5 h
  simp at hz
  subst hz
  have bz := bounds_u8 hwf
  refine ⟨UInt8.ofNat z.toNat, ?_⟩
  show _ = Value.int .u8 _
  congr 1
  simp only [UInt8.toNat_ofNat']
  omega
theorem open_arr {H : Type} {enc : TypeId × Value → H} {W : World} {n : Nat} {cs : List Value} {y : DataW H × List MemPlace} (h : DataW.trod enc Tryd.prog W 0 (fun _ => true) true n 23 cs = some y) : ∃ ys : List UInt8, cs = ys.map B8 ∧ ys.length = 16 := by
  cases n with
  | zero => simp [DataW.trod] at h
  | succ n =>
    simp only [DataW.trod, Tryd.underlying23, cells5, cells23, Nat.mul_one] at h
    split at h
    · rename_i hl
      obtain ⟨xs, hm, hx⟩ := Option.map_eq_some_iff.1 h
      obtain ⟨ys, rfl⟩ := bytes_list cs fun x hx => by
        obtain ⟨i, hi⟩ := List.mem_iff_getElem?.1 hx
        have hil : i < 16 := by have := (List.getElem?_eq_some_iff.1 hi).1; omega
        obtain ⟨b, hb, hf⟩ := Lib.mapM_at hm i i (by simp [hil])
        have e : (cs.drop i).take 1 = [x] := by
          rw [List.drop_eq_getElem_cons (by omega), List.take_succ_cons, List.take_zero]
          rw [List.getElem?_eq_getElem (by omega)] at hi
          rw [Option.some.inj hi]
        rw [e] at hf
        exact trod_byte hf
      exact ⟨ys, rfl, by simpa using hl⟩
    · cases h
set_option maxRecDepth 100000 in
theorem open_nets0 {H : Type} {enc : TypeId × Value → H} {W : World} {n : Nat} {cs : List Value} {y : DataW H × List MemPlace} (h : DataW.trod enc Tryd.prog W 0 (fun _ => true) true n 25 cs = some y) : ∃ m : NetM, cs = netL m ∧ m.a.length = 16 := by
  obtain ⟨y0, y1, y2, k, _, hl, h0, h1, h2⟩ := Go.Deep.trod_struct3 Tryd.underlying25 h
  rw [cells25] at hl
  match cs, hl with
  | b :: z :: r, hl =>
    have hr : r.length = 16 := by simpa using hl
    have h0' : DataW.trod enc Tryd.prog W 0 (fun _ => true) true k 4 [b] = some y0 := h0
    have h1' : DataW.trod enc Tryd.prog W 0 (fun _ => true) true k 3 [z] = some y1 := h1
    have h2' : DataW.trod enc Tryd.prog W 0 (fun _ => true) true k 23 (r.take 16) = some y2 := h2
    rw [List.take_of_length_le (by omega)] at h2'
    obtain ⟨b', hb, _⟩ := DataW.trod_bool Tryd.underlying4 h0'
    obtain ⟨z', hz, _⟩ := DataW.trod_int Tryd.underlying3 h1'
    obtain ⟨ys, rfl, hy⟩ := open_arr h2'
    simp at hb hz
    subst hb hz
    exact ⟨⟨b', z', ys⟩, rfl, hy⟩
/-- Ranges that came in. -/
theorem open_nets {H : Type} {enc : TypeId × Value → H} {W : World} {v : Value} {d : DataW H} {p : List MemPlace} (h : DataW.Trod enc Tryd.prog W 0 (fun _ => true) true 29 v d p)
    {ts : List TypeId} {ds : List (DataW H)} (hsz : (DataW.weightsEach Tryd.prog ts ds).all (· ≤ reachBytes) = true) {j : Nat} (ht : ts[j]? = some 29) (hd : ds[j]? = some d) (hv : ∃ a n c, v = .slice a n c) :
    ∃ A c ns, v = .slice A ns.length c ∧ Nets W A ns ∧ ns.length * 32 ≤ 140737488351232 ∧ (A = none → ns = [] ∧ c = 0) := by
  obtain ⟨a0, n0, c0, rfl⟩ := hv
  obtain ⟨fuel, hf⟩ := h
  have er : reachBytes = 140737488351232 := rfl
  rcases Go.Deep.open_slice Tryd.underlying29 hf with ⟨hcs, hx⟩ | ⟨a, len, cap, m, k0, D, Pl, hcs, _, hl, hm, hmm, hx, hi⟩
  · simp [Value.cells] at hcs
    obtain ⟨rfl, rfl, rfl⟩ := hcs
    exact ⟨none, 0, [], rfl, fun j n h => by simp at h, by simp, fun _ => ⟨rfl, rfl⟩⟩
  · simp [Value.cells] at hcs
    obtain ⟨rfl, rfl, rfl⟩ := hcs
    simp only [if_true] at hmm
    subst hmm
    have hd1 : d = .slice ((List.range n0).map D) ((List.range (m - n0)).map fun j => D (n0 + j)) := by have := congrArg Prod.fst hx; exact this
    rw [hd1] at hd
    have hs := sized_slice hsz ht hd Tryd.underlying29
    rw [bytes25] at hs
    simp only [List.length_map, List.length_range] at hs
    have hel : ∀ i, i < n0 → ∃ r : NetM, r.a.length = 16 ∧ ∀ q u, (netL r)[q]? = some u → W.cell? ((a.add (i * 18)).add q) = some u := by
      intro i hil
      obtain ⟨cs', hcs, htr⟩ := hi i (by omega)
      rw [cells25] at hcs
      obtain ⟨_, hcl, hat⟩ := World.cells?_some hcs
      obtain ⟨r, rfl, hr⟩ := open_nets0 htr
      refine ⟨r, hr, fun q u hq => ?_⟩
      have hql : q < (netL r).length := (List.getElem?_eq_some_iff.1 hq).1
      rw [hat q (by omega)]
      exact hq
    have hrow : ∀ k, k ≤ n0 → ∃ ns : List NetM, ns.length = k ∧ ∀ i n, ns[i]? = some n → n.a.length = 16 ∧ ∀ q u, (netL n)[q]? = some u → W.cell? ((a.add (i * 18)).add q) = some u := by
      intro k
      induction k with
      | zero => intro _; exact ⟨[], rfl, fun i n h => by simp at h⟩
      | succ k ih =>
        intro hk
        obtain ⟨ns, hn, hns⟩ := ih (by omega)
        obtain ⟨r, hr, hc⟩ := hel k (by omega)
        refine ⟨ns ++ [r], by simp [hn], fun i n hin => ?_⟩
        by_cases hik : i < k
        · rw [List.getElem?_append_left (by omega)] at hin
          exact hns i n hin
        · have : i = k := by have := (List.getElem?_eq_some_iff.1 hin).1; simp at this; omega
          subst this
          rw [List.getElem?_append_right (by omega), hn, Nat.sub_self] at hin
          cases hin
          exact ⟨hr, hc⟩
    obtain ⟨ns, hn, hns⟩ := hrow n0 (Nat.le_refl _)
    subst hn
    refine ⟨some a, _, ns, rfl, ?_, by omega, fun h => by cases h⟩
    intro i n hin
    obtain ⟨h16, hc⟩ := hns i n hin
    obtain ⟨ab, ao, spot⟩ := a
    have h00 := hc 0 _ rfl
    have hspot : spot = none := by
      obtain ⟨h16b, hcb⟩ := hns 0 _ (List.getElem?_eq_getElem (by have := (List.getElem?_eq_some_iff.1 hin).1; omega))
      have := hcb 0 _ rfl
      simpa [Addr.add] using World.cell?_spot this
    subst hspot
    refine ⟨h16, ab, ao, rfl, fun q u hq => ?_⟩
    have := hc q u hq
    rw [Addr.add_lit, Addr.add_lit] at this
    exact this
/-! ### Cells of ranges one behind the other -/
theorem flat_find : ∀ (ns : List NetM), (∀ n ∈ ns, n.a.length = 16) → ∀ (j : Nat) (u : Value), (ns.flatMap netL)[j]? = some u → ∃ q r n, ns[q]? = some n ∧ j = q * 18 + r ∧ (netL n)[r]? = some u
  | [], _, j, u, h => by simp at h
  | n :: rest, hl, j, u, h => by
    have h18 : (netL n).length = 18 := by simp [hl n List.mem_cons_self]
    rw [List.flatMap_cons] at h
    by_cases hj : j < 18
    · rw [List.getElem?_append_left (by omega)] at h
      exact ⟨0, j, n, rfl, by omega, h⟩
    · rw [List.getElem?_append_right (by omega), h18] at h
      obtain ⟨q, r, m, h1, h2, h3⟩ := flat_find rest (fun m hm => hl m (List.mem_cons_of_mem _ hm)) (j - 18) u h
      exact ⟨q + 1, r, m, by simpa using h1, by omega, h3⟩
theorem flat_at : ∀ (ns : List NetM), (∀ n ∈ ns, n.a.length = 16) → ∀ (q r : Nat) (n : NetM), ns[q]? = some n → r < 18 → (ns.flatMap netL)[q * 18 + r]? = (netL n)[r]?
  | [], _, q, r, n, h, _ => by simp at h
  | m :: rest, hl, q, r, n, h, hr => by
    have h18 : (netL m).length = 18 := by simp [hl m List.mem_cons_self]
    rw [List.flatMap_cons]
    cases q with
    | zero =>
      simp at h
      subst h
      rw [Nat.zero_mul, Nat.zero_add, List.getElem?_append_left (by omega)]
    | succ q =>
      rw [List.getElem?_append_right (by omega), h18, show (q + 1) * 18 + r - 18 = q * 18 + r by omega]
      exact flat_at rest (fun m hm => hl m (List.mem_cons_of_mem _ hm)) q r n (by simpa using h) hr
theorem flat_len18 : ∀ (ns : List NetM), (∀ n ∈ ns, n.a.length = 16) → (ns.flatMap netL).length = ns.length * 18
  | [], _ => rfl
  | n :: r, hl => by
    rw [List.flatMap_cons, List.length_append, flat_len18 r fun m hm => hl m (List.mem_cons_of_mem _ hm)]
    simp [hl n List.mem_cons_self]
    omega
theorem OwnsN.nets {w : World} {B : Nat} {a : Option Addr} {k c : Nat} {ns : List NetM} (h : OwnsN w B (.slice a k c) ns) : Nets w a ns := by
  intro j n hj
  have h16 := h.2 n (List.mem_of_getElem? hj)
  rcases h.1.2 with ⟨h0, hn⟩ | ⟨g, cap, cur, he, h1, h2, h3, h4, h5, h6⟩
  · have : ns = [] := List.eq_nil_of_length_eq_zero hn
    rw [this] at hj; simp at hj
  · cases he
    refine ⟨h16, g, 0, rfl, fun r u hr => ?_⟩
    have hr18 : r < 18 := by have := (List.getElem?_eq_some_iff.1 hr).1; simp [h16] at this; omega
    have hf := flat_at ns h.2 j r n hj hr18
    rw [hr] at hf
    rw [Nat.zero_add, cell_of_row w g _ _ _ _ h2]
    rw [← h6, List.getElem?_take] at hf
    split at hf
    · rw [Array.getElem?_toList] at hf; exact hf
    · cases hf
/-- Ranges that came in, appended to an empty row of the call's own. -/
theorem wp_append_nets (w : World) {ops : Array Oper} {rest : List Oper} {o : Oper} {a : Act} {Q : Exit → Act → World → Prop} (hgd : o.guard = none) (s x : Operand)
    (ho : o.op = .call { callee := .builtin .append, args := #[s, x], argTypes := #[29, 29] })
    (B : Nat) (v : Value) (A : Option Addr) (c : Nat) (ns : List NetM) (hs : a.eval s = v) (hx : a.eval x = .slice A ns.length c) (hown : OwnsN w B v [])
    (hn : Nets w A ns) (hnil : A = none → ns = [] ∧ c = 0) (hlim : ns.length * 32 ≤ 140737488351232) (hB : B ≤ w.heap.size)
    (h : ∀ v' w', OwnsN w' B v' ns → Below B w w' → wpList Tryd.prog ops Q rest (a.put o.dst v') w') : wpList Tryd.prog ops Q (o :: rest) a w := by
  obtain ⟨i0, hi, hz0, hz1, hz2⟩ := info_parts info25
  have hl : ∀ n ∈ ns, n.a.length = 16 := fun n hm => by
    obtain ⟨j, hj⟩ := List.mem_iff_getElem?.1 hm
    exact (hn j n hj).1
  refine wpList_plain hgd fun K hK => ?_
  cases A with
  | none =>
    obtain ⟨rfl, rfl⟩ := hnil rfl
    have e1 := run_append_owned_none (P := Tryd.prog) w B 29 o.type 25 i0 18 Tryd.underlying29 hi v _ _ hown.1
    unfold Oper.wp execOp
    simp only [ho, resolve, invoke, builtin, Sem.run_bind, Sem.run_pure, Result.andThen_ok, List.map_toArray, List.map_cons, List.map_nil, hs, hx, List.length_nil, e1]
    exact hK _ _ (h v w hown (Below.refl _ _))
  | some ad =>
    obtain ⟨ab, ao, spot⟩ := ad
    have hcells : ∀ j u, (ns.flatMap netL)[j]? = some u → w.cell? ((⟨ab, ao, spot⟩ : Addr).add j) = some u := fun j u hj => by
      obtain ⟨q, r, n, h1, h2, h3⟩ := flat_find ns hl j u hj
      obtain ⟨_, b, o, he, hr⟩ := hn q n h1
      cases he
      have := hr r u h3
      rw [Addr.add_lit, h2, ← Nat.add_assoc]
      exact this
    obtain ⟨v', w', e1, e2, e3, _⟩ := run_append_own_wide (P := Tryd.prog) w B 29 o.type 25 i0 (netV zeroN) 18 32 Tryd.underlying29 hi hz0 hz1 hz2 rfl (by decide) v 0 [] hown.1 ⟨ab, ao, spot⟩ ns.length c (ns.flatMap netL)
      (flat_len18 ns hl)
      hcells (fun u hu => by
        obtain ⟨n, _, hn2⟩ := List.mem_flatMap.1 hu
        exact netL_one n u hn2) (by unfold maxLen; omega) (by omega) hB
    unfold Oper.wp execOp
    simp only [ho, resolve, invoke, builtin, Sem.run_bind, Sem.run_pure, Result.andThen_ok, List.map_toArray, List.map_cons, List.map_nil, hs, hx, e1]
    refine hK _ _ (h v' w' ⟨?_, hl⟩ ((Below.refl B w).grown e3 hB fun k hk => (hown.1.lt k hk).1))
    simpa using e2
end Go.Proofs.YtdmajikhpacpfaaDoor.Cidr
