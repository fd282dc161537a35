/-
  CIDR, the given answers: groups with ':' between them.
-/
import Derived.Test.YtdmajikhpacpfaaDoorCidrGrp
import Derived.Test.YtdmajikhpacpfaaDoorCidrSplit
namespace Go.Proofs.YtdmajikhpacpfaaDoor.Cidr
open Go.RowKit Base
def mapO {α β : Type} (f : α → Option β) : List α → Option (List β)
  | [] => some []
  | x :: r => match f x, mapO f r with | some a, some l => some (a :: l) | _, _ => none
theorem mapO_snoc {α β : Type} (f : α → Option β) (x : α) : ∀ (l : List α) {r : List β} {a : β}, mapO f l = some r → f x = some a → mapO f (l ++ [x]) = some (r ++ [a])
  | [], r, a, h, hx => by simp [mapO] at h; subst h; simp [mapO, hx]
  | y :: q, r, a, h, hx => by
    unfold mapO at h
    cases hy : f y with
    | none => rw [hy] at h; simp at h
    | some b =>
      cases hq : mapO f q with
      | none => rw [hy, hq] at h; simp at h
      | some l =>
        rw [hy, hq] at h; simp at h; subst h
        rw [List.cons_append, mapO, hy, mapO_snoc f x q hq hx]; rfl
theorem mapO_none {α β : Type} (f : α → Option β) {x : α} (hx : f x = none) : ∀ {l : List α}, x ∈ l → mapO f l = none
  | [], h => by simp at h
  | y :: q, h => by
    unfold mapO
    rcases List.mem_cons.1 h with rfl | h
    · rw [hx]
    · rw [mapO_none f hx h]; cases f y <;> rfl
theorem mapO_len {α β : Type} (f : α → Option β) : ∀ {l : List α} {r : List β}, mapO f l = some r → r.length = l.length
  | [], r, h => by simp [mapO] at h; subst h; rfl
  | y :: q, r, h => by
    unfold mapO at h
    cases hy : f y with
    | none => rw [hy] at h; simp at h
    | some b =>
      cases hq : mapO f q with
      | none => rw [hy, hq] at h; simp at h
      | some l => rw [hy, hq] at h; simp at h; subst h; simp [mapO_len f hq]
theorem mapO_mem {α β : Type} (f : α → Option β) : ∀ {l : List α} {r : List β}, mapO f l = some r → ∀ b ∈ r, ∃ a ∈ l, f a = some b
  | [], r, h, b, hb => by simp [mapO] at h; subst h; simp at hb
  | y :: q, r, h, b, hb => by
    unfold mapO at h
    cases hy : f y with
    | none => rw [hy] at h; simp at h
    | some c =>
      cases hq : mapO f q with
      | none => rw [hy, hq] at h; simp at h
      | some l =>
        rw [hy, hq] at h; simp at h; subst h
        rcases List.mem_cons.1 hb with rfl | hb
        · exact ⟨y, List.mem_cons_self, hy⟩
        · obtain ⟨a, ha, h2⟩ := mapO_mem f hq b hb
          exact ⟨a, List.mem_cons_of_mem _ ha, h2⟩
abbrev I (n : Nat) : Value := .int .i64 (n : Int)
theorem info3 : (Tryd.prog.info? 3).map (fun i => (i.zero, i.size, i.bytes)) = some (some (.int .i64 0), 1, 8) := by kernel_rfl
/-- A row of numbers of the call's own. -/
def OwnsI (w : World) (B : Nat) (v : Value) (ns : List Nat) : Prop := w.ownsRow B 3 1 v ns.length (ns.map I)
theorem OwnsI.form {w : World} {B : Nat} {v : Value} {ls : List Nat} (h : OwnsI w B v ls) : ∃ a c, v = .slice a ls.length c ∧ ls.length ≤ c := row_form h
theorem OwnsI.on {w w' : World} {B : Nat} {v : Value} {ls : List Nat} (h : OwnsI w B v ls) (hb : Below w.heap.size w w') : OwnsI w' B v ls := by
  refine ⟨h.1, ?_⟩
  rcases h.2 with hn | ⟨g, cap, cur, rfl, h1, h2, h3⟩
  · exact Or.inl hn
  · exact Or.inr ⟨g, cap, cur, rfl, h1, by rw [hb.block g (heap_lt h2)]; exact h2, h3⟩
theorem OwnsI.cell {w : World} {B : Nat} {a : Option Addr} {n c : Nat} {ls : List Nat} (h : OwnsI w B (.slice a n c) ls) {i x : Nat} (hx : ls[i]? = some x) : ∃ b, a = some ⟨b, 0, none⟩ ∧ w.cell? ⟨b, i, none⟩ = some (I x) := by
  rcases h.2 with ⟨he, hn⟩ | ⟨g, cap, cur, he, _, h2, h3, h4, h5, h6⟩
  · rw [List.eq_nil_of_length_eq_zero hn] at hx; simp at hx
  · cases he
    refine ⟨g, rfl, ?_⟩
    have hi := (List.getElem?_eq_some_iff.1 hx).1
    rw [Nat.mul_one] at h6
    have h7 : (ls.map I)[i]? = some (I x) := by rw [List.getElem?_map, hx]; rfl
    rw [← h6, List.getElem?_take_of_lt hi, Array.getElem?_toList] at h7
    unfold World.cell?
    rw [h2]
    exact h7
theorem OwnsI.mono {w : World} {B B' : Nat} {v : Value} {ls : List Nat} (h : OwnsI w B v ls) (hB : B' ≤ B) : OwnsI w B' v ls := by
  refine ⟨h.1, ?_⟩
  rcases h.2 with hn | ⟨g, cap, cur, rfl, h1, h2⟩
  · exact Or.inl hn
  · exact Or.inr ⟨g, cap, cur, rfl, by omega, h2⟩
theorem one_int (a : Int) : ∀ u ∈ [Value.int .i64 a], u.oneCell' = true := fun u hu => by rw [List.mem_singleton.1 hu]; rfl
/-- Groups, none of an empty text. -/
def grpsN (l : List UInt8) : Option (List Nat) := if l = [] then some [] else mapO grpN (splitB 58 l)
def GrpsEnd (o : Option (List Nat)) (w : World) (e : Ending) (w' : World) : Prop :=
  (o = none ∧ e = .returned (.tuple #[.slice none 0 0, .bool false]) ∧ Below w.heap.size w w') ∨
  ∃ ns v, o = some ns ∧ e = .returned (.tuple #[v, .bool true]) ∧ OwnsI w' w.heap.size v ns ∧ Below w.heap.size w w'
set_option maxHeartbeats 1000000 in
set_option maxRecDepth 100000 in
theorem rGroups (s : ByteArray) (w : World) (hs : s.size ≤ 4294967280) : Calls Tryd.prog 50 #[.string s] w (GrpsEnd (grpsN s.data.toList) w) := by
  obtain ⟨i0, hi0, hz0, hz1, hz2⟩ := info_parts info3
  by_cases h0 : s.size = 0
  · obtain rfl := str_empty h0
    go_enter Tryd.func50, Tryd.ntmps50
    go_wp2
    go_ret2
    exact Or.inr ⟨[], _, rfl, rfl, World.ownsRow_nil _ _ _ _, Below.refl _ _⟩
  · obtain ⟨he1, he2⟩ := str_ne h0
    have he3 : (s.toList == []) = false := by rw [beq_eq_false_iff_ne]; exact he2
    obtain ⟨o, ho⟩ : ∃ o, o = mapO grpN (splitB 58 s.data.toList) := ⟨_, rfl⟩
    have hgo : grpsN s.data.toList = o := by
      unfold grpsN
      rw [if_neg (fun h => h0 (by rw [← str_len, h]; rfl)), ho]
    rw [hgo]
    have HO := Lib.hid ho
    have HSP := Lib.hid (rSplit s 58 w hs)
    obtain ⟨ps, hps⟩ : ∃ ps, ps = splitB 58 s.data.toList := ⟨_, rfl⟩
    have HPS := Lib.hid hps
    have hpl : ps.length ≤ 4294967281 := by rw [hps]; have := splitB_len 58 s.data.toList; rw [str_len] at this; omega
    rw [← hps] at HSP HO
    clear ho hgo hps
    go_enter Tryd.func50, Tryd.ntmps50
    go_wp2_with (go_at_call 32; refine HSP.out.mono ?_; rintro e w1 ⟨v1, rfl, o1, b1⟩; refine Hid.out ?_)
    refine Lib.hid ?_
    obtain ⟨pa, pc, rfl, _⟩ := o1.form
    have HP := Lib.hid o1
    have B1 := Lib.hid b1
    clear o1 b1
    go_wp2
    go_loopw [5, 6] (fun o i wr => ∃ (k : Nat) (ns : List Nat), k ≤ ps.length ∧ i = .int .i64 k ∧ OwnsI wr w1.heap.size o ns ∧ Below w1.heap.size w1 wr ∧ Hid (mapO grpN (ps.take k) = some ns) ∧ ns.length = k) (fun _ i _ => ps.length - (intOf i).toNat)
    case atStart => exact ⟨0, [], Nat.zero_le _, rfl, World.ownsRow_nil _ _ _ _, Below.refl _ _, rfl, rfl⟩
    case round =>
      obtain ⟨k, ns, hk, rfl, hown, hb1, hm, rfl⟩ := hrel
      obtain ⟨oa, oc, rfl, hoc⟩ := hown.form
      have HOWN := Lib.hid hown
      have HB := Lib.hid hb1
      have HBW := Lib.hid (B1.out.trans (hb1.mono B1.out.size))
      have HPW := Lib.hid (HP.out.on hb1)
      clear hown hb1
      by_cases hlt : ns.length < ps.length
      · have hx : ps[ns.length]? = some (ps[ns.length]) := List.getElem?_eq_getElem hlt
        obtain ⟨pb, rfl, hcell⟩ := HPW.out.cell hx
        have HX := Lib.hid hx
        generalize ps[ns.length] = x at hcell HX
        have HG := Lib.hid (rGroup ⟨x.toArray⟩ wr)
        have i1 : (ns.length : Int) < (ps.length : Int) := by omega
        have i0' : (0 : Int) ≤ (ns.length : Int) := by omega
        clear hx
        cases hgx : grpN x with
        | none =>
          have HNO : Hid (o = none) := HO.out.trans (mapO_none grpN hgx (List.mem_of_getElem? HX.out))
          have HG2 : Hid (Calls Tryd.prog 63 #[S x] wr (NumEnd none wr)) := by
            have := HG.out
            rwa [show (⟨x.toArray⟩ : ByteArray).data.toList = x from rfl, hgx] at this
          clear HG hgx
          go_wp2_with (go_at_call 63; refine HG2.out.mono ?_; rintro e w2 ⟨rfl, rfl⟩; refine Hid.out ?_)
          refine Lib.hid ?_
          go_wp2
          go_ret2
          exact Or.inl ⟨HNO.out, rfl, HBW.out⟩
        | some n =>
          have HSM := Lib.hid (grpN_small hgx)
          have HM2 : Hid (mapO grpN (ps.take (ns.length + 1)) = some (ns ++ [n])) := by
            show _ = _
            rw [List.take_succ_eq_append_getElem hlt, show ps[ns.length] = x by have := HX.out; rw [List.getElem?_eq_getElem hlt] at this; exact Option.some.inj this]
            exact mapO_snoc grpN x _ hm.out hgx
          have HG2 : Hid (Calls Tryd.prog 63 #[S x] wr (NumEnd (some n) wr)) := by
            have := HG.out
            rwa [show (⟨x.toArray⟩ : ByteArray).data.toList = x from rfl, hgx] at this
          have LIM : Hid ((ns.length + [Value.int .i64 (n : Int)].length) * 8 ≤ 140737488355328) := by show _ ≤ _; simp only [List.length_singleton]; omega
          have LIMb : Hid (ns.length + [Value.int .i64 (n : Int)].length ≤ 9223372036854775807) := by show _ ≤ _; simp only [List.length_singleton]; omega
          clear HG hgx hm
          go_wp2_with (go_at_call 63; refine HG2.out.mono ?_; rintro e w2 ⟨rfl, rfl⟩; refine Hid.out ?_)
          refine Lib.hid ?_
          go_wp2_with (at_builtin; go_must (refine wpList_append_row _ rfl _ _ 70 rfl w1.heap.size 3 i0 (.int .i64 0) 8 Tryd.underlying70 hi0 hz0 hz1 hz2 rfl (.slice oa ns.length oc) _ ns.length (ns.map I) [.int .i64 (n : Int)] rfl rfl (World.ownsRow.alloc HOWN.out _) (vreads_one _ _ _) (one_int _) LIM.out LIMb.out (by have := HB.out.size; simp; omega) ?_); intro v2 w2 o2 g2 a2; refine Hid.out ?_)
          refine Lib.hid ?_
          have b2 : Below w1.heap.size w1 w2 := (HB.out.alloc HB.out.size _).grown g2 (by have := HB.out.size; simp; omega) (fun j hj => (HOWN.out.lt j hj).1)
          have HO2 : Hid (OwnsI w2 w1.heap.size v2 (ns ++ [n])) := by
            have o3 := o2
            unfold OwnsI
            rw [List.map_append, List.length_append]
            exact o3
          have B2 := Lib.hid b2
          clear o2 g2 a2 b2
          go_wp2
          go_roundw
          case rel => exact ⟨ns.length + 1, ns ++ [n], by omega, by go_num, HO2.out, B2.out, HM2.out, by simp⟩
          case measure => simp [intOf]; omega
      · have i1 : ¬ (ns.length : Int) < (ps.length : Int) := by omega
        have hfin : Hid (o = some ns) := by
          have h1 := hm.out
          rw [List.take_of_length_le (by omega)] at h1
          exact HO.out.trans h1
        clear hm
        go_wp2
        go_ret2
        exact Or.inr ⟨ns, _, hfin.out, rfl, OwnsI.mono HOWN.out B1.out.size, HBW.out⟩
end Go.Proofs.YtdmajikhpacpfaaDoor.Cidr
