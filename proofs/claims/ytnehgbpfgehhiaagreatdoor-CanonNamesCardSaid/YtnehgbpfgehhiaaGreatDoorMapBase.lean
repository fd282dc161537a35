/-
  MERGED by mergefill.py: MapBase.
-/
import Derived.Maps.RangeWalk
import Derived.WalkKit
/-
  MAPS, WHATEVER THEY HOLD: a block that is a map as THE LIST OF ITS ENTRIES in the order in which they were laid; what is still to come of a range as a list. Over any program.
-/
namespace Go.Proofs.YtnehgbpfgehhiaaGreatDoor.Base
open Go.MapKept Go.ChangeMaps
open Go.WideElems (Fit rd rg)
open Go.Maps (Keyed)

/-- Every value reads as nothing. -/
def R0 (_ : Value) : Option (DataW Unit × List MemPlace) := some (.nil, [])
def mpair (e : MapEntry) : Value × Value := (e.key, e.val)
/-- BLOCK b IS A MAP OF THESE ENTRIES, IN THE ORDER IN WHICH THEY WERE LAID. -/
def MapIs (P : Program) (k : TypeId) (w : World) (b : Nat) (L : List (Value × Value)) : Prop :=
  ∃ es clock, w.heap[b]? = some (.map es clock) ∧ Fit P k R0 es clock ∧ es.toList.map mpair = L

section
variable {P : Program} {k t e : TypeId} {w w' : World} {b : Nat} {L : List (Value × Value)}

theorem MapIs.made (w : World) (P : Program) (k : TypeId) : MapIs P k (w.alloc (.map #[] 0)) w.heap.size [] :=
  ⟨#[], 0, (MapKept.heap_alloc w _).1, ⟨by simp, stamped_empty 0, by simp⟩, rfl⟩
theorem MapIs.kept (h : MapIs P k w b L) (hb : w'.heap[b]? = w.heap[b]?) : MapIs P k w' b L := by
  obtain ⟨es, clock, h1, h2⟩ := h
  exact ⟨es, clock, hb.trans h1, h2⟩
theorem MapIs.lt (h : MapIs P k w b L) : b < w.heap.size := by
  obtain ⟨es, clock, hb, _⟩ := h
  exact (Array.getElem?_eq_some_iff.1 hb).1
theorem MapIs.keys (h : MapIs P k w b L) : ∀ p ∈ L, ∃ kl, keyOf P k p.1 = some kl := by
  obtain ⟨es, clock, hb, F, rfl⟩ := h
  intro p hp
  obtain ⟨x, hx, rfl⟩ := List.mem_map.1 hp
  obtain ⟨y, hy⟩ := F.reads x hx
  exact ⟨_, Go.WideElems.rd_key hy⟩
theorem MapIs.apart (h : MapIs P k w b L) : L.Pairwise (fun p q => p.1 ≠ q.1) := by
  obtain ⟨es, clock, hb, F, rfl⟩ := h
  rw [List.pairwise_map]
  exact ((stamped_iff es clock).1 F.stamped).2.2
theorem MapIs.len (h : MapIs P k w b L) : L.length ≤ maxLen := by
  obtain ⟨es, clock, hb, F, rfl⟩ := h
  simpa using F.size

/-- 'm[k]', the key is there. -/
theorem MapIs.hit (c : Bool) (h : MapIs P k w b L) (K : Keyed P k) (ht : P.underlying t = some (.map k e)) {key v z : Value} (hz : (zeroValue e).run P w = .ok z w) (hm : (key, v) ∈ L) :
    (Instr.lookup t (.map (some b)) key c).run P w = .ok (if c then .tuple #[v, .bool true] else v) w := by
  obtain ⟨kl, hkey⟩ := h.keys _ hm
  have hap := h.apart
  obtain ⟨es, clock, hb, F, rfl⟩ := h
  obtain ⟨x, hx, hxe⟩ := List.mem_map.1 hm
  cases hxe
  rcases Maps.fit_look c K ht hz hb F hkey with ⟨_, h2, _⟩ | ⟨e0, y, h2, h3, h4, _⟩
  · exact absurd rfl (h2 x hx)
  · obtain rfl := entry_eq_of_key ((stamped_iff es clock).1 F.stamped).2.2 h2 hx h3
    exact h4
/-- 'm[k]', the key is not there. -/
theorem MapIs.miss (c : Bool) (h : MapIs P k w b L) (K : Keyed P k) (ht : P.underlying t = some (.map k e)) {key z : Value} {kl : Lit} (hz : (zeroValue e).run P w = .ok z w) (hkey : keyOf P k key = some kl) (hm : ∀ p ∈ L, p.1 ≠ key) :
    (Instr.lookup t (.map (some b)) key c).run P w = .ok (if c then .tuple #[z, .bool false] else z) w := by
  obtain ⟨es, clock, hb, F, rfl⟩ := h
  rcases Maps.fit_look c K ht hz hb F hkey with ⟨h1, _⟩ | ⟨e0, y, h2, h3, _⟩
  · exact h1
  · exact absurd h3 (hm (mpair e0) (List.mem_map.2 ⟨e0, h2, rfl⟩))

/-- A block that is a map, written. -/
theorem heap_setBlock_other' (w : World) (b i : Nat) (o : Obj) (h : i ≠ b) : (setBlock w b o).heap[i]? = w.heap[i]? := by
  simp only [setBlock, Array.getElem?_setIfInBounds]
  rw [if_neg (fun e => h e.symm)]
theorem grownBy_setBlock (w : World) (b : Nat) (o : Obj) : w.grownBy (setBlock w b o) (some b) := ⟨rfl, rfl, rfl, by simp [setBlock], fun i _ hi => heap_setBlock_other' w b i o (fun e => hi (by rw [e]))⟩
theorem size_setBlock (w : World) (b : Nat) (o : Obj) : (setBlock w b o).heap.size = w.heap.size := by simp [setBlock]

/-- 'm[k] = v', a new key. -/
theorem MapIs.storeNew (h : MapIs P k w b L) (K : Keyed P k) (ht : P.underlying t = some (.map k e)) (hn : L.length < maxLen) {key v : Value} {kl : Lit} (hkey : keyOf P k key = some kl) (hm : ∀ p ∈ L, p.1 ≠ key) :
    ∃ w', (Instr.mapUpdate t (.map (some b)) key v).run P w = .ok () w' ∧ MapIs P k w' b (L ++ [(key, v)]) ∧ w.grownBy w' (some b) ∧ w'.heap.size = w.heap.size := by
  obtain ⟨es, clock, hb, F, rfl⟩ := h
  have h2 : ∀ x ∈ es.toList, x.key ≠ key := fun x hx => hm (mpair x) (List.mem_map.2 ⟨x, hx, rfl⟩)
  rcases K.find w hkey es.toList F.keys with ⟨h1, _⟩ | ⟨j, e0, _, h4, h3⟩
  · refine ⟨setBlock w b (.map (es.push ⟨key, v, clock⟩) (clock + 1)), ?_, ⟨_, _, heap_setBlock_same hb _, ⟨by simp at hn ⊢; omega, stamped_push F.stamped h2, ?_⟩, by simp [mpair]⟩, grownBy_setBlock _ _ _, size_setBlock _ _ _⟩
    · simp [Instr.mapUpdate, run_underlying ht, MapKept.run_getObj_map hb, K.check w false hkey, h1, MapKept.run_setObj_map _ hb, Result.andThen, setBlock]
    · intro x hx
      simp only [Array.toList_push, List.mem_append, List.mem_singleton] at hx
      rcases hx with hx | rfl
      · exact F.reads x hx
      · exact ⟨_, Go.WideElems.rd_mk hkey rfl⟩
  · exact absurd h3 (h2 e0 (List.mem_of_getElem? h4))

/-- 'm[k] = v', a key that is there. -/
theorem MapIs.storeOld {A B : List (Value × Value)} {key old : Value} (h : MapIs P k w b (A ++ (key, old) :: B)) (K : Keyed P k) (ht : P.underlying t = some (.map k e)) (v : Value) :
    ∃ w', (Instr.mapUpdate t (.map (some b)) key v).run P w = .ok () w' ∧ MapIs P k w' b (A ++ (key, v) :: B) ∧ w.grownBy w' (some b) ∧ w'.heap.size = w.heap.size := by
  obtain ⟨kl, hkey⟩ := h.keys (key, old) (by simp)
  have hap := h.apart
  obtain ⟨es, clock, hb, F, hL⟩ := h
  have hmem : ∃ x ∈ es.toList, x.key = key := by
    have : (key, old) ∈ es.toList.map mpair := by rw [hL]; simp
    obtain ⟨x, hx, hxe⟩ := List.mem_map.1 this
    exact ⟨x, hx, by cases hxe; rfl⟩
  rcases K.find w hkey es.toList F.keys with ⟨_, h2⟩ | ⟨j, e0, h1, h2, h3⟩
  · obtain ⟨x, hx, hxk⟩ := hmem
    exact absurd hxk (h2 x hx)
  · have hj : es[j]? = some e0 := by simpa using h2
    have hjl : j < es.toList.length := (List.getElem?_eq_some_iff.1 h2).1
    have hkeyf : ∀ e', es[j]? = some e' → ({ e' with key := key, val := v } : MapEntry).key = e'.key := fun e' he' => by rw [hj] at he'; cases he'; exact h3.symm
    have hlist : (es.modify j (fun e' => { e' with key := key, val := v })).toList = es.toList.set j { e0 with key := key, val := v } := by rw [Array.toList_modify, modify_eq_set _ _ _ _ h2]
    have hjA : j = A.length := by
      have e1 : (es.toList.map mpair)[j]? = some (mpair e0) := by simp [h2]
      rw [hL] at e1
      have e2 : (A ++ (key, old) :: B)[A.length]? = some (key, old) := by simp
      have hlen : (A ++ (key, old) :: B).length = es.toList.length := by rw [← hL]; simp
      rcases Nat.lt_trichotomy j A.length with hlt | he | hlt
      · exact absurd h3 ((List.pairwise_iff_getElem.1 hap j A.length (by omega) (by simp) hlt) |> fun hne => by
          rw [List.getElem?_eq_some_iff] at e1 e2
          obtain ⟨_, e1⟩ := e1
          obtain ⟨_, e2⟩ := e2
          rw [e1, e2] at hne
          exact hne)
      · exact he
      · exact absurd h3.symm ((List.pairwise_iff_getElem.1 hap A.length j (by simp) (by omega) hlt) |> fun hne => by
          rw [List.getElem?_eq_some_iff] at e1 e2
          obtain ⟨_, e1⟩ := e1
          obtain ⟨_, e2⟩ := e2
          rw [e1, e2] at hne
          exact hne)
    refine ⟨setBlock w b (.map (es.modify j (fun e' => { e' with key := key, val := v })) clock), ?_, ⟨_, _, heap_setBlock_same hb _, ⟨by simpa using F.size, stamped_modify F.stamped _ _ (fun _ _ => rfl) (fun e' _ he' => hkeyf e' he'), ?_⟩, ?_⟩, grownBy_setBlock _ _ _, size_setBlock _ _ _⟩
    · simp [Instr.mapUpdate, run_underlying ht, MapKept.run_getObj_map hb, K.check w false hkey, h1, hj, h3, K.stays w hkey, MapKept.run_setObj_map _ hb, Result.andThen, setBlock]
    · intro x hx
      rw [hlist] at hx
      rcases List.mem_or_eq_of_mem_set hx with hx' | rfl
      · exact F.reads x hx'
      · exact ⟨_, Go.WideElems.rd_mk hkey rfl⟩
    · rw [hlist, List.map_set, hL, hjA]
      simp [mpair]

noncomputable def notAt (key : Value) (p : Value × Value) : Bool := @decide (p.1 ≠ key) (Classical.propDecidable _)
theorem notAt_iff {key : Value} {p : Value × Value} : notAt key p = true ↔ p.1 ≠ key := by unfold notAt; exact @decide_eq_true_iff _ (Classical.propDecidable _)
theorem sub_filter {l' l : List MapEntry} {p : MapEntry → Bool} (hs : l'.Sublist l) (hn : (l.map (·.born)).Nodup) (hw : ∀ x, x ∈ l' ↔ (x ∈ l ∧ p x = true)) : l' = l.filter p := by
  induction hs with
  | slnil => rfl
  | cons a hs ih =>
    rename_i l1 l2
    simp only [List.map_cons, List.nodup_cons] at hn
    have hna : a ∉ l1 := fun h => hn.1 (List.mem_map.2 ⟨a, hs.subset h, rfl⟩)
    have hpa : ¬ p a = true := fun h => hna ((hw a).2 ⟨by simp, h⟩)
    rw [List.filter_cons_of_neg hpa]
    refine ih hn.2 (fun x => ⟨fun hx => ⟨hs.subset hx, ((hw x).1 hx).2⟩, fun hx => (hw x).2 ⟨by simp [hx.1], hx.2⟩⟩)
  | cons_cons a hs ih =>
    rename_i l1 l2
    simp only [List.map_cons, List.nodup_cons] at hn
    have hpa : p a = true := ((hw a).1 (by simp)).2
    rw [List.filter_cons_of_pos hpa]
    congr 1
    refine ih hn.2 (fun x => ⟨fun hx => ⟨hs.subset hx, ((hw x).1 (by simp [hx])).2⟩, fun hx => ?_⟩)
    have h1 := (hw x).2 ⟨by simp [hx.1], hx.2⟩
    rcases List.mem_cons.1 h1 with rfl | h1
    · exact absurd (List.mem_map.2 ⟨x, hx.1, rfl⟩) hn.1
    · exact h1
/-- 'delete(m, k)', the key is there. -/
theorem MapIs.drop {A B : List (Value × Value)} {key old : Value} {ty : TypeId} (h : MapIs P k w b (A ++ (key, old) :: B)) (K : Keyed P k) (ht : P.underlying t = some (.map k e)) :
    ∃ w', (Builtin.delete_ #[t, k] ty #[.map (some b), key]).run P w = .ok (.tuple #[]) w' ∧ MapIs P k w' b (A ++ B) ∧ w.grownBy w' (some b) ∧ w'.heap.size = w.heap.size := by
  obtain ⟨kl, hkey⟩ := h.keys (key, old) (by simp)
  have hap := h.apart
  obtain ⟨es, clock, hb, F, hL⟩ := h
  obtain ⟨es', hrun, F', _, _, hsub, hwho⟩ := fit_drop_who (ty := ty) K ht hb F hkey
  refine ⟨_, hrun, ⟨es', clock, heap_setBlock_same hb _, F', ?_⟩, grownBy_setBlock _ _ _, size_setBlock _ _ _⟩
  have hA : ∀ p ∈ A, p.1 ≠ key := fun p hp => by
    have := (List.pairwise_append.1 hap).2.2 p hp (key, old) (by simp)
    exact this
  have hB : ∀ p ∈ B, p.1 ≠ key := fun p hp => by
    have := (List.pairwise_cons.1 (List.pairwise_append.1 hap).2.1).1 p hp
    exact fun e => this e.symm
  -- the sublist that holds just those at other keys
  have hfil : es'.toList = es.toList.filter (fun x => notAt key (mpair x)) := by
    refine sub_filter hsub ((stamped_iff es clock).1 F.stamped).2.1 (fun x => ?_)
    rw [hwho x, notAt_iff]; rfl
  rw [hfil]
  have : (es.toList.filter (fun x => notAt key (mpair x))).map mpair = (es.toList.map mpair).filter (notAt key) := by
    rw [List.filter_map]; rfl
  rw [this, hL, List.filter_append, List.filter_cons_of_neg (by rw [notAt_iff]; exact fun h => h rfl)]
  congr 1
  · exact List.filter_eq_self.2 (fun p hp => notAt_iff.2 (hA p hp))
  · exact List.filter_eq_self.2 (fun p hp => notAt_iff.2 (hB p hp))
/-- 'delete(m, k)', the key is not there. -/
theorem MapIs.dropNot {key : Value} {kl : Lit} {ty : TypeId} (h : MapIs P k w b L) (K : Keyed P k) (ht : P.underlying t = some (.map k e)) (hkey : keyOf P k key = some kl) (hm : ∀ p ∈ L, p.1 ≠ key) :
    ∃ w', (Builtin.delete_ #[t, k] ty #[.map (some b), key]).run P w = .ok (.tuple #[]) w' ∧ MapIs P k w' b L ∧ w.grownBy w' (some b) ∧ w'.heap.size = w.heap.size := by
  obtain ⟨es, clock, hb, F, rfl⟩ := h
  have h2' : ∀ x ∈ es.toList, x.key ≠ key := fun x hx => hm (mpair x) (List.mem_map.2 ⟨x, hx, rfl⟩)
  rcases K.find w hkey es.toList F.keys with ⟨h1, h2⟩ | ⟨j, e0, _, h4, h3⟩
  · refine ⟨setBlock w b (.map es clock), ?_, ⟨es, clock, heap_setBlock_same hb _, F, rfl⟩, grownBy_setBlock _ _ _, size_setBlock _ _ _⟩
    simp [Builtin.delete_, run_underlying ht, MapKept.run_getObj_map hb, K.check w _ hkey, h1, MapKept.run_setObj_map _ hb, Result.andThen, setBlock]
  · exact absurd h3 (h2' e0 (List.mem_of_getElem? h4))

/-- A RANGE UNDER WAY over the map of block b, by the iterator of block r: these entries are still to come. -/
def RangeIs (P : Program) (k : TypeId) (w : World) (b r : Nat) (L rem : List (Value × Value)) : Prop :=
  ∃ es clock since seen c0, w.heap[b]? = some (.map es clock) ∧ Fit P k R0 es clock ∧ es.toList.map mpair = L ∧ w.heap[r]? = some (.mapIter (some b) since seen c0) ∧
    (∀ x ∈ es.toList, x.born < since) ∧ since ≤ c0 ∧ since ≤ clock ∧ (leftOf es seen).toList.map mpair = rem
variable {r : Nat} {rem : List (Value × Value)}
theorem RangeIs.map (h : RangeIs P k w b r L rem) : MapIs P k w b L := by
  obtain ⟨es, clock, since, seen, c0, h1, h2, h3, _⟩ := h
  exact ⟨es, clock, h1, h2, h3⟩
theorem RangeIs.ne (h : RangeIs P k w b r L rem) : r ≠ b := by
  obtain ⟨es, clock, since, seen, c0, h1, h2, h3, h4, _⟩ := h
  intro e
  rw [e, h1] at h4
  cases h4
theorem RangeIs.lt (h : RangeIs P k w b r L rem) : r < w.heap.size := by
  obtain ⟨es, clock, since, seen, c0, h1, h2, h3, h4, _⟩ := h
  exact (Array.getElem?_eq_some_iff.1 h4).1
theorem RangeIs.kept (h : RangeIs P k w b r L rem) (hb : w'.heap[b]? = w.heap[b]?) (hr : w'.heap[r]? = w.heap[r]?) : RangeIs P k w' b r L rem := by
  obtain ⟨es, clock, since, seen, c0, h1, h2, h3, h4, h5⟩ := h
  exact ⟨es, clock, since, seen, c0, hb.trans h1, h2, h3, hr.trans h4, h5⟩
theorem RangeIs.left_eq (h : RangeIs P k w b r L rem) : w.rangeLeft b r = rem.length := by
  obtain ⟨es, clock, since, seen, c0, h1, h2, h3, h4, h5, h6, h7, rfl⟩ := h
  simp only [World.rangeLeft, h1, h4]
  simp
theorem MapIs.range (h : MapIs P k w b L) (ht : P.underlying t = some (.map k e)) :
    ∃ w', (Instr.range t (.map (some b))).run P w = .ok (.pointer (some ⟨w.heap.size, 0, none⟩)) w' ∧ RangeIs P k w' b w.heap.size L L ∧ w.grownBy w' none ∧ w'.heap.size = w.heap.size + 1 := by
  have hlt := h.lt
  obtain ⟨es, clock, hb, F, rfl⟩ := h
  refine ⟨_, run_range_map w t k e b es clock ht hb, ⟨es, clock, clock, #[], clock, ((MapKept.heap_alloc w _).2 b hlt).trans hb, F, rfl, (MapKept.heap_alloc w _).1, F.stamped.1, Nat.le_refl _, Nat.le_refl _, ?_⟩, World.grownBy_alloc w _ none, by simp⟩
  show (Array.filter _ es).toList.map mpair = _
  rw [Array.toList_filter, List.filter_eq_self.2 (fun x _ => by simp)]
theorem left_split {es : List MapEntry} (hn : (es.map (·.born)).Nodup) {seen : Array Nat} {x : MapEntry} (hx : x ∈ es) (hs : seen.contains x.born = false) :
    ∃ A B, es.filter (fun y => !seen.contains y.born) = A ++ x :: B ∧ es.filter (fun y => !(seen.push x.born).contains y.born) = A ++ B := by
  induction es with
  | nil => simp at hx
  | cons y l ih =>
    simp only [List.map_cons, List.nodup_cons] at hn
    have hc : ∀ z, (seen.push x.born).contains z = (seen.contains z || z == x.born) := fun z => by
      rw [Bool.eq_iff_iff]; simp
    rcases List.mem_cons.1 hx with rfl | hx'
    · refine ⟨[], l.filter (fun y => !seen.contains y.born), ?_, ?_⟩
      · rw [List.filter_cons_of_pos (by rw [hs]; rfl)]; rfl
      · rw [List.filter_cons_of_neg (by rw [hc]; simp)]
        refine List.filter_congr (fun z hz => ?_)
        have : z.born ≠ x.born := fun e => hn.1 (List.mem_map.2 ⟨z, hz, e⟩)
        rw [hc]; simp [this]
    · obtain ⟨A, B, h1, h2⟩ := ih hn.2 hx'
      have hyx : y.born ≠ x.born := fun e => hn.1 (List.mem_map.2 ⟨x, hx', e.symm⟩)
      have hcy : (seen.push x.born).contains y.born = seen.contains y.born := by rw [hc]; simp [hyx]
      by_cases hy : seen.contains y.born = true
      · exact ⟨A, B, by rw [List.filter_cons_of_neg (by rw [hy]; simp), h1], by rw [List.filter_cons_of_neg (by rw [hcy, hy]; simp), h2]⟩
      · have hy' : seen.contains y.born = false := by simpa using hy
        exact ⟨y :: A, B, by rw [List.filter_cons_of_pos (by rw [hy']; rfl), h1]; rfl, by rw [List.filter_cons_of_pos (by rw [hcy, hy']; rfl), h2]; rfl⟩
theorem RangeIs.next (h : RangeIs P k w b r L rem) (ty : TypeId) :
    (rem = [] ∧ (Instr.next (.pointer (some ⟨r, 0, none⟩)) false ty).run P w = .ok (.tuple #[.bool false]) w) ∨
    ∃ A x B w', rem = A ++ x :: B ∧ x ∈ L ∧ (Instr.next (.pointer (some ⟨r, 0, none⟩)) false ty).run P w = .ok (.tuple #[.bool true, x.1, x.2]) w' ∧
      RangeIs P k w' b r L (A ++ B) ∧ w.grownBy w' (some r) ∧ w'.heap.size = w.heap.size ∧ (Instr.entry (.pointer (some ⟨r, 0, none⟩))).run P w' = .ok (.tuple #[x.1, x.2]) w' := by
  have hne := h.ne
  obtain ⟨es, clock, since, seen, c0, hb, F, rfl, hr, hold, hsc, hsk, rfl⟩ := h
  rcases run_next_at (P := P) w ty r b since c0 seen es clock hr hb hold hsc with ⟨h0, hrun⟩ | ⟨x, hx, w1, hal, hrun⟩
  · refine Or.inl ⟨?_, hrun⟩
    have : (leftOf es seen).toList.length = 0 := by simpa using h0
    rw [List.eq_nil_of_length_eq_zero this]; rfl
  · obtain ⟨hem, hes⟩ := mem_left hx
    have hr1 : w1.heap[r]? = some (.mapIter (some b) since seen c0) := by rcases hal with rfl | rfl <;> exact hr
    have hb1 : w1.heap[b]? = some (.map es clock) := by rcases hal with rfl | rfl <;> exact hb
    have hset := heap_set (o' := .mapIter (some b) since (seen.push x.born) clock) hr1
    have hb' : (setBlock w1 r (.mapIter (some b) since (seen.push x.born) clock)).heap[b]? = some (.map es clock) := (hset.2 b (fun e1 => hne e1.symm)).trans hb1
    obtain ⟨A, B, hA, hB⟩ := left_split ((stamped_iff es clock).1 F.stamped).2.1 hem hes
    have lf : ∀ s : Array Nat, (leftOf es s).toList = es.toList.filter (fun y => !s.contains y.born) := fun s => by unfold leftOf; simp
    refine Or.inr ⟨A.map mpair, mpair x, B.map mpair, _, by rw [lf, hA]; simp, List.mem_map.2 ⟨x, hem, rfl⟩, hrun,
      ⟨es, clock, since, seen.push x.born, clock, hb', F, rfl, hset.1, hold, hsk, hsk, by rw [lf, hB]; simp⟩, ?_, ?_,
      run_entry_at _ r b since seen es clock x hset.1 hb' hem ((stamped_iff es clock).1 F.stamped).2.1⟩
    · rcases hal with rfl | rfl <;> exact ⟨rfl, rfl, rfl, by simp [setBlock], fun i _ hi => hset.2 i (fun e1 => hi (by rw [e1]))⟩
    · rcases hal with rfl | rfl <;> simp [setBlock]
end

section
variable {P : Program} (w : World) {ops : Array Oper} {rest : List Oper} {o : Oper} {a : Act} {Q : Exit → Act → World → Prop}
/-- 'm[k] = v' at the operation, for the walk: a new key. -/
theorem wpList_store_new (hg : o.guard = none) (m x v : Operand) (t : TypeId) (hop : o.op = Op.mapUpdate t m x v) (k e : TypeId) (K : Keyed P k) (ht : P.underlying t = some (.map k e)) (b : Nat) (L : List (Value × Value))
    (hm : a.eval m = .map (some b)) (h : MapIs P k w b L) (hn : L.length < maxLen) (key val : Value) (kl : Lit) (hx : a.eval x = key) (hv : a.eval v = val) (hkey : keyOf P k key = some kl) (hnew : ∀ p ∈ L, p.1 ≠ key)
    (hK : ∀ w', MapIs P k w' b (L ++ [(key, val)]) → w.grownBy w' (some b) → w'.heap.size = w.heap.size → wpList P ops Q rest (a.put o.dst undef) w') : wpList P ops Q (o :: rest) a w := by
  refine wpList_plain hg fun K' hK' => ?_
  obtain ⟨w', hrun, r1, r2, r3⟩ := h.storeNew K ht hn (v := val) hkey hnew
  unfold Oper.wp
  simp [execOp, hop, hm, hx, hv, hrun, Result.andThen]
  exact hK' _ _ (hK w' r1 r2 r3)
/-- 'range m'. -/
theorem wpList_range_is (hg : o.guard = none) (m : Operand) (t : TypeId) (hop : o.op = Op.range t m) (k e : TypeId) (ht : P.underlying t = some (.map k e)) (b : Nat) (L : List (Value × Value))
    (hm : a.eval m = .map (some b)) (h : MapIs P k w b L) (r : Nat) (hr : w.heap.size = r)
    (hK : ∀ w', RangeIs P k w' b r L L → w.grownBy w' none → w'.heap.size = r + 1 → wpList P ops Q rest (a.put o.dst (.pointer (some ⟨r, 0, none⟩))) w') : wpList P ops Q (o :: rest) a w := by
  subst hr
  refine wpList_plain hg fun K' hK' => ?_
  obtain ⟨w', hrun, r1, r2, r3⟩ := h.range ht
  unfold Oper.wp
  simp [execOp, hop, hm, hrun, Result.andThen]
  exact hK' _ _ (hK w' r1 r2 r3)
/-- The step. -/
theorem wpList_next_is (hg : o.guard = none) (it : Operand) (hop : o.op = Op.next it false) (k : TypeId) (b r : Nat) (L rem : List (Value × Value))
    (hit : a.eval it = .pointer (some ⟨r, 0, none⟩)) (h : RangeIs P k w b r L rem)
    (hDone : rem = [] → wpList P ops Q rest (a.put o.dst (.tuple #[.bool false])) w)
    (hMore : ∀ (A B : List (Value × Value)) (x : Value × Value) (w' : World), rem = A ++ x :: B → x ∈ L → RangeIs P k w' b r L (A ++ B) → w.grownBy w' (some r) → w'.heap.size = w.heap.size →
      (Instr.entry (.pointer (some ⟨r, 0, none⟩))).run P w' = .ok (.tuple #[x.1, x.2]) w' → wpList P ops Q rest (a.put o.dst (.tuple #[.bool true, x.1, x.2])) w') : wpList P ops Q (o :: rest) a w := by
  refine wpList_plain hg fun K' hK' => ?_
  unfold Oper.wp
  rcases h.next o.type with ⟨h0, hrun⟩ | ⟨A, x, B, w', h1, h2, hrun, h3, h4, h5, h6⟩
  · simp [execOp, hop, hit, hrun, Result.andThen]
    exact hK' _ _ (hDone h0)
  · simp [execOp, hop, hit, hrun, Result.andThen]
    exact hK' _ _ (hMore A B x w' h1 h2 h3 h4 h5 h6)
/-- The step, the entries' shapes written out. -/
theorem wpList_next_of {α : Type} (kf vf : α → Value) (Ls : List α) (hg : o.guard = none) (it : Operand) (hop : o.op = Op.next it false) (k : TypeId) (b r : Nat) (rem : List (Value × Value))
    (hit : a.eval it = .pointer (some ⟨r, 0, none⟩)) (h : RangeIs P k w b r (Ls.map fun p => (kf p, vf p)) rem)
    (hDone : rem = [] → wpList P ops Q rest (a.put o.dst (.tuple #[.bool false])) w)
    (hMore : ∀ (A B : List (Value × Value)) (p : α) (w' : World), rem = A ++ (kf p, vf p) :: B → p ∈ Ls → RangeIs P k w' b r (Ls.map fun p => (kf p, vf p)) (A ++ B) → w.grownBy w' (some r) → w'.heap.size = w.heap.size →
      (Instr.entry (.pointer (some ⟨r, 0, none⟩))).run P w' = .ok (.tuple #[kf p, vf p]) w' → wpList P ops Q rest (a.put o.dst (.tuple #[.bool true, kf p, vf p])) w') : wpList P ops Q (o :: rest) a w :=
  wpList_next_is w hg it hop k b r _ rem hit h hDone fun A B x w' h1 h2 h3 h4 h5 h6 => by
    obtain ⟨p, hp, rfl⟩ := List.mem_map.1 h2
    exact hMore A B p w' h1 hp h3 h4 h5 h6
/-- The step, the entries' shapes written out, what is still to come too. -/
theorem wpList_next_ty {α : Type} (kf vf : α → Value) (Ls Rs : List α) (hg : o.guard = none) (it : Operand) (hop : o.op = Op.next it false) (k : TypeId) (b r : Nat)
    (hit : a.eval it = .pointer (some ⟨r, 0, none⟩)) (h : RangeIs P k w b r (Ls.map fun p => (kf p, vf p)) (Rs.map fun p => (kf p, vf p)))
    (hDone : Rs = [] → wpList P ops Q rest (a.put o.dst (.tuple #[.bool false])) w)
    (hMore : ∀ (A B : List α) (p : α) (w' : World), Rs = A ++ p :: B → RangeIs P k w' b r (Ls.map fun p => (kf p, vf p)) ((A ++ B).map fun p => (kf p, vf p)) → w.grownBy w' (some r) → w'.heap.size = w.heap.size →
      (Instr.entry (.pointer (some ⟨r, 0, none⟩))).run P w' = .ok (.tuple #[kf p, vf p]) w' → wpList P ops Q rest (a.put o.dst (.tuple #[.bool true, kf p, vf p])) w') : wpList P ops Q (o :: rest) a w :=
  wpList_next_is w hg it hop k b r _ _ hit h (fun h0 => hDone (List.map_eq_nil_iff.1 h0)) fun A B x w' h1 h2 h3 h4 h5 h6 => by
    obtain ⟨A', R', rfl, rfl, hR⟩ := List.map_eq_append_iff.1 h1
    obtain ⟨p, B', rfl, rfl, rfl⟩ := List.map_eq_cons_iff.1 hR
    exact hMore A' B' p w' rfl (by rw [List.map_append]; exact h3) h4 h5 h6
theorem RangeIs.notRow {w : World} {k : TypeId} {b r : Nat} {L rem : List (Value × Value)} (h : RangeIs P k w b r L rem) {B : Nat} {e : TypeId} {s n : Nat} {v : Value} {xs : List Value} (hr : w.ownsRow B e s v n xs) : v.ownBlock ≠ some r := by
  obtain ⟨es, clock, since, seen, c0, h1, h2, h3, h4, _⟩ := h
  intro e1
  rcases hr.2 with ⟨rfl, _⟩ | ⟨g, cap, cur, rfl, _, h5, _⟩
  · cases e1
  · cases e1
    rw [h4] at h5
    cases h5
end
end Go.Proofs.YtnehgbpfgehhiaaGreatDoor.Base
