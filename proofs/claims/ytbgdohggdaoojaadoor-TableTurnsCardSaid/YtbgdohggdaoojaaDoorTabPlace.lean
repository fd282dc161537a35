/-
  TABLE: keys and values in memory; where a key stands; the given answers' search.
-/
import Derived.Test.YtbgdohggdaoojaaDoorTabValue
import Derived.Sort.Walk0
import Derived.WalkLawsBesides
namespace Go.Proofs.YtbgdohggdaoojaaDoor.Table
open Go.RowKit Base
def enc2 (p : KV) : List Value := [S p.1, S p.2]
/-- The slice reads as these entries. -/
def Rows2 (w : World) (v : Value) (T : List KV) : Prop :=
  (T = [] ∧ ∃ a c, v = .slice a 0 c ∧ (a = none → c = 0)) ∨ ∃ b o c, v = .slice (some ⟨b, o, none⟩) T.length c ∧ T.length ≤ c ∧ ∀ i p, T[i]? = some p → w.cell? ⟨b, o + i * 2, none⟩ = some (S p.1) ∧ w.cell? ⟨b, o + i * 2 + 1, none⟩ = some (S p.2)
theorem Rows2.kept {w w' : World} {v : Value} {T : List KV} (h : Rows2 w v T) (hk : ∀ b, v.ownBlock = some b → b < w.heap.size → w'.heap[b]? = w.heap[b]?) : Rows2 w' v T := by
  rcases h with h | ⟨b, o, c, rfl, h1, h2⟩
  · exact Or.inl h
  · refine Or.inr ⟨b, o, c, rfl, h1, fun i p hp => ?_⟩
    obtain ⟨c1, c2⟩ := h2 i p hp
    have hb := hk b rfl (cell_lt c1)
    exact ⟨(World.cell?_of_block (a := ⟨b, o + i * 2, none⟩) hb).trans c1, (World.cell?_of_block (a := ⟨b, o + i * 2 + 1, none⟩) hb).trans c2⟩
theorem Rows2.on {w w' : World} {v : Value} {T : List KV} (h : Rows2 w v T) (hb : Below w.heap.size w w') : Rows2 w' v T := h.kept fun b _ hl => hb.block b hl
theorem Rows2.form {w : World} {v : Value} {T : List KV} (h : Rows2 w v T) : ∃ a c, v = .slice a T.length c ∧ T.length ≤ c := by
  rcases h with ⟨rfl, a, c, rfl, _⟩ | ⟨b, o, c, rfl, h1, _⟩
  · exact ⟨a, c, rfl, Nat.zero_le _⟩
  · exact ⟨_, c, rfl, h1⟩
theorem Rows2.cell {w : World} {a : Option Addr} {n c : Nat} {T : List KV} (h : Rows2 w (.slice a n c) T) {i : Nat} {p : KV} (hp : T[i]? = some p) : ∃ b o, a = some ⟨b, o, none⟩ ∧ w.cell? ⟨b, o + i * 2, none⟩ = some (S p.1) ∧ w.cell? ⟨b, o + i * 2 + 1, none⟩ = some (S p.2) := by
  rcases h with ⟨rfl, _⟩ | ⟨b, o, c, he, h1, h2⟩
  · simp at hp
  · cases he
    exact ⟨b, o, rfl, h2 i p hp⟩
theorem flat2 : ∀ (T : List KV) (i k : Nat) (p : KV), T[i]? = some p → k < 2 → (T.flatMap enc2)[i * 2 + k]? = (enc2 p)[k]?
  | [], i, k, p, h, _ => by simp at h
  | x :: r, 0, k, p, h, hk => by
    simp at h; subst h
    rw [List.flatMap_cons, List.getElem?_append_left (by simp [enc2]; omega)]; simp
  | x :: r, i + 1, k, p, h, hk => by
    rw [List.flatMap_cons, List.getElem?_append_right (by simp [enc2]; omega)]
    have := flat2 r i k p h hk
    rw [show (i + 1) * 2 + k - (enc2 x).length = i * 2 + k by simp [enc2]; omega]
    exact this
theorem flat2_len (T : List KV) : (T.flatMap enc2).length = T.length * 2 := by
  induction T with
  | nil => rfl
  | cons x r ih => rw [List.flatMap_cons, List.length_append, ih, List.length_cons]; simp [enc2]; omega
theorem Rows2.of_row {w : World} {B : Nat} {e : TypeId} {v : Value} {n : Nat} {T : List KV} (h : w.ownsRow B e 2 v n (T.flatMap enc2)) (hn : n = T.length) : Rows2 w v T := by
  subst hn
  have h0 := h
  rcases h.2 with ⟨rfl, hn⟩ | ⟨g, cap, cur, rfl, _, hb, h1, _⟩
  · exact Or.inl ⟨List.eq_nil_of_length_eq_zero (by omega), none, 0, rfl, fun _ => rfl⟩
  · refine Or.inr ⟨g, 0, cap, rfl, h1, fun i p hp => ?_⟩
    have hi := (List.getElem?_eq_some_iff.1 hp).1
    have ce : ∀ k, k < 2 → w.cell? ⟨g, i * 2 + k, none⟩ = (enc2 p)[k]? := fun k hk => by
      rw [World.ownsRow.cellAt h0 (i * 2 + k) (by omega), flat2 T i k p hp hk]
    rw [Nat.zero_add]
    exact ⟨ce 0 (by omega), ce 1 (by omega)⟩
/-- A table in memory. -/
def TabAt (ty : TypeId) (w : World) (b : Nat) (T : List KV) : Prop := ∃ sv, w.heap[b]? = some (.cells #[sv] ty (0, 0)) ∧ Rows2 w sv T
theorem TabAt.on {ty : TypeId} {w w' : World} {b : Nat} {T : List KV} (h : TabAt ty w b T) (hb : Below w.heap.size w w') : TabAt ty w' b T := by
  obtain ⟨sv, h1, h2⟩ := h
  exact ⟨sv, by rw [hb.block b (heap_lt h1)]; exact h1, h2.on hb⟩
theorem TabAt.drewN {ty : TypeId} {w : World} {b : Nat} {T : List KV} (h : TabAt ty w b T) (n : Nat) : TabAt ty (w.drewN n) b T := h.on (bel_drewN n w (Nat.le_refl _))
theorem TabAt.cell {ty : TypeId} {w : World} {b : Nat} {T : List KV} (h : TabAt ty w b T) : ∃ a c, w.cell? ⟨b, 0, none⟩ = some (.slice a T.length c) ∧ T.length ≤ c ∧ Rows2 w (.slice a T.length c) T := by
  obtain ⟨sv, h1, h2⟩ := h
  obtain ⟨a, c, rfl, hc⟩ := h2.form
  exact ⟨a, c, cell_of_row w b 0 _ _ _ h1, hc, h2⟩
/-- A table of a call's own: it lies in no block of entries that was there ahead, nor of another type. -/
def TabNew (ty : TypeId) (w w' : World) (b : Nat) (T : List KV) : Prop := ∃ sv, w'.heap[b]? = some (.cells #[sv] ty (0, 0)) ∧ Rows2 w' sv T ∧ w.heap.size ≤ b ∧ ∀ (q : Nat) (cs : Array Value) (t : TypeId) (fz : Nat × Nat), w.heap[q]? = some (.cells cs t fz) → t ≠ 84 → sv.ownBlock ≠ some q
theorem TabNew.at {ty : TypeId} {w w' : World} {b : Nat} {T : List KV} (h : TabNew ty w w' b T) : TabAt ty w' b T := by
  obtain ⟨sv, h1, h2, _⟩ := h
  exact ⟨sv, h1, h2⟩
def Rising (T : List KV) : Prop := T.Pairwise fun p q => p.1 < q.1
def under (key : List UInt8) (p : KV) : Bool := decide (p.1 < key)
/-- Where a key stands, or would; what it has. -/
def posOf (T : List KV) (key : List UInt8) : Nat := (T.takeWhile (under key)).length
def hasOf (T : List KV) (key : List UInt8) : Bool := match T[posOf T key]? with | some p => p.1 == key | none => false
def valOf (T : List KV) (key : List UInt8) : List UInt8 := if hasOf T key = true then (T.getD (posOf T key) ([], [])).2 else []
theorem tw_len {α : Type} {p : α → Bool} : ∀ (l : List α) (k : Nat), k ≤ l.length → (∀ j x, j < k → l[j]? = some x → p x = true) → (∀ x, l[k]? = some x → p x = false) → (l.takeWhile p).length = k
  | [], k, hk, _, _ => by
    obtain rfl : k = 0 := by simpa using hk
    rfl
  | c :: r, 0, _, _, h2 => by simp [h2 c rfl]
  | c :: r, k + 1, hk, h1, h2 => by
    have := tw_len r k (by simpa using hk) (fun j x hj hx => h1 (j + 1) x (by omega) hx) (fun x hx => h2 x hx)
    simp [h1 0 c (by omega) rfl, this]
theorem bytes_trans {a b c : List UInt8} (h1 : a < b) (h2 : b < c) : a < c := List.lt_trans h1 h2
/-- How far a search has come. -/
structure Sought (T : List KV) (key : List UInt8) (lo hi : Nat) : Prop where
  le : lo ≤ hi
  top : hi ≤ T.length
  ahead : ∀ j p, j < lo → T[j]? = some p → p.1 < key
  behind : ∀ j p, hi ≤ j → T[j]? = some p → ¬ p.1 < key
theorem Sought.start (T : List KV) (key : List UInt8) : Sought T key 0 T.length := ⟨Nat.zero_le _, Nat.le_refl _, fun j p hj => by omega, fun j p hj hp => by rw [List.getElem?_eq_none (by omega)] at hp; cases hp⟩
theorem rise_lt {T : List KV} (hr : Rising T) {i j : Nat} {p q : KV} (hij : i < j) (hp : T[i]? = some p) (hq : T[j]? = some q) : p.1 < q.1 := by
  have hj := (List.getElem?_eq_some_iff.1 hq).1
  have := List.pairwise_iff_getElem.1 hr i j (by omega) hj hij
  rwa [(List.getElem?_eq_some_iff.1 hp).2, (List.getElem?_eq_some_iff.1 hq).2] at this
theorem Sought.up {T : List KV} {key : List UInt8} {lo hi m : Nat} {p : KV} (h : Sought T key lo hi) (hr : Rising T) (hm : m < hi) (hp : T[m]? = some p) (hlt : p.1 < key) : Sought T key (m + 1) hi :=
  ⟨hm, h.top, fun j q hj hq => by
    rcases Nat.lt_or_ge j m with h1 | h1
    · exact bytes_trans (rise_lt hr h1 hq hp) hlt
    · obtain rfl : j = m := by omega
      rw [hp] at hq; cases hq; exact hlt, h.behind⟩
theorem Sought.down {T : List KV} {key : List UInt8} {lo hi m : Nat} {p : KV} (h : Sought T key lo hi) (hr : Rising T) (h1 : lo ≤ m) (hm : m < hi) (hp : T[m]? = some p) (hlt : ¬ p.1 < key) : Sought T key lo m :=
  ⟨h1, Nat.le_trans (Nat.le_of_lt hm) h.top, h.ahead, fun j q hj hq hq2 => by
    rcases Nat.lt_or_ge m j with h1 | h1
    · exact hlt (bytes_trans (rise_lt hr h1 hp hq) hq2)
    · obtain rfl : j = m := by omega
      rw [hp] at hq; cases hq; exact hlt hq2⟩
theorem Sought.fin {T : List KV} {key : List UInt8} {lo : Nat} (h : Sought T key lo lo) : posOf T key = lo :=
  tw_len T lo h.top (fun j x hj hx => decide_eq_true (h.ahead j x hj hx)) (fun x hx => decide_eq_false (h.behind lo x (Nat.le_refl _) hx))
theorem posOf_le (T : List KV) (key : List UInt8) : posOf T key ≤ T.length := (List.takeWhile_sublist _).length_le
def PlaceEnd (T : List KV) (key : List UInt8) (w : World) (e : Ending) (w' : World) : Prop := e = .returned (.tuple #[.int .i64 (posOf T key : Int), .bool (hasOf T key)]) ∧ ∃ n, w' = w.drewN n
theorem str_less (x : List UInt8) (key : ByteArray) : Op.bytesLess x key.toList = decide (x < key.data.toList) := by rw [bytesLess_eq, ByteArray.toList_eq]
set_option maxHeartbeats 4000000 in
set_option maxRecDepth 100000 in
theorem rPlace (b : Nat) (T : List KV) (key : ByteArray) (w : World) (h : TabAt 36 w b T) (hr : Rising T) (hn : T.length ≤ 1000000) : Calls Tryd.prog 24 #[.pointer (some ⟨b, 0, none⟩), .string key] w (PlaceEnd T key.data.toList w) := by
  obtain ⟨a, c, hc, hlc, hrow⟩ := h.cell
  have HROW := Lib.hid hrow
  have HR := Lib.hid hr
  clear h hrow hr
  go_enter Tryd.func24, Tryd.ntmps24
  go_wp2
  go_loop [6, 7] (fun x y => ∃ lo hi : Nat, x = .int .i64 lo ∧ y = .int .i64 hi ∧ Sought T key.data.toList lo hi) (fun x y => (intOf y).toNat - (intOf x).toNat)
  case atStart => exact ⟨0, T.length, rfl, rfl, Sought.start _ _⟩
  case round =>
    obtain ⟨lo, hi, rfl, rfl, hs⟩ := hrel
    have hle := hs.le
    have htop := hs.top
    have HS := Lib.hid hs
    clear hs
    by_cases hlt : lo < hi
    · have i1 : (lo : Int) < (hi : Int) := by omega
      obtain ⟨m, hm⟩ : ∃ m : Nat, ((lo : Int) + (hi : Int)) / 2 = (m : Int) := ⟨(lo + hi) / 2, by omega⟩
      have hm1 : lo ≤ m := by omega
      have hm2 : m < hi := by omega
      have j0 : (0 : Int) ≤ (m : Int) := by omega
      have j1 : (m : Int) < (T.length : Int) := by omega
      obtain ⟨p, hp⟩ : ∃ p, T[m]? = some p := ⟨T[m], List.getElem?_eq_getElem (by omega)⟩
      obtain ⟨gb, go_, rfl, c1, c2⟩ := HROW.out.cell hp
      have e1 := str_less p.1 key
      by_cases hk : p.1 < key.data.toList
      · have HS2 := Lib.hid (HS.out.up HR.out hm2 hp hk)
        rw [decide_eq_true hk] at e1
        clear hk hp
        go_wp2
        go_round
        case rel => exact ⟨m + 1, hi, by go_num, rfl, HS2.out⟩
        case measure => simp [intOf]; omega
      · have HS2 := Lib.hid (HS.out.down HR.out hm1 hm2 hp hk)
        rw [decide_eq_false hk] at e1
        clear hk hp
        go_wp2
        go_round
        case rel => exact ⟨lo, m, rfl, by rw [hm], HS2.out⟩
        case measure => simp [intOf]; omega
    · obtain rfl : lo = hi := by omega
      have HP := Lib.hid HS.out.fin
      have j0 : (0 : Int) ≤ (lo : Int) := by omega
      have i1 : ¬ (lo : Int) < (lo : Int) := by omega
      by_cases hl : lo < T.length
      · have j1 : (lo : Int) < (T.length : Int) := by omega
        obtain ⟨p, hp⟩ : ∃ p, T[lo]? = some p := ⟨T[lo], List.getElem?_eq_getElem hl⟩
        obtain ⟨gb, go_, rfl, c1, c2⟩ := HROW.out.cell hp
        have HH : Hid (hasOf T key.data.toList = (p.1 == key.data.toList)) := by show _ = _; unfold hasOf; rw [HP.out, hp]
        clear hp
        cases hk : p.1 == key.data.toList
        · have e2 : (p.1 == key.toList) = false := by rw [ByteArray.toList_eq]; exact hk
          rw [hk] at HH
          clear hk
          go_wp2
          go_quiet (fail)
          go_wp2
          go_ret2
          exact ⟨by rw [HP.out, HH.out]; rfl, _, rfl⟩
        · have e2 : (p.1 == key.toList) = true := by rw [ByteArray.toList_eq]; exact hk
          rw [hk] at HH
          clear hk
          go_wp2
          go_quiet (fail)
          go_wp2
          go_ret2
          exact ⟨by rw [HP.out, HH.out]; rfl, _, rfl⟩
      · have j1 : ¬ (lo : Int) < (T.length : Int) := by omega
        have HH : Hid (hasOf T key.data.toList = false) := by show _ = _; unfold hasOf; rw [HP.out, List.getElem?_eq_none (by omega)]
        have j2 : decide ((lo : Int) < (T.length : Int)) = false := decide_eq_false j1
        go_wp2
        go_quiet (fail)
        go_wp2
        go_ret2
        exact ⟨by rw [HP.out, HH.out]; rfl, _, rfl⟩
end Go.Proofs.YtbgdohggdaoojaaDoor.Table
