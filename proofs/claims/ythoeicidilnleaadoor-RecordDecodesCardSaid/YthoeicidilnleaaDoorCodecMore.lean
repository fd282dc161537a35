/-
  CODEC: what a slice reads as: conversions, literals, new blocks (for the layers above).
-/
import Derived.Test.YthoeicidilnleaaDoorCodecOwn
import Derived.Lib.SlBytesConst
namespace Go.Proofs.YthoeicidilnleaaDoor.Codec
open Go.RowKit

/-- 'string(b)', b reading as some bytes. -/
theorem conv_reads {w : World} {v : Value} {l : List UInt8} (h : Reads w v l) : (convert 23 9 v).run Tryd.prog w = .ok (.string ⟨l.toArray⟩) w := by
  rcases h with ⟨rfl, a, c, rfl, _⟩ | ⟨b, o, c, rfl, _, hc⟩
  · cases a with
    | none => rw [run_convert_bytes_string w 23 9 5 none 0 c Tryd.underlying23 Tryd.underlying5 Tryd.underlying9]; rfl
    | some a => exact run_convert_bytes_back (P := Tryd.prog) w 23 9 5 a c [] Tryd.underlying23 Tryd.underlying5 Tryd.underlying9 (fun j hj => by simp at hj)
  · refine run_convert_bytes_back (P := Tryd.prog) w 23 9 5 ⟨b, o, none⟩ c l Tryd.underlying23 Tryd.underlying5 Tryd.underlying9 (fun j hj => ?_)
    rw [Addr.add_lit, hc j hj]
    congr 2
    simp [List.getD, List.getElem?_eq_getElem hj]
theorem reads_lit (w : World) (t : TypeId) (cs : Array Value) (l : List UInt8) (n : Nat) (hn : n = l.length) (h : cs.toList = Lib.byteCells l) (fz : Nat × Nat) : Reads (w.alloc (.cells cs t fz)) (.slice (some ⟨w.heap.size, 0, none⟩) n n) l := by
  subst hn
  refine Or.inr ⟨w.heap.size, 0, l.length, rfl, Nat.le_refl _, fun i hi => ?_⟩
  have h0 : (w.alloc (.cells cs t fz)).heap[w.heap.size]? = some (.cells cs t fz) := by
    show (w.heap.push _)[w.heap.size]? = _
    simp
  unfold World.cell?
  rw [h0]
  show cs[0 + i]? = _
  rw [Nat.zero_add, ← Array.getElem?_toList, h]
  simp [Lib.byteCells, List.getD, List.getElem?_eq_getElem hi]
theorem Below.alloc1 (w : World) (o : Obj) : Below w.heap.size w (w.alloc o) := (Below.refl _ _).alloc (Nat.le_refl _) o

theorem Below.of_eq {w w' : World} (h : w = w') : Below w.heap.size w w' := by subst h; exact Below.refl _ _

theorem owns_new (w : World) : Owns (w.alloc (.cells #[] 5)) w.heap.size (.slice (some ⟨w.heap.size, 0, none⟩) 0 0) [] :=
  World.ownsRow_lit w #[] 0 (Nat.le_refl _) (by decide) rfl
theorem Owns.form {w : World} {B : Nat} {v : Value} {l : List UInt8} (h : Owns w B v l) (h0 : 0 < l.length) : ∃ g c, v = .slice (some ⟨g, 0, none⟩) l.length c ∧ B ≤ g ∧ g < w.heap.size := by
  rcases h.2 with ⟨_, hn⟩ | ⟨g, cap, cur, rfl, h1, h2, _⟩
  · omega
  · refine ⟨g, cap, rfl, h1, ?_⟩
    rcases Nat.lt_or_ge g w.heap.size with h | h
    · exact h
    · rw [Array.getElem?_eq_none h] at h2; simp at h2
/-- One byte stored. -/
theorem Owns.stored {w : World} {B g c : Nat} {l : List UInt8} (h : Owns w B (.slice (some ⟨g, 0, none⟩) l.length c) l) (k : Nat) (x : UInt8) (_hk : k < l.length) :
    Owns (w.setCell ⟨g, k, none⟩ (.int .u8 (x.toNat : Int))) B (.slice (some ⟨g, 0, none⟩) l.length c) (l.set k x) := by
  have := World.ownsRow.stored h k (.int .u8 (x.toNat : Int))
  unfold Owns
  rw [List.length_set]
  have e : Lib.byteCells (l.set k x) = (Lib.byteCells l).set k (.int .u8 (x.toNat : Int)) := by simp [Lib.byteCells]
  rw [e]
  exact this.1
theorem Owns.cell {w : World} {B g c : Nat} {l : List UInt8} (h : Owns w B (.slice (some ⟨g, 0, none⟩) l.length c) l) (k : Nat) (hk : k < l.length) : w.cell? ⟨g, k, none⟩ = some (.int .u8 ((l.getD k 0).toNat : Int)) := by
  have := World.ownsRow.cellAt h k (by omega)
  rw [this]
  simp [Lib.byteCells, List.getD, List.getElem?_eq_getElem hk]
theorem Owns.free {w : World} {B g c : Nat} {l : List UInt8} (h : Owns w B (.slice (some ⟨g, 0, none⟩) l.length c) l) (k : Nat) : w.frozen? ⟨g, k, none⟩ = false := World.ownsRow.frozenAt h k
theorem Owns.form2 {w : World} {B : Nat} {v : Value} {l : List UInt8} (h : Owns w B v l) (h0 : 0 < l.length) : ∃ g c, v = .slice (some ⟨g, 0, none⟩) l.length c ∧ l.length ≤ c ∧ c ≤ 9223372036854775807 := by
  rcases h.2 with ⟨_, hn⟩ | ⟨g, cap, cur, rfl, h1, h2, h3, h4, _⟩
  · omega
  · exact ⟨g, cap, rfl, h3, h4⟩
end Go.Proofs.YthoeicidilnleaaDoor.Codec
