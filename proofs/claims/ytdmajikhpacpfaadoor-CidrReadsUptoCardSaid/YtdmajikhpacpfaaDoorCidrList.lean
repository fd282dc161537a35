/-
  CIDR, the given answers: several ranges as text.
-/
import Derived.Test.YtdmajikhpacpfaaDoorCidrParse
import Derived.Test.YtdmajikhpacpfaaDoorCidrWords
import Derived.Test.YtdmajikhpacpfaaDoorCidrG2
import Derived.Deep.DeepMust
namespace Go.Proofs.YtdmajikhpacpfaaDoor.Cidr
open Go.RowKit Base
def parseW (l : List UInt8) : Option NetM := parseN ⟨l.toArray⟩
inductive ListO where
  | bad (c : Int)
  | ok (ns : List NetM)
def listO (ls : List (List UInt8)) : ListO := if 200 < ls.length then .bad 71 else match mapO parseW ls with | none => .bad 70 | some ns => .ok ns
def listN (s : ByteArray) : ListO := listO (wordsB s.data.toList)
theorem info25 : (Tryd.prog.info? 25).map (fun i => (i.zero, i.size, i.bytes)) = some (some (netV zeroN), 18, 32) := by kernel_rfl
/-- A row of ranges of the call's own. -/
def OwnsN (w : World) (B : Nat) (v : Value) (ns : List NetM) : Prop := w.ownsRow B 25 18 v ns.length (ns.flatMap netL) ∧ ∀ n ∈ ns, n.a.length = 16
def ListEnd (o : ListO) (w : World) (e : Ending) (w' : World) : Prop :=
  Below w.heap.size w w' ∧ ((∃ c, o = .bad c ∧ e = .returned (.tuple #[.slice none 0 0, .int .i64 c])) ∨ ∃ ns v, o = .ok ns ∧ e = .returned (.tuple #[v, .int .i64 0]) ∧ OwnsN w' w.heap.size v ns)
theorem OwnsN.form {w : World} {B : Nat} {v : Value} {ns : List NetM} (h : OwnsN w B v ns) : ∃ a c, v = .slice a ns.length c ∧ ns.length ≤ c := row_form h.1
theorem OwnsN.on {w w' : World} {B : Nat} {v : Value} {ns : List NetM} (h : OwnsN w B v ns) (hb : Below w.heap.size w w') : OwnsN w' B v ns := by
  refine ⟨⟨h.1.1, ?_⟩, h.2⟩
  rcases h.1.2 with hn | ⟨g, cap, cur, rfl, h1, h2, h3⟩
  · exact Or.inl hn
  · exact Or.inr ⟨g, cap, cur, rfl, h1, by rw [hb.block g (heap_lt h2)]; exact h2, h3⟩
theorem OwnsN.mono {w : World} {B B' : Nat} {v : Value} {ns : List NetM} (h : OwnsN w B v ns) (hB : B' ≤ B) : OwnsN w B' v ns := by
  refine ⟨⟨h.1.1, ?_⟩, h.2⟩
  rcases h.1.2 with hn | ⟨g, cap, cur, rfl, h1, h2⟩
  · exact Or.inl hn
  · exact Or.inr ⟨g, cap, cur, rfl, by omega, h2⟩
theorem wp_append_net (w : World) {ops : Array Oper} {rest : List Oper} {o : Oper} {a : Act} {Q : Exit → Act → World → Prop} (hgd : o.guard = none) (s x : Operand)
    (ho : o.op = .call { callee := .builtin .append, args := #[s, x], argTypes := #[29, 29] })
    (B : Nat) (v : Value) (ns : List NetM) (n : NetM) (b c : Nat) (hs : a.eval s = v) (hx : a.eval x = .slice (some ⟨b, 0, none⟩) 1 c) (hown : OwnsN w B v ns)
    (hn : NetAt w b n) (ha : n.a.length = 16) (hlim : ns.length ≤ 1000) (hB : B ≤ w.heap.size)
    (h : ∀ v' w', OwnsN w' B v' (ns ++ [n]) → Below B w w' → wpList Tryd.prog ops Q rest (a.put o.dst v') w') : wpList Tryd.prog ops Q (o :: rest) a w := by
  obtain ⟨i0, hi, hz0, hz1, hz2⟩ := info_parts info25
  refine wpList_plain hgd fun K hK => ?_
  obtain ⟨v', w', e1, e2, e3, _⟩ := run_append_own_wide (P := Tryd.prog) w B 29 o.type 25 i0 (netV zeroN) 18 32 Tryd.underlying29 hi hz0 hz1 hz2 rfl (by decide) v ns.length (ns.flatMap netL) hown.1 ⟨b, 0, none⟩ 1 c (netL n) (by simp [ha])
    (fun j u hu => by rw [Addr.add_lit]; exact hn.range0 j u hu) (netL_one n) (by unfold maxLen; omega) (by omega) hB
  unfold Oper.wp execOp
  simp only [ho, resolve, invoke, builtin, Sem.run_bind, Sem.run_pure, Result.andThen_ok, List.map_toArray, List.map_cons, List.map_nil, hs, hx, e1]
  refine hK _ _ (h v' w' ⟨?_, ?_⟩ ((Below.refl B w).grown e3 hB fun k hk => (hown.1.lt k hk).1))
  · rw [List.flatMap_append, List.length_append]
    simpa using e2
  · intro m hm
    rcases List.mem_append.1 hm with h1 | h1
    · exact hown.2 m h1
    · rw [List.mem_singleton.1 h1]; exact ha
end Go.Proofs.YtdmajikhpacpfaaDoor.Cidr
