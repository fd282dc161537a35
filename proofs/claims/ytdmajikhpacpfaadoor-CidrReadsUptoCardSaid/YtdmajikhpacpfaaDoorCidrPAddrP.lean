/-
  CIDR, the program: an address.
-/
import Derived.Test.YtdmajikhpacpfaaDoorCidrPSix
import Derived.Deep.RegionHeld3
namespace Go.Proofs.YtdmajikhpacpfaaDoor.Cidr
open Go.RowKit Base
theorem list16 {c : List UInt8} (h : c.length = 16) : ∃ a0 a1 a2 a3 a4 a5 a6 a7 a8 a9 a10 a11 a12 a13 a14 a15, c = [a0, a1, a2, a3, a4, a5, a6, a7, a8, a9, a10, a11, a12, a13, a14, a15] := by
  rcases c with _ | ⟨a0, c⟩
  · simp at h
  rcases c with _ | ⟨a1, c⟩
  · simp at h
  rcases c with _ | ⟨a2, c⟩
  · simp at h
  rcases c with _ | ⟨a3, c⟩
  · simp at h
  rcases c with _ | ⟨a4, c⟩
  · simp at h
  rcases c with _ | ⟨a5, c⟩
  · simp at h
  rcases c with _ | ⟨a6, c⟩
  · simp at h
  rcases c with _ | ⟨a7, c⟩
  · simp at h
  rcases c with _ | ⟨a8, c⟩
  · simp at h
  rcases c with _ | ⟨a9, c⟩
  · simp at h
  rcases c with _ | ⟨a10, c⟩
  · simp at h
  rcases c with _ | ⟨a11, c⟩
  · simp at h
  rcases c with _ | ⟨a12, c⟩
  · simp at h
  rcases c with _ | ⟨a13, c⟩
  · simp at h
  rcases c with _ | ⟨a14, c⟩
  · simp at h
  rcases c with _ | ⟨a15, c⟩
  · simp at h
  have hc : c = [] := by simpa using h
  subst hc
  exact ⟨a0, a1, a2, a3, a4, a5, a6, a7, a8, a9, a10, a11, a12, a13, a14, a15, rfl⟩
theorem run_net (six : Bool) (b : Int) {c : List UInt8} (hc : c.length = 16) (w : World) : (Instr.build 25 #[(0, .bool six), (1, .int .i64 b), (2, .agg (c.map B8).toArray)]).run Tryd.prog w = .ok (netV ⟨six, b, c⟩) w := by
  obtain ⟨a0, a1, a2, a3, a4, a5, a6, a7, a8, a9, a10, a11, a12, a13, a14, a15, rfl⟩ := list16 hc
  kernel_rfl
theorem exec_build {ρ : Operand → Value} {o : Oper} {t : TypeId} {i j k : Nat} {a b c : Operand} {v : Value} {w : World} (ho : o.op = .build t #[(i, a), (j, b), (k, c)]) (h : (Instr.build t #[(i, ρ a), (j, ρ b), (k, ρ c)]).run Tryd.prog w = .ok v w) : (execOp ρ o).run Tryd.prog w = .ok (.value v) w := by
  unfold execOp
  simp only [ho, List.map_toArray, List.map_cons, List.map_nil, Sem.run_bind, h, Result.andThen_ok, Sem.run_pure]
theorem a_no {f : FuncId} {args : Array Value} {w : World} (h : Calls Tryd.prog f args w (AEnd none w)) : Calls Tryd.prog f args w (fun e w' => e = .returned (.tuple #[.agg (zA.map B8).toArray, .bool false]) ∧ Below w.heap.size w w') :=
  h.mono fun e w' h => by
    rcases h with ⟨hb, ⟨_, h2⟩ | ⟨n, h1, _⟩⟩
    · exact ⟨h2, hb⟩
    · cases h1
theorem a_yes {f : FuncId} {args : Array Value} {w : World} {n : NetM} (h : Calls Tryd.prog f args w (AEnd (some n) w)) : Calls Tryd.prog f args w (fun e w' => n.a.length = 16 ∧ e = .returned (.tuple #[.agg (n.a.map B8).toArray, .bool true]) ∧ Below w.heap.size w w') :=
  h.mono fun e w' h => by
    rcases h with ⟨hb, ⟨h1, _⟩ | ⟨m, h1, h2, h3⟩⟩
    · cases h1
    · cases h1; exact ⟨h2, h3, hb⟩
theorem mem_split {c x : UInt8} : ∀ {l : List UInt8}, x ∈ l → x = c ∨ ∃ p ∈ splitB c l, x ∈ p
  | [], h => by simp at h
  | y :: r, h => by
    rw [splitB_eq]
    by_cases hy : y = c
    · rw [if_pos hy]
      rcases List.mem_cons.1 h with rfl | h
      · exact Or.inl hy
      · rcases mem_split (c := c) h with h | ⟨p, hp, hx⟩
        · exact Or.inl h
        · exact Or.inr ⟨p, List.mem_cons_of_mem _ hp, hx⟩
    · rw [if_neg hy]
      split
      · rename_i hq; exact absurd hq (splitB_ne c r)
      · rename_i hd tl hq
        rcases List.mem_cons.1 h with rfl | h
        · exact Or.inr ⟨_, List.mem_cons_self, List.mem_cons_self⟩
        · rcases mem_split (c := c) h with h | ⟨p, hp, hx⟩
          · exact Or.inl h
          · rw [hq] at hp
            rcases List.mem_cons.1 hp with rfl | hp
            · exact Or.inr ⟨_, List.mem_cons_self, List.mem_cons_of_mem _ hx⟩
            · exact Or.inr ⟨p, List.mem_cons_of_mem _ hp, hx⟩
theorem four_colon {l : List UInt8} (h : (58 : UInt8) ∈ l) : fourN l = none := by
  cases hf : fourN l with
  | none => rfl
  | some n =>
    exfalso
    unfold fourN fourB at hf
    split at hf
    · cases hm : mapO byteN (splitB 46 l) with
      | none => rw [hm] at hf; cases hf
      | some ns =>
        obtain ⟨_, h2⟩ := mapO_all hm
        rcases mem_split (c := 46) h with h | ⟨p, hp, hx⟩
        · exact absurd h (by decide)
        · obtain ⟨y, hy⟩ := h2 p hp
          have hd := (byteN_le hy).2
          unfold decN at hd
          split at hd
          · rename_i hh
            have := List.all_eq_true.1 hh.2.2.2 58 hx
            exact absurd this (by decide)
          · cases hd
    · cases hf
theorem six_none {s : ByteArray} (h : ∀ x ∈ s.data.toList, x ≠ 58) : sixS s = none := by
  have hcc : firstCC s.data.toList = none := by
    unfold firstCC
    rw [List.find?_eq_none]
    intro j hj
    rw [List.mem_range] at hj
    unfold ccB
    rw [List.getD_eq_getElem?_getD, List.getElem?_eq_getElem (show j < s.data.toList.length by omega)]
    have e : decide (s.data.toList[j]'(by omega) = 58) = false := decide_eq_false (h _ (List.getElem_mem (show j < s.data.toList.length by omega)))
    simp only [Option.getD_some, e, Bool.false_and]
    simp
  unfold sixS
  rw [hcc]
  show (match grpsN s.data.toList, grpsN [] with | some A, some B => if okG none A.length B.length = true then some (⟨true, 128, (allG A B).flatMap two⟩ : NetM) else none | _, _ => none) = none
  cases hA : grpsN s.data.toList with
  | none => rfl
  | some A =>
    have hl : A.length ≤ 1 := by
      unfold grpsN at hA
      split at hA
      · cases hA; simp
      · rw [splitB_none h] at hA
        have := (mapO_all hA).1; simpa using Nat.le_of_eq this
    simp only [grpsN, if_true]
    rw [if_neg]
    intro hok
    have := of_decide_eq_true hok
    omega
theorem four_kind {l : List UInt8} {n : NetM} (h : fourN l = some n) : (⟨false, sizeN false, n.a⟩ : NetM) = n := by
  unfold fourN at h
  cases hb : fourB l with
  | none => rw [hb] at h; cases h
  | some ns => rw [hb] at h; cases h; rfl
theorem six_kind {s : ByteArray} {n : NetM} (h : sixS s = some n) : (⟨true, sizeN true, n.a⟩ : NetM) = n := by
  unfold sixS at h
  split at h
  · split at h
    · cases h; rfl
    · cases h
  · cases h
end Go.Proofs.YtdmajikhpacpfaaDoor.Cidr
