/-
  RECORD: the message whose mark i is turned: its bytes, its right, its fit.
-/
import Derived.Test.YthoeicidilnleaaDoorRecordBackF
namespace Go.Proofs.YthoeicidilnleaaDoor.Codec

/-- The message with mark i turned to x. -/
def turnedM (m : Msg) (i : Nat) (x : UInt8) : Msg := { m with rcpts := m.rcpts.set i ((m.rcpts.getD i rc0).1, x) }
theorem split_rcs {rs : List Rc} {i : Nat} (h : i < rs.length) : rs = rs.take i ++ rs.getD i rc0 :: rs.drop (i + 1) := by
  rw [← drop_consR h, List.take_append_drop]
theorem split_set {rs : List Rc} {i : Nat} (h : i < rs.length) (r : Rc) : rs.set i r = rs.take i ++ r :: rs.drop (i + 1) := by
  rw [List.set_eq_take_append_cons_drop, if_pos h]
theorem turned_head (m : Msg) (i : Nat) (x : UInt8) : headOf (turnedM m i x) = headOf m := by
  unfold headOf turnedM; simp only [List.length_set]
theorem turned_plain {m : Msg} {i : Nat} (h : i < m.rcpts.length) (x : UInt8) : bodyOf true (turnedM m i x) = bodyOf true m := by
  unfold bodyOf
  rw [turned_head]
  have e1 : (turnedM m i x).rcpts = m.rcpts.take i ++ ((m.rcpts.getD i rc0).1, x) :: m.rcpts.drop (i + 1) := split_set h _
  have e2 : rcsBytes true (turnedM m i x).rcpts = rcsBytes true m.rcpts := by
    rw [e1]
    have e3 := congrArg (rcsBytes true) (split_rcs h)
    rw [e3]
    unfold rcsBytes
    rw [List.flatMap_append, List.flatMap_append, List.flatMap_cons, List.flatMap_cons]
    rfl
  rw [e2]
  rfl
theorem turned_bytes {m : Msg} {i : Nat} (h : i < m.rcpts.length) (x : UInt8) : (bytesOf m).set (markAt m i) x = bytesOf (turnedM m i x) := by
  have e1 : (turnedM m i x).rcpts = m.rcpts.take i ++ ((m.rcpts.getD i rc0).1, x) :: m.rcpts.drop (i + 1) := split_set h _
  have e2 : bytesOf (turnedM m i x) = (headOf m ++ rcsBytes false (m.rcpts.take i)) ++ 114 :: x :: (textBytes (m.rcpts.getD i rc0).1.data.toList ++ rcsBytes false (m.rcpts.drop (i + 1)) ++ 100 :: textBytes m.data ++ 101 :: hexOf (crc (bodyOf true m)) ++ [10]) := by
    unfold bytesOf
    rw [turned_plain h]
    generalize crc (bodyOf true m) = c
    unfold bodyOf
    rw [turned_head, e1]
    simp [rcsBytes, rcBytes, turnedM]
  have e3 : bytesOf m = (headOf m ++ rcsBytes false (m.rcpts.take i)) ++ 114 :: (m.rcpts.getD i rc0).2 :: (textBytes (m.rcpts.getD i rc0).1.data.toList ++ rcsBytes false (m.rcpts.drop (i + 1)) ++ 100 :: textBytes m.data ++ 101 :: hexOf (crc (bodyOf true m)) ++ [10]) := by
    unfold bytesOf
    generalize crc (bodyOf true m) = c
    unfold bodyOf
    have e4 := congrArg (rcsBytes false) (split_rcs h)
    rw [e4]
    simp [rcsBytes, rcBytes]
  rw [e2, e3]
  refine set_mid _ _ _ _ _ _ ?_
  unfold markAt
  rw [List.length_append, rcsBytes_len false true]
theorem mem_turned {m : Msg} {i : Nat} {x : UInt8} {r : Rc} (h : i < m.rcpts.length) (hr : r ∈ (turnedM m i x).rcpts) : r ∈ m.rcpts ∨ ∃ q ∈ m.rcpts, r = (q.1, x) := by
  rcases List.mem_or_eq_of_mem_set hr with h1 | h1
  · exact Or.inl h1
  · exact Or.inr ⟨_, getD_mem h, h1⟩
theorem turned_form {m : Msg} {i : Nat} {x : UInt8} (h : i < m.rcpts.length) (hx : markB x = true) (hf : formB m = true) : formB (turnedM m i x) = true := by
  have hall := form_rcs hf
  unfold formB at hf ⊢
  simp only [Bool.and_eq_true, List.all_eq_true] at hf ⊢
  refine ⟨⟨hf.1.1, ?_⟩, fun r hr => ?_⟩
  · have := hf.1.2; simpa [turnedM] using this
  · rcases mem_turned h hr with h1 | ⟨q, h1, rfl⟩
    · exact hall r h1
    · have := hall q h1
      unfold rcB at this ⊢
      simp only [Bool.and_eq_true] at this ⊢
      exact ⟨this.1, hx⟩
theorem turned_fits {m : Msg} {i : Nat} {x : UInt8} (h : i < m.rcpts.length) (hf : Fits m) : Fits (turnedM m i x) := by
  obtain ⟨f1, f2, f3, f4, f5, f6⟩ := hf
  refine ⟨f1, by simpa [turnedM] using f2, f3, fun r hr => ?_, f5, f6⟩
  rcases mem_turned h hr with h1 | ⟨q, h1, rfl⟩
  · exact f4 r h1
  · exact f4 q h1
theorem turned_valid {m : Msg} {i : Nat} {x : UInt8} (h : i < m.rcpts.length) (hv : Valid m) : Valid (turnedM m i x) := by
  obtain ⟨v1, v2, v3, v4, v5, v6, v7⟩ := hv
  refine ⟨v1, v2, v3, by simpa [turnedM] using v4, by simpa [turnedM] using v5, fun r hr => ?_, v7⟩
  rcases mem_turned h hr with h1 | ⟨q, h1, rfl⟩
  · exact v6 r h1
  · exact v6 q h1
/-- What reading the turned bytes answers. -/
theorem decode_marked {m : Msg} {i : Nat} {x : UInt8} (h : i < m.rcpts.length) (hx : markB x = true) (hv : Valid m) (hf : formB m = true) : decodeF ((bytesOf m).set (markAt m i) x) = (turnedM m i x, 0) := by
  rw [turned_bytes h]; exact decode_back (turned_valid h hv) (turned_form h hx hf)
end Go.Proofs.YthoeicidilnleaaDoor.Codec
