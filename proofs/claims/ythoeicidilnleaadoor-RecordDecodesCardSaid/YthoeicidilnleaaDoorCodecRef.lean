/-
  CODEC: the document's answers for a number's and a text's bytes.
-/
import Derived.Test.YthoeicidilnleaaDoorCodecDigits
import Derived.Laws.IdiomStrings
namespace Go.Proofs.YthoeicidilnleaaDoor.Codec
open Go.RowKit

/-! ### What a slice reads as, carried on -/
theorem Reads.on {w w' : World} {v : Value} {l : List UInt8} (h : Reads w v l) (hb : Below w.heap.size w w') : Reads w' v l := by
  rcases h with h | ⟨b, o, c, rfl, hc, hcell⟩
  · exact Or.inl h
  · refine Or.inr ⟨b, o, c, rfl, hc, fun i hi => ?_⟩
    have h1 := hcell i hi
    have hlt : b < w.heap.size := by
      rcases Nat.lt_or_ge b w.heap.size with h | h
      · exact h
      · rw [World.cell?, Array.getElem?_eq_none h] at h1; simp at h1
    rw [hb.cell (p := ⟨b, o + i, none⟩) hlt, h1]
theorem Reads.drew {w : World} {v : Value} {l : List UInt8} (h : Reads w v l) : Reads w.drew v l := h.on (Below.refl _ _).drew

theorem reads_bytes (w : World) (s : ByteArray) (cap : Nat) (hcap : s.size ≤ cap) (t : TypeId) (fz : Nat × Nat) :
    Reads (w.drew.alloc (.cells (bytesRow s cap) t fz)) (.slice (some ⟨w.heap.size, 0, none⟩) s.size cap) s.data.toList := by
  have hs : s.data.toList.length = s.size := by rw [Array.length_toList]; rfl
  refine Or.inr ⟨w.heap.size, 0, cap, by rw [hs], by omega, fun i hi => ?_⟩
  have h0 : (w.drew.alloc (.cells (bytesRow s cap) t fz)).heap[w.heap.size]? = some (.cells (bytesRow s cap) t fz) := by
    show (w.heap.push _)[w.heap.size]? = _
    simp
  rw [hs] at hi
  have hi2 : i < s.data.size := hi
  unfold World.cell?
  rw [h0]
  show (bytesRow s cap)[0 + i]? = _
  rw [Nat.zero_add, bytesRow, Array.getElem?_append_left (by simpa using hi2)]
  rw [Array.getElem?_map, Array.getElem?_eq_getElem hi2]
  simp [List.getD_eq_getElem?_getD, Array.getElem?_eq_getElem hi2]
theorem decDigits_le (k : Nat) : ∀ u, u < 10 ^ (k + 1) → (Lib.decDigits u).length ≤ k + 1 := by
  induction k with
  | zero => intro u h; rw [Lib.decDigits, dif_pos (by simpa using h)]; simp
  | succ k ih =>
    intro u h
    rw [Lib.decDigits]
    split
    · simp
    · rw [List.length_append]
      have := ih (u / 10) (by rw [Nat.pow_succ] at h; omega)
      simp only [List.length_cons, List.length_nil]; omega
theorem digits_17 {n : Nat} (h : n ≤ 9007199254740992) : (Lib.decDigits n).length ≤ 17 := by
  have e : (10 : Nat) ^ (16 + 1) = 100000000000000000 := by decide
  exact decDigits_le 16 n (by omega)

theorem ref_bytes (w : World) (s : ByteArray) : ∃ cap, s.size ≤ cap ∧ (convert 9 23 (.string s)).run Tryd.prog w = .ok (.slice (some ⟨w.heap.size, 0, none⟩) s.size cap) (w.drew.alloc (.cells (bytesRow s cap) 5 ((bytesRow s cap).size, (bytesRow s cap).size + 1))) :=
  ⟨_, grownCap_ge _ _ _ _, run_bytes_of_string w 9 23 5 s Tryd.underlying9 Tryd.underlying23 Tryd.underlying5⟩

/-- A number's bytes. -/
def numBytes (n : Nat) : List UInt8 := Lib.decDigits n ++ [59]
/-- A call's end: bytes, or a fault. -/
def BytesEnd (l : List UInt8) (z : Int) (w : World) (e : Ending) (w' : World) : Prop := ∃ v, e = .returned (.tuple #[v, .int .i64 z]) ∧ Reads w' v l ∧ Below w.heap.size w w'

theorem rNumber_no (n : Int) (w : World) (h : n < 0 ∨ 9007199254740992 < n) : Calls Tryd.prog 60 #[.int .i64 n] w (BytesEnd [] 22 w) := by
  rcases h with h | h
  · go_enter Tryd.func60, Tryd.ntmps60
    go_wp2
    go_ret2
    exact ⟨_, rfl, Or.inl ⟨rfl, _, _, rfl, fun _ => rfl⟩, Below.refl _ _⟩
  · go_enter Tryd.func60, Tryd.ntmps60
    go_wp2
    go_ret2
    exact ⟨_, rfl, Or.inl ⟨rfl, _, _, rfl, fun _ => rfl⟩, Below.refl _ _⟩
theorem rNumber_yes (n : Nat) (w : World) (h : n ≤ 9007199254740992) : Calls Tryd.prog 60 #[.int .i64 n] w (BytesEnd (numBytes n) 0 w) := by
  obtain ⟨S, hS⟩ : ∃ S : ByteArray, S = ⟨(Lib.decDigits n).toArray⟩ := ⟨_, rfl⟩
  have hd := rDigits_any n h w
  rw [← hS] at hd
  have HD := Lib.hid hd
  have HN : Hid ((S ++ ⟨#[59]⟩).data.toList = numBytes n) := by unfold Hid; rw [Joins.data_append, hS]; rfl
  have hlen : S.size ≤ 17 := by rw [hS]; exact digits_17 h
  clear hd hS
  go_enter Tryd.func60, Tryd.ntmps60
  go_wp2_with (go_at_call 59; refine HD.out.mono ?_; rintro e w1 ⟨rfl, hb1⟩; refine Hid.out ?_)
  refine Lib.hid ?_
  obtain ⟨cap, hcap, hcv⟩ := ref_bytes w1 (S ++ ⟨#[59]⟩)
  go_wp2
  go_ret2
  have hr := reads_bytes w1 (S ++ ⟨#[59]⟩) cap hcap 5 ((bytesRow (S ++ ⟨#[59]⟩) cap).size, (bytesRow (S ++ ⟨#[59]⟩) cap).size + 1)
  rw [HN.out, ByteArray.size_append] at hr
  exact ⟨_, rfl, hr, (hb1.alloc hb1.size _).drew⟩

/-- A text's bytes. -/
def textBytes (s : List UInt8) : List UInt8 := Lib.decDigits s.length ++ 58 :: (s ++ [44])
theorem rText_no (s : ByteArray) (w : World) (h : 1048576 < s.size) : Calls Tryd.prog 47 #[.string s] w (BytesEnd [] 22 w) := by
  go_enter Tryd.func47, Tryd.ntmps47
  go_wp2
  go_ret2
  exact ⟨_, rfl, Or.inl ⟨rfl, _, _, rfl, fun _ => rfl⟩, Below.refl _ _⟩
theorem rText_yes (s : ByteArray) (w : World) (h : s.size ≤ 1048576) : Calls Tryd.prog 47 #[.string s] w (BytesEnd (textBytes s.data.toList) 0 w) := by
  obtain ⟨S, hS⟩ : ∃ S : ByteArray, S = ⟨(Lib.decDigits s.size).toArray⟩ := ⟨_, rfl⟩
  have hd := rDigits_any s.size (by omega) w
  rw [← hS] at hd
  have HD := Lib.hid hd
  obtain ⟨T, hT⟩ : ∃ T : ByteArray, T = S ++ ⟨#[58]⟩ ++ s ++ ⟨#[44]⟩ := ⟨_, rfl⟩
  have HN : Hid (T.data.toList = textBytes s.data.toList) := by
    unfold Hid
    rw [hT, Joins.data_append, Joins.data_append, Joins.data_append, hS, textBytes, show s.data.toList.length = s.size from Array.length_toList]
    simp
  have hlen : S.size ≤ 17 := by rw [hS]; exact digits_17 (by omega)
  have HS : Hid (T.size = S.size + 1 + s.size + 1) := by
    unfold Hid; rw [hT, ByteArray.size_append, ByteArray.size_append, ByteArray.size_append]; rfl
  have HT := Lib.hid hT
  clear hd hS hT
  go_enter Tryd.func47, Tryd.ntmps47
  go_wp2_with (go_at_call 59; refine HD.out.mono ?_; rintro e w1 ⟨rfl, hb1⟩; refine Hid.out ?_)
  refine Lib.hid ?_
  obtain ⟨cap, hcap, hcv⟩ := ref_bytes w1 T
  have hr := reads_bytes w1 T cap hcap 5 ((bytesRow T cap).size, (bytesRow T cap).size + 1)
  rw [HN.out, HS.out, HT.out] at hr
  rw [HT.out, ← HT.out, HS.out, HT.out] at hcv
  have HR := Lib.hid hr
  clear hr
  go_wp2
  go_ret2
  exact ⟨_, rfl, HR.out, (hb1.alloc hb1.size _).drew⟩
end Go.Proofs.YthoeicidilnleaaDoor.Codec
