/-
  RECORD: the plain words: addresses, marks, messages, their bytes, and how bytes are read; no program.
-/
import Derived.Test.YthoeicidilnleaaDoorCodecBack
namespace Go.Proofs.YthoeicidilnleaaDoor.Codec

/-! ### Addresses and marks -/
def okByte (c : UInt8) : Bool := decide (32 ≤ c.toNat ∧ c.toNat ≤ 126)
def addrB (l : List UInt8) : Bool := decide (1 ≤ l.length ∧ l.length ≤ 320) && l.all okByte
def markB (c : UInt8) : Bool := decide (c = 80 ∨ c = 68 ∨ c = 66 ∨ c = 88)
def fromB (l : List UInt8) : Bool := l.isEmpty || addrB l
theorem addr_len {l : List UInt8} (h : addrB l = true) : 1 ≤ l.length ∧ l.length ≤ 320 := by
  simp [addrB] at h; exact ⟨h.1.1, h.1.2⟩
theorem addr_long {l : List UInt8} (h : l.length = 0 ∨ 320 < l.length) : addrB l = false := by
  simp [addrB]; intro h1 h2; omega
theorem addr_all {l : List UInt8} (h : 1 ≤ l.length ∧ l.length ≤ 320) : addrB l = l.all okByte := by
  simp [addrB, h]
theorem from_len {l : List UInt8} (h : fromB l = true) : l.length ≤ 320 := by
  simp only [fromB, Bool.or_eq_true] at h
  rcases h with h | h
  · simp at h; subst h; simp
  · exact (addr_len h).2

/-! ### Messages -/
abbrev Rc := ByteArray × UInt8
structure Msg where
  time : Int
  sender : ByteArray
  rcpts : List Rc
  data : List UInt8
def longB (m : Msg) : Bool := decide (1048576 < m.data.length ∨ 200 < m.rcpts.length ∨ 320 < m.sender.size) || m.rcpts.any fun r => decide (320 < r.1.size)
def rcB (r : Rc) : Bool := addrB r.1.data.toList && markB r.2
def formB (m : Msg) : Bool := decide (0 ≤ m.time ∧ m.time ≤ 9007199254740992) && fromB m.sender.data.toList && decide (1 ≤ m.rcpts.length ∧ m.rcpts.length ≤ 200) && m.rcpts.all rcB
def rightOf (m : Msg) : Int := if longB m then 31 else if formB m then 0 else 30

/-! ### Their bytes -/
def headOf (m : Msg) : List UInt8 := [87, 49, 59, 116] ++ numBytes m.time.toNat ++ 102 :: textBytes m.sender.data.toList ++ 110 :: numBytes m.rcpts.length
def rcBytes (plain : Bool) (r : Rc) : List UInt8 := 114 :: (if plain then 80 else r.2) :: textBytes r.1.data.toList
def rcsBytes (plain : Bool) (rs : List Rc) : List UInt8 := rs.flatMap (rcBytes plain)
def bodyOf (plain : Bool) (m : Msg) : List UInt8 := headOf m ++ rcsBytes plain m.rcpts ++ 100 :: textBytes m.data
def bytesOf (m : Msg) : List UInt8 := bodyOf false m ++ 101 :: hexOf (crc (bodyOf true m)) ++ [10]
def markAt (m : Msg) (i : Nat) : Nat := (headOf m).length + (rcsBytes true (m.rcpts.take i)).length + 1

theorem rcBytes_len (p q : Bool) (r : Rc) : (rcBytes p r).length = (rcBytes q r).length := by simp [rcBytes]
theorem rcsBytes_len (p q : Bool) : ∀ rs : List Rc, (rcsBytes p rs).length = (rcsBytes q rs).length := by
  intro rs
  induction rs with
  | nil => rfl
  | cons r t ih => simp only [rcsBytes, List.flatMap_cons, List.length_append] at ih ⊢; rw [rcBytes_len p q, ih]
theorem rcsBytes_snoc (p : Bool) (rs : List Rc) (r : Rc) : rcsBytes p (rs ++ [r]) = rcsBytes p rs ++ rcBytes p r := by simp [rcsBytes]
end Go.Proofs.YthoeicidilnleaaDoor.Codec
