/-
  CIDR: what every row of this layer shares: how arguments are opened, the library's variables, the witness.
-/
import Derived.Test.YtdmajikhpacpfaaDoorCidrShown
import Derived.Test.YtdmajikhpacpfaaDoorRows
import Derived.ProofKit
import Derived.OpenShut
import Derived.ShutString
import Derived.ChangeOld
import Derived.Deep.DeepHandedRow
import Derived.Lib.LaidTab
import Derived.Stop.LaidErr
import Derived.MakeChecks
import Derived.LaidMore
import Derived.Shelf.Vars
import Derived.Lay
import Derived.PinnedBridge
namespace Go.Proofs.YtdmajikhpacpfaaDoor.Cidr
open Go.ChangeShapes Go.WideShapes Go.ChangeAt Go.RowKit Base
open Go.ChangeMaps (open_string shut_string)
theorem own : ownKnob Tryd.prog.godebug = none := by kernel_rfl
theorem laidOut : laidOutB Tryd.prog = true := by kernel_rfl
theorem types25 : Tryd.prog.cellTypes Tryd.prog.depth 25 = some [4, 3, 5, 5, 5, 5, 5, 5, 5, 5, 5, 5, 5, 5, 5, 5, 5, 5] := by kernel_rfl
theorem cells25 : Tryd.prog.cellsOf 25 = 18 := by kernel_rfl
set_option maxRecDepth 100000 in
theorem cell_bool {w : World} {r : Reach} {base : Nat} {v : Value} (h : Cell.okWide Tryd.prog w r base 4 v) : ∃ b, v = .bool b := by
  simp only [Cell.okWide, Tryd.underlying4] at h
  cases v <;> simp_all [Cell.ok]
set_option maxRecDepth 100000 in
theorem cell_int {w : World} {r : Reach} {base : Nat} {v : Value} (h : Cell.okWide Tryd.prog w r base 3 v) : ∃ n, v = .int .i64 n := by
  simp only [Cell.okWide, Tryd.underlying3] at h
  cases v <;> simp_all [Cell.ok]
set_option maxRecDepth 100000 in
theorem cell_byte {w : World} {r : Reach} {base : Nat} {v : Value} (h : Cell.okWide Tryd.prog w r base 5 v) : ∃ x : UInt8, v = B8 x := by
  simp only [Cell.okWide, Tryd.underlying5] at h
  cases v with
  | int k n =>
    simp [Cell.ok, IntKind.has] at h
    obtain ⟨rfl, h1, h2⟩ := h
    have h1 : (0 : Int) ≤ n := h1
    have h2 : n ≤ 255 := h2
    refine ⟨UInt8.ofNat n.toNat, ?_⟩
    show _ = Value.int .u8 _
    congr 1
    simp only [UInt8.toNat_ofNat']
    omega
  | _ => simp_all [Cell.ok]
set_option maxRecDepth 100000 in
/-- A range that came in. -/
theorem open_net {W : World} {v : Value} {base : Nat} (hval : Value.okWide Tryd.prog W .any base 25 v) : ∃ n : NetM, v = netV n ∧ n.a.length = 16 := by
  simp only [Value.okWide, Tryd.underlying25] at hval
  obtain ⟨⟨cs⟩, rfl, hs, ts, hts, _, hc⟩ := hval
  rw [types25] at hts
  cases hts
  rw [cells25] at hs
  have hs : cs.length = 18 := hs
  match cs, hs with
  | b :: z :: r, hs =>
    have hr : r.length = 16 := by simpa using hs
    obtain ⟨u, hu, h0⟩ := hc 0 b rfl
    cases hu
    obtain ⟨b', rfl⟩ := cell_bool h0
    obtain ⟨u, hu, h1⟩ := hc 1 z rfl
    cases hu
    obtain ⟨z', rfl⟩ := cell_int h1
    have hall : ∀ (l : List Value), (∀ x ∈ l, ∃ y : UInt8, x = B8 y) → ∃ ys : List UInt8, l = ys.map B8 := by
      intro l
      induction l with
      | nil => intro _; exact ⟨[], rfl⟩
      | cons x q ih =>
        intro hq
        obtain ⟨y, rfl⟩ := hq x List.mem_cons_self
        obtain ⟨ys, rfl⟩ := ih fun x hx => hq x (List.mem_cons_of_mem _ hx)
        exact ⟨y :: ys, rfl⟩
    obtain ⟨ys, rfl⟩ := hall r fun x hx => by
      obtain ⟨i, hi⟩ := List.mem_iff_getElem?.1 hx
      have hi16 : i < 16 := by have := (List.getElem?_eq_some_iff.1 hi).1; omega
      obtain ⟨u, hu, h⟩ := hc (i + 2) x (by simpa using hi)
      have hu5 : u = 5 := by
        have hb : ∀ i : Fin 16, ([4, 3, 5, 5, 5, 5, 5, 5, 5, 5, 5, 5, 5, 5, 5, 5, 5, 5] : List TypeId)[(i.val + 2) % 18]? = some 5 := by decide
        have := (hb ⟨i, hi16⟩).symm.trans hu
        exact (Option.some.inj this).symm
      subst hu5
      exact cell_byte h
    exact ⟨⟨b', z', ys⟩, rfl, by simpa using hr⟩
/-! ### The library's variables, as the rows list them -/
theorem g64 : Tryd.prog.globalNamed "math/bits.deBruijn64tab" = some 7 := by kernel_rfl
theorem g64Type : (Tryd.prog.globals[7]?).map (·.type) = some 137 := by kernel_rfl
theorem gPow : Tryd.prog.globalNamed "internal/strconv.uint64pow10" = some 5 := by kernel_rfl
theorem gPowType : (Tryd.prog.globals[5]?).map (·.type) = some 131 := by kernel_rfl
theorem gSynType : (Tryd.prog.globals[3]?).map (·.type) = some 75 := by kernel_rfl
theorem gRngType : (Tryd.prog.globals[4]?).map (·.type) = some 75 := by kernel_rfl
theorem cells73 : Tryd.prog.cellsOf 73 = 1 := by kernel_rfl
theorem cells131 : Tryd.prog.cellsOf 131 = 20 := by kernel_rfl
theorem cells137 : Tryd.prog.cellsOf 137 = 64 := by kernel_rfl
theorem cells5 : Tryd.prog.cellsOf 5 = 1 := by kernel_rfl
theorem cells9 : Tryd.prog.cellsOf 9 = 1 := by kernel_rfl
theorem cells130 : Tryd.prog.cellsOf 130 = 1 := by kernel_rfl
theorem star : "*" ++ "errors.errorString" = "*errors.errorString" := by decide
theorem row128 (u : TypeId) (h : Tryd.prog.typeName? 3 u = some "*errors.errorString") : u = 128 :=
  typeName_ptr_named (nm := "errors.errorString") (by rw [star]; kernel_rfl) (by kernel_rfl) (by decide) u (by rw [star]; exact h)
abbrev laidL : List (String × DataW Unit) := [("math/bits.deBruijn32tab", Rows.laid_math_bits_deBruijn32tab), ("math/bits.deBruijn64tab", Rows.laid_math_bits_deBruijn64tab), ("internal/strconv.uint64pow10", Rows.laid_internal_strconv_uint64pow10), ("unicode/utf8.acceptRanges", Rows.laid_unicode_utf8_acceptRanges), ("strconv.ErrRange", Rows.laid_strconv_ErrRange), ("strconv.ErrSyntax", Rows.laid_strconv_ErrSyntax), ("unicode/utf8.first", Rows.laid_unicode_utf8_first)]
set_option maxRecDepth 100000 in
theorem max_of {W : World} (hsh : W.ShapedOpen Tryd.prog) : ∃ m, W.var? Tryd.prog "internal/bytealg.MaxLen" = some #[.int .i64 m] := by
  have h0 : ((begin Tryd.prog (fun _ _ => 0) default).world.heap[0]?).bind Obj.row? = some (#[.int .i64 0], 3) := by kernel_rfl
  obtain ⟨cs, hh, hs, hr⟩ := hsh.1 0 _ 3 (of_decide_eq_true (by kernel_rfl)) h0
  obtain ⟨ts, hts, _, hall⟩ := hr (by kernel_rfl)
  rw [show Tryd.prog.cellTypes Tryd.prog.depth 3 = some [3] by kernel_rfl] at hts
  cases hts
  have h1 : 0 < cs.size := by rw [hs]; decide
  obtain ⟨u, hu, hok⟩ := hall 0 cs[0] (by simp [h1])
  have hu3 : u = 3 := by simpa using hu.symm
  subst hu3
  have hv : ∃ m, cs[0] = .int .i64 m := by
    simp only [Cell.ok, Tryd.underlying3] at hok
    split at hok <;> simp_all
  obtain ⟨m, hm⟩ := hv
  refine ⟨m, ?_⟩
  unfold World.var?
  rw [gMax]
  simp only [Option.bind_some, hh]
  congr 1
  apply Array.ext_getElem?
  intro i
  cases i with
  | zero => simp [h1, hm]
  | succ j => rw [Array.getElem?_eq_none (by rw [hs]; simp), Array.getElem?_eq_none (by simp)]
theorem env_of {W : World} (h : laidMetH Tryd.prog laidL W) (hsh : W.ShapedOpen Tryd.prog) : EnvS W := by
  rw [MakeChecks.laidMetH_plain _ _ _ (by kernel_rfl)] at h
  have h1 : laidMet Tryd.prog _ W := h.tail
  have t1 := Lib.tabIs_of_head (k := .u8) (zs := [0, 1, 56, 2, 57, 49, 28, 3, 61, 58, 42, 50, 38, 29, 17, 4, 62, 47, 59, 36, 45, 43, 51, 22, 53, 39, 33, 30, 24, 18, 12, 5, 63, 55, 48, 27, 60, 41, 37, 16, 46, 35, 44, 21, 52, 32, 23, 11, 54, 26, 40, 15, 34, 20, 31, 10, 25, 14, 19, 9, 13, 8, 7, 6]) g64 g64Type Tryd.underlying137 Tryd.underlying5 cells5 cells137 h1
  have h2 := h1.tail
  have t2 := Lib.tabIs_of_head (k := .u64) (zs := Lib.pow10Tab) gPow gPowType Tryd.underlying131 Tryd.underlying73 cells73 cells131 h2
  have h4 := h2.tail.tail
  obtain ⟨a0, s0, hv0, _, _, _⟩ := laid_sentinel h4 gRng gRngType Tryd.underlying75 row128 Tryd.underlying128 Tryd.underlying130 rfl rfl Tryd.underlying9 cells130 cells9
  obtain ⟨a1, s1, hv1, _, _, _⟩ := laid_sentinel h4.tail gSyn gSynType Tryd.underlying75 row128 Tryd.underlying128 Tryd.underlying130 rfl rfl Tryd.underlying9 cells130 cells9
  exact ⟨⟨max_of hsh, ⟨_, _, hv1⟩, ⟨_, _, hv0⟩, t2⟩, t1.cell g64 15 (by decide)⟩
/-- THE WITNESS: a world in which all the listed variables are laid. -/
theorem laid_met (os : Os) (args : Array Value) : laidMetH Tryd.prog laidL ((World.laidAll Tryd.prog os laidL).forCall (fun _ _ => 0) ⟨#[], args, []⟩).memory := by
  rw [MakeChecks.laidMetH_plain _ _ _ (by kernel_rfl)]
  exact laidMet_laidAll _ (by kernel_rfl) (by kernel_rfl)
theorem laid_shaped (os : Os) (args : Array Value) : ((World.laidAll Tryd.prog os laidL).forCall (fun _ _ => 0) ⟨#[], args, []⟩).Shaped Tryd.prog :=
  World.shaped_of_ZipB (by kernel_rfl) (by kernel_rfl)
theorem witness_laid {H : Type} {enc : TypeId × Value → H} {C : Checked} {os : Os} {f : FuncId} {fn : Func} {s : OpenSpec} {conds : List PathCond} {apart : Bool} {laid : List (String × DataW Unit)} (w0 : World) (args : Array Value) (hos : w0.os = os)
    (hsh : (w0.forCall (fun _ _ => 0) ⟨#[], args, []⟩).Shaped C.prog)
    (hok : Input.okWideB C.prog (w0.forCall (fun _ _ => 0) ⟨#[], args, []⟩) f ⟨#[], args, []⟩ = true)
    (hrow : s.preRow enc C.prog fn conds apart laid (w0.forCall (fun _ _ => 0) ⟨#[], args, []⟩).memory args) :
    ∃ (w : World) (tape : Tape) (i : Input), w.os = os ∧ (w.forCall tape i).Shaped C.prog ∧ i.vars = [] ∧ Input.okWide C.prog (w.forCall tape i) .any w.heap.size f i ∧
      s.preRow enc C.prog fn conds apart laid (w.forCall tape i).memory i.args ∧ ({} : Assume).holds C.prog (lone (Frame.enter C.prog f i.args .normal) [] (w.forCall tape i)) :=
  ⟨w0, fun _ _ => 0, ⟨#[], args, []⟩, hos, hsh, (Input.okWide_of_okWideB (base := 0) hok).1, (Input.okWide_of_okWideB hok).2, hrow, by
    simp only [Assume.holds]
    exact ⟨by simp, by simp, fun _ => Modest.zero, by simp, by simp⟩⟩
end Go.Proofs.YtdmajikhpacpfaaDoor.Cidr
