/-
  DATE: what every row of this layer shares: the listed variables, the witness.
-/
import Derived.Test.YtklhgaioolamfaaDoorDpVars
import Derived.Test.YtklhgaioolamfaaDoorRows
import Derived.ProofKit
import Derived.OpenShut
import Derived.ShutString
import Derived.ChangeOld
import Derived.Deep.DeepHandedRow
import Derived.Deep.Slices
import Derived.Deep.Strs
import Derived.Lib.LaidTab
import Derived.MakeChecks
import Derived.LaidMore
import Derived.Stop.LaidErr
import Derived.Shelf.Vars
import Derived.Lay
import Derived.PinnedBridge
namespace Go.Proofs.YtklhgaioolamfaaDoor.Date
open Go.ChangeShapes Go.WideShapes Go.ChangeAt Go.RowKit Base
open Go.ChangeMaps (open_string shut_string)
theorem own : ownKnob Tryd.prog.godebug = none := by kernel_rfl
theorem laidOut : laidOutB Tryd.prog = true := by kernel_rfl
theorem bulk_str {H : Type} (s : ByteArray) : Rows.uptoBulk (DataW.lit (H := H) (.string s.data.toList)) = s.size + 1 := by
  show s.data.toList.length + 1 = _
  rw [Array.length_toList]
  rfl
set_option maxRecDepth 100000 in
theorem max_of {W : World} (hsh : W.ShapedOpen Tryd.prog) : ∃ m, W.cell? ⟨4, 0, none⟩ = some (.int .i64 m) := by
  have h0 : ((begin Tryd.prog (fun _ _ => 0) default).world.heap[4]?).bind Obj.row? = some (#[.int .i64 0], 3) := by kernel_rfl
  obtain ⟨cs, hh, hs, hr⟩ := hsh.1 4 _ 3 (of_decide_eq_true (by kernel_rfl)) h0
  obtain ⟨ts, hts, _, hall⟩ := hr (by kernel_rfl)
  rw [show Tryd.prog.cellTypes Tryd.prog.depth 3 = some [3] by kernel_rfl] at hts
  cases hts
  have h1 : 0 < cs.size := by rw [hs]; decide
  obtain ⟨u, hu, hok⟩ := hall 0 cs[0] (by simp [h1])
  have hu3 : u = 3 := by simpa using hu.symm
  subst hu3
  have hv : ∃ m, cs[0] = .int .i64 m := by
    simp only [Cell.ok, Tryd.underlying3] at hok
    split at hok <;> simp_all
  obtain ⟨m, hm⟩ := hv
  refine ⟨m, ?_⟩
  simp [World.cell?, hh, h1, hm]
/-! ### A variable that is an array of strings -/
def strData {H : Type} (bs : List (List UInt8)) : DataW H := .agg (bs.map fun b => .lit (.string b))
theorem cells_of_strs {H : Type} {enc : TypeId × Value → H} {P : Program} {w : World} {base : Nat} {sp : Nat → Bool} {held : Bool} {fuel : Nat} {t e : TypeId} {n : Nat} {cs : List Value} {bs : List (List UInt8)} {p : List MemPlace}
    (ht : P.underlying t = some (.array n e)) (he : P.underlying e = some .string) (hce : P.cellsOf e = 1) (hct : P.cellsOf t = n)
    (h : DataW.trod enc P w base sp held fuel t cs = some (strData bs, p)) : cs = bs.map fun b => Value.string ⟨b.toArray⟩ := by
  cases fuel with
  | zero => simp [DataW.trod] at h
  | succ fuel =>
    simp only [DataW.trod, ht, hce, hct, Nat.mul_one] at h
    split at h
    · rename_i hl
      obtain ⟨xs, hm, hx⟩ := Option.map_eq_some_iff.1 h
      have hxs : xs.map (·.1) = bs.map fun b => (DataW.lit (.string b) : DataW H) := by
        have := congrArg Prod.fst hx
        simpa [strData] using this
      have hxl : xs.length = n := by simpa using Lib.mapM_length hm
      have hzl : bs.length = n := by
        have := congrArg List.length hxs
        simp at this
        omega
      apply List.ext_getElem?
      intro i
      by_cases hi : i < n
      · obtain ⟨b, hb, hf⟩ := Lib.mapM_at hm i i (by simp [hi])
        obtain ⟨s, hc, rfl, _⟩ := DataW.trod_string he hf
        have h1 : cs[i]? = some (.string s) := by
          have := congrArg (·[0]?) hc
          simpa [List.getElem?_take, List.getElem?_drop] using this
        have h2 : (xs.map (·.1))[i]? = some (DataW.lit (.string s.data.toList) : DataW H) := by simp [hb]
        rw [hxs] at h2
        simp only [List.getElem?_map, Option.map_eq_some_iff, DataW.lit.injEq, Lit.string.injEq] at h2
        obtain ⟨z, hz, hz2⟩ := h2
        subst hz2
        simp [h1, hz]
      · rw [List.getElem?_eq_none (by omega), List.getElem?_eq_none (by simp; omega)]
    · cases h
theorem strs_of_head {P : Program} {W : World} {name : String} {bs : List (List UInt8)} {rest : List (String × DataW Unit)} {g : Nat} {t e : TypeId} {n : Nat}
    (hg : P.globalNamed name = some g) (hty : (P.globals[g]?).map (·.type) = some t) (ht : P.underlying t = some (.array n e)) (he : P.underlying e = some .string) (hce : P.cellsOf e = 1) (hct : P.cellsOf t = n)
    (h : laidMet P ((name, strData bs) :: rest) W) (i : Nat) (hi : i < bs.length) : W.cell? ⟨g, i, none⟩ = some (.string ⟨(bs.getD i []).toArray⟩) := by
  obtain ⟨ps, ⟨g', t', cs, fuel, p, q, hg', ht', hvar, hd, _, _⟩, _⟩ := h
  obtain rfl := Option.some.inj (hg.symm.trans hg')
  obtain rfl := Option.some.inj (hty.symm.trans ht')
  have hv : W.var? P name = some (bs.map fun b => Value.string ⟨b.toArray⟩).toArray := by rw [hvar, ← cells_of_strs ht he hce hct hd]
  have := World.var?_cell hg hv i
  simpa [List.getD, hi] using this
theorem gPowType : (Tryd.prog.globals[3]?).map (·.type) = some 99 := by kernel_rfl
theorem gDay : Tryd.prog.globalNamed "waybill/date.dayNames" = some 0 := by kernel_rfl
theorem gDayType : (Tryd.prog.globals[0]?).map (·.type) = some 41 := by kernel_rfl
theorem gMon : Tryd.prog.globalNamed "waybill/date.monthNames" = some 1 := by kernel_rfl
theorem gMonType : (Tryd.prog.globals[1]?).map (·.type) = some 43 := by kernel_rfl
theorem gMds : Tryd.prog.globalNamed "waybill/date.monthDays" = some 2 := by kernel_rfl
theorem gMdsType : (Tryd.prog.globals[2]?).map (·.type) = some 81 := by kernel_rfl
theorem cells73 : Tryd.prog.cellsOf 89 = 1 := by kernel_rfl
theorem cells131 : Tryd.prog.cellsOf 99 = 20 := by kernel_rfl
theorem cellsStr : Tryd.prog.cellsOf 9 = 1 := by kernel_rfl
theorem cellsInt : Tryd.prog.cellsOf 3 = 1 := by kernel_rfl
theorem cells7s : Tryd.prog.cellsOf 41 = 7 := by kernel_rfl
theorem cells12s : Tryd.prog.cellsOf 43 = 12 := by kernel_rfl
theorem cells12i : Tryd.prog.cellsOf 81 = 12 := by kernel_rfl
abbrev laidL : List (String × DataW Unit) := [("math/bits.deBruijn32tab", Rows.laid_math_bits_deBruijn32tab), ("math/bits.deBruijn64tab", Rows.laid_math_bits_deBruijn64tab), ("internal/strconv.uint64pow10", Rows.laid_internal_strconv_uint64pow10), ("unicode/utf8.acceptRanges", Rows.laid_unicode_utf8_acceptRanges), ("waybill/date.dayNames", Rows.laid_waybill_date_dayNames), ("waybill/date.monthNames", Rows.laid_waybill_date_monthNames), ("waybill/date.monthDays", Rows.laid_waybill_date_monthDays), ("unicode/utf8.first", Rows.laid_unicode_utf8_first)]
abbrev dayT : List (List UInt8) := [[83, 117, 110], [77, 111, 110], [84, 117, 101], [87, 101, 100], [84, 104, 117], [70, 114, 105], [83, 97, 116]]
abbrev monT : List (List UInt8) := [[74, 97, 110], [70, 101, 98], [77, 97, 114], [65, 112, 114], [77, 97, 121], [74, 117, 110], [74, 117, 108], [65, 117, 103], [83, 101, 112], [79, 99, 116], [78, 111, 118], [68, 101, 99]]
theorem env_of {W : World} (h : laidMetH Tryd.prog laidL W) (hsh : W.ShapedOpen Tryd.prog) : Vars W := by
  rw [MakeChecks.laidMetH_plain _ _ _ (by kernel_rfl)] at h
  have h2 : laidMet Tryd.prog _ W := h.tail.tail
  have t2 := Lib.tabIs_of_head (k := .u64) (zs := Lib.pow10Tab) gPow gPowType Tryd.underlying99 Tryd.underlying89 cells73 cells131 h2
  have h4 := h2.tail.tail
  have t4 := strs_of_head (bs := dayT) gDay gDayType Tryd.underlying41 Tryd.underlying9 cellsStr cells7s h4
  have h5 := h4.tail
  have t5 := strs_of_head (bs := monT) gMon gMonType Tryd.underlying43 Tryd.underlying9 cellsStr cells12s h5
  have h6 := h5.tail
  have t6 := Lib.tabIs_of_head (k := .i64) (zs := [31, 28, 31, 30, 31, 30, 31, 31, 30, 31, 30, 31]) gMds gMdsType Tryd.underlying81 Tryd.underlying3 cellsInt cells12i h6
  refine ⟨fun k hk => ?_, fun k hk => ?_, fun k hk => ?_, max_of hsh, t2⟩
  · have := t4 k hk
    rw [this]
    have e : ∀ k < 7, dayT.getD k [] = nmAt dayB k := by decide
    rw [e k hk]
  · have := t5 k hk
    rw [this]
    have e : ∀ k < 12, monT.getD k [] = nmAt monB k := by decide
    rw [e k hk]
  · have := t6.cell gMds k hk
    rw [this]
    have e : ∀ k < 12, ([31, 28, 31, 30, 31, 30, 31, 31, 30, 31, 30, 31] : List Int).getD k 0 = (mtab.getD k 0 : Int) := by decide
    rw [e k hk]
/-- THE WITNESS: a world in which all the listed variables are laid. -/
theorem laid_met (os : Os) (args : Array Value) : laidMetH Tryd.prog laidL ((World.laidAll Tryd.prog os laidL).forCall (fun _ _ => 0) ⟨#[], args, []⟩).memory := by
  rw [MakeChecks.laidMetH_plain _ _ _ (by kernel_rfl)]
  exact laidMet_laidAll _ (by kernel_rfl) (by kernel_rfl)
theorem laid_shaped (os : Os) (args : Array Value) : ((World.laidAll Tryd.prog os laidL).forCall (fun _ _ => 0) ⟨#[], args, []⟩).Shaped Tryd.prog :=
  World.shaped_of_ZipB (by kernel_rfl) (by kernel_rfl)
theorem witness_laid {H : Type} {enc : TypeId × Value → H} {C : Checked} {os : Os} {f : FuncId} {fn : Func} {s : OpenSpec} {conds : List PathCond} {apart : Bool} {laid : List (String × DataW Unit)} (w0 : World) (args : Array Value) (hos : w0.os = os)
    (hsh : (w0.forCall (fun _ _ => 0) ⟨#[], args, []⟩).Shaped C.prog)
    (hok : Input.okWideB C.prog (w0.forCall (fun _ _ => 0) ⟨#[], args, []⟩) f ⟨#[], args, []⟩ = true)
    (hrow : s.preRow enc C.prog fn conds apart laid (w0.forCall (fun _ _ => 0) ⟨#[], args, []⟩).memory args) :
    ∃ (w : World) (tape : Tape) (i : Input), w.os = os ∧ (w.forCall tape i).Shaped C.prog ∧ i.vars = [] ∧ Input.okWide C.prog (w.forCall tape i) .any w.heap.size f i ∧
      s.preRow enc C.prog fn conds apart laid (w.forCall tape i).memory i.args ∧ ({} : Assume).holds C.prog (lone (Frame.enter C.prog f i.args .normal) [] (w.forCall tape i)) :=
  ⟨w0, fun _ _ => 0, ⟨#[], args, []⟩, hos, hsh, (Input.okWide_of_okWideB (base := 0) hok).1, (Input.okWide_of_okWideB hok).2, hrow, by
    simp only [Assume.holds]
    exact ⟨by simp, by simp, fun _ => Modest.zero, by simp, by simp⟩⟩
end Go.Proofs.YtklhgaioolamfaaDoor.Date
