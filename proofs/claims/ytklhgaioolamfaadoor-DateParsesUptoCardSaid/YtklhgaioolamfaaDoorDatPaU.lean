/-
  DATE, the laws: any text of at most 1048576 bytes is read as the document says.
-/
import Derived.Test.YtklhgaioolamfaaDoorDatPa
namespace Go.Proofs.YtklhgaioolamfaaDoor.Date
open Go.RowKit Base
theorem wDateParsesU (s : ByteArray) (w : World) (hs : s.size ≤ 1048576) (hv : Vars w) : Calls Tryd.prog 4 #[.string s] w fun e w' => e = .returned (.bool true) ∧ Below w.heap.size w w' := wDateParses s w hv (by omega)
end Go.Proofs.YtklhgaioolamfaaDoor.Date
