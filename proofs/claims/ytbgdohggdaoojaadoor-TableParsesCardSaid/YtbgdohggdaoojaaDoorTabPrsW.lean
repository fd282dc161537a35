/-
  TABLE: any text is read as the document says, and whatever is asked of the table is answered so: for the row.
-/
import Derived.Test.YtbgdohggdaoojaaDoorTabWal2
import Derived.Test.YtbgdohggdaoojaaDoorTabFrame
namespace Go.Proofs.YtbgdohggdaoojaaDoor.Table
open Go.RowKit Base
theorem wParsesT (s : ByteArray) (A : Option Addr) (n c : Nat) (_hs : s.size ≤ 140737488351232) (w : World) (hq : QS w A n) (_hn : n * 48 ≤ 140737488351232) (hm : MaxOk w) :
    Calls Tryd.prog 3 #[.string s, .slice A n c] w fun e w' => e = .returned (.bool true) ∧ Below w.heap.size w w' := wParses s A n c w hm hq
end Go.Proofs.YtbgdohggdaoojaaDoor.Table
