/-
  TABLE: the statement of turned entries, for its row.
-/
import Derived.Test.YtbgdohggdaoojaaDoorTabTrnW
namespace Go.Proofs.YtbgdohggdaoojaaDoor.Table
open Go.RowKit Base
theorem wTurnsT (A : Option Addr) (n c : Nat) (turn : Int) (bl : ByteArray) {p : Prop} (_hw : p) (_hs : bl.size ≤ 140737488351232) (w : World) (he : ES w A n) (_h : n * 32 ≤ 140737488351232) (hm : MaxOk w) :
    Calls Tryd.prog 5 #[.slice A n c, .int .i64 turn, .string bl] w fun e w' => e = .returned (.bool true) ∧ Below w.heap.size w w' := wTurns A n c turn bl w hm he
end Go.Proofs.YtbgdohggdaoojaaDoor.Table
