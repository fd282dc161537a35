/-
  MERGED by mergefill.py: CnTwiceS.
-/
import Derived.Test.YtghnopkgcgfcpaaGreatDoorCnTwiceJMg
namespace Go.Proofs.YtghnopkgcgfcpaaGreatDoor.Path
open Go.ChangeShapes Go.WideShapes Go.ChangeAt Go.RowKit Base
open Go.ChangeMaps (open_string shut_string)
theorem canonTwiceSaid : Rows.CanonTwiceUptoSaid :=
 OpenClaim.holds_of_cond 4 Tryz.f4 rfl rfl rfl rfl rfl rfl rfl ⟨rfl,rfl,rfl,rfl,rfl⟩ rfl rfl rfl rfl rfl (by kernel_rfl) Tryz.func4 canonTwiceClosed
  (of_decide_eq_true (by kernel_rfl)) (by unfold Func.isWrapper; first | (rw [if_pos (by decide +kernel)]; kernel_rfl) | (rw [if_neg (by decide +kernel)]; exact ⟨rfl,rfl⟩))
  (fun os started H enc _ F=>by rw [OpenClaim.pre_eq_preRow]; exact canonTwiceLifted os started H enc F)
end Go.Proofs.YtghnopkgcgfcpaaGreatDoor.Path
