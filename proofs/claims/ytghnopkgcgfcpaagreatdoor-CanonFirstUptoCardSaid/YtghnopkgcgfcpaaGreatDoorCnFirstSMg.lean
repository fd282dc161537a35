/-
  MERGED by mergefill.py: CnFirstS.
-/
import Derived.Test.YtghnopkgcgfcpaaGreatDoorCnFirstJMg
namespace Go.Proofs.YtghnopkgcgfcpaaGreatDoor.Path
open Go.ChangeShapes Go.WideShapes Go.ChangeAt Go.RowKit Base
open Go.ChangeMaps (open_string shut_string)
theorem canonFirstSaid : Rows.CanonFirstUptoSaid :=
 OpenClaim.holds_of_cond 5 Tryz.f5 rfl rfl rfl rfl rfl rfl rfl ⟨rfl,rfl,rfl,rfl,rfl⟩ rfl rfl rfl rfl rfl (by kernel_rfl) Tryz.func5 canonFirstClosed
  (of_decide_eq_true (by kernel_rfl)) (by unfold Func.isWrapper; first | (rw [if_pos (by decide +kernel)]; kernel_rfl) | (rw [if_neg (by decide +kernel)]; exact ⟨rfl,rfl⟩))
  (fun os started H enc _ F=>by rw [OpenClaim.pre_eq_preRow]; exact canonFirstLifted os started H enc F)
end Go.Proofs.YtghnopkgcgfcpaaGreatDoor.Path
