/-
  DATE, the program: its answers, as the laws want them.
-/
import Derived.Test.YtklhgaioolamfaaDoorDpShw
import Derived.Test.YtklhgaioolamfaaDoorDpPrs
namespace Go.Proofs.YtklhgaioolamfaaDoor.Date
open Go.RowKit Base
theorem pShowOk (n : Nat) (w : World) (hv : Vars w) (h : n ≤ 253402300799) : Calls Tryd.prog 13 #[.int .i64 (n : Int)] w fun e w' => e = .returned (.tuple #[S (textOf n), .int .i64 0]) ∧ Below w.heap.size w w' :=
  (pShow n w hv).mono (fun e w' h2 => by unfold ShowEnd at h2; rwa [if_neg (by omega), Int.toNat_natCast] at h2)
theorem pShowNo (t : Int) (w : World) (hv : Vars w) (h : t < 0 ∨ 253402300799 < t) : Calls Tryd.prog 13 #[.int .i64 t] w fun e w' => e = .returned (.tuple #[S [], .int .i64 130]) ∧ Below w.heap.size w w' :=
  (pShow t w hv).mono (fun e w' h2 => by unfold ShowEnd at h2; rwa [if_pos h] at h2)
theorem pParseY (s : ByteArray) (w : World) (hv : Vars w) (hs : s.size ≤ 1000000000) {t : Int} (h : parseD s.data.toList = some t) : Calls Tryd.prog 16 #[.string s] w fun e w' => e = .returned (.tuple #[.int .i64 t, .int .i64 0]) ∧ Below w.heap.size w w' :=
  (pParse s w hv hs).mono (fun e w' h2 => by unfold ParseEnd at h2; rwa [h] at h2)
theorem pParseN (s : ByteArray) (w : World) (hv : Vars w) (hs : s.size ≤ 1000000000) (h : parseD s.data.toList = none) : Calls Tryd.prog 16 #[.string s] w fun e w' => e = .returned (.tuple #[.int .i64 0, .int .i64 130]) ∧ Below w.heap.size w w' :=
  (pParse s w hv hs).mono (fun e w' h2 => by unfold ParseEnd at h2; rwa [h] at h2)
end Go.Proofs.YtklhgaioolamfaaDoor.Date
