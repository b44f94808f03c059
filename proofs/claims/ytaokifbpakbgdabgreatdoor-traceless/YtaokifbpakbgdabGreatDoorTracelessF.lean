/-
  The closed facts of the row of Traceless.
-/
import Derived.Test.YtaokifbpakbgdabGreatDoorRows
import Derived.JoinedCond
namespace Go.Proofs.YtaokifbpakbgdabGreatDoor

theorem traceless_closed : joinedFacts Tryz.pinned.checked.prog 3 Tryz.f3 (OpenSpec.ofChange Rows.tracelessSpec).bare Rows.tracelessRow = true := by kernel_rfl
end Go.Proofs.YtaokifbpakbgdabGreatDoor
