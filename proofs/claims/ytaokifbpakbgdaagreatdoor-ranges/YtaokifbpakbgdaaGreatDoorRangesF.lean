/-
  The closed facts of the row of Ranges.
-/
import Derived.Test.YtaokifbpakbgdaaGreatDoorRows
import Derived.JoinedCond
namespace Go.Proofs.YtaokifbpakbgdaaGreatDoor

theorem ranges_closed : joinedFacts Tryz.pinned.checked.prog 6 Tryz.f6 (OpenSpec.ofChange Rows.rangesSpec).bare Rows.rangesRow = true := by kernel_rfl
end Go.Proofs.YtaokifbpakbgdaaGreatDoor
