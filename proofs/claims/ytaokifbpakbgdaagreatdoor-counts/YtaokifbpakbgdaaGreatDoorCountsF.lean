/-
  The closed facts of the row of Counts.
-/
import Derived.Test.YtaokifbpakbgdaaGreatDoorRows
import Derived.JoinedCond
namespace Go.Proofs.YtaokifbpakbgdaaGreatDoor

theorem counts_closed : joinedFacts Tryz.pinned.checked.prog 11 Tryz.f11 (OpenSpec.ofChange Rows.countsSpec).bare Rows.countsRow = true := by kernel_rfl
end Go.Proofs.YtaokifbpakbgdaaGreatDoor
