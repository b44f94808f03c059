/-
  The closed facts of the row of Filtered.
-/
import Derived.Test.YtaokifbpakbgdaaGreatDoorRows
import Derived.JoinedCond
namespace Go.Proofs.YtaokifbpakbgdaaGreatDoor

theorem filtered_closed : joinedFacts Tryz.pinned.checked.prog 10 Tryz.f10 (OpenSpec.ofChange Rows.filteredSpec).bare Rows.filteredRow = true := by kernel_rfl
end Go.Proofs.YtaokifbpakbgdaaGreatDoor
