/-
  The closed facts of the row of All.
-/
import Derived.Test.YtaokifbpakbgdaaGreatDoorRows
import Derived.JoinedCond
namespace Go.Proofs.YtaokifbpakbgdaaGreatDoor

theorem all_closed : joinedFacts Tryz.pinned.checked.prog 5 Tryz.f5 (Rows.OpenSpec.upto Rows.allSpec).bare Rows.allUptoRow = true := by kernel_rfl
end Go.Proofs.YtaokifbpakbgdaaGreatDoor
