/-
  The closed facts of the row of Wild.
-/
import Derived.Test.YtaokifbpakbgdaaGreatDoorRows
import Derived.JoinedCond
namespace Go.Proofs.YtaokifbpakbgdaaGreatDoor

theorem wild_closed : joinedFacts Tryz.pinned.checked.prog 7 Tryz.f7 (OpenSpec.ofChange Rows.wildSpec).bare Rows.wildRow = true := by kernel_rfl
end Go.Proofs.YtaokifbpakbgdaaGreatDoor
