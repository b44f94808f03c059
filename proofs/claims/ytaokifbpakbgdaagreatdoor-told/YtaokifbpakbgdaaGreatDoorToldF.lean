/-
  The closed facts of the row of Told.
-/
import Derived.Test.YtaokifbpakbgdaaGreatDoorRows
import Derived.JoinedCond
namespace Go.Proofs.YtaokifbpakbgdaaGreatDoor

theorem told_closed : joinedFacts Tryz.pinned.checked.prog 9 Tryz.f9 (OpenSpec.ofChange Rows.toldSpec).bare Rows.toldRow = true := by kernel_rfl
end Go.Proofs.YtaokifbpakbgdaaGreatDoor
