/-
  The closed facts of the row of Values.
-/
import Derived.Test.YtaokifbpakbgdaaGreatDoorRows
import Derived.JoinedCond
namespace Go.Proofs.YtaokifbpakbgdaaGreatDoor

theorem values_closed : joinedFacts Tryz.pinned.checked.prog 3 Tryz.f3 (Rows.OpenSpec.upto Rows.valuesSpec).bare Rows.valuesUptoRow = true := by kernel_rfl
end Go.Proofs.YtaokifbpakbgdaaGreatDoor
