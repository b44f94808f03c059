/-
  The closed facts of the row of Shelves.
-/
import Derived.Test.YtaokifbpakbgdaaGreatDoorRows
import Derived.JoinedCond
namespace Go.Proofs.YtaokifbpakbgdaaGreatDoor

theorem shelves_closed : joinedFacts Tryz.pinned.checked.prog 4 Tryz.f4 (OpenSpec.ofChange Rows.shelvesSpec).bare Rows.shelvesRow = true := by kernel_rfl
end Go.Proofs.YtaokifbpakbgdaaGreatDoor
