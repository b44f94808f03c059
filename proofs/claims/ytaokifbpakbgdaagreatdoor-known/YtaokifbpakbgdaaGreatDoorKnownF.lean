/-
  The closed facts of the row of Known.
-/
import Derived.Test.YtaokifbpakbgdaaGreatDoorRows
import Derived.JoinedCond
namespace Go.Proofs.YtaokifbpakbgdaaGreatDoor

theorem known_closed : joinedFacts Tryz.pinned.checked.prog 8 Tryz.f8 (OpenSpec.ofChange Rows.knownSpec).bare Rows.knownRow = true := by kernel_rfl
end Go.Proofs.YtaokifbpakbgdaaGreatDoor
