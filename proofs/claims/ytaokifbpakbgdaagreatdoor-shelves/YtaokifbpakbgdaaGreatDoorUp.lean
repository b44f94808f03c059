/-
  Worlds that only grow, and the three variables of the library that the program reads.
-/
import Derived.Test.YtaokifbpakbgdaaGreatDoorRows
import Derived.Test.YtaokifbpakbgdaaGreatDoorShelf
import Derived.WalkKit
import Derived.Lib.ConvBytes
namespace Go.Proofs.YtaokifbpakbgdaaGreatDoor
open Go.RowKit

/-- Nothing that was there has turned. -/
def Up (w w' : World) : Prop := Below w.heap.size w w'
theorem Up.refl (w : World) : Up w w := Below.refl _ _
theorem Up.size {w w' : World} (h : Up w w') : w.heap.size ≤ w'.heap.size := Below.size h
theorem Up.trans {a b c : World} (h : Up a b) (k : Up b c) : Up a c := Below.trans h (Below.mono k h.size)
theorem Up.drew {a b : World} (h : Up a b) : Up a b.drew := Below.drew h
theorem Up.drewN {a b : World} (h : Up a b) : ∀ n, Up a (b.drewN n)
  | _ => ⟨h.os, h.tape, h.output, h.size, h.block⟩
theorem Up.alloc {a b : World} (h : Up a b) (o : Obj) : Up a (b.alloc o) := Below.alloc h h.size o
theorem Up.cell {a b : World} (h : Up a b) {p : Addr} {v : Value} (hc : a.cell? p = some v) : b.cell? p = some v := by rw [Below.cell h (World.block_lt_of_cell? _ _ hc)]; exact hc
theorem Up.bytes (w : World) (e : TypeId) (t : ByteArray) : Up w (Lib.bytesWorld w e t) :=
  ⟨rfl, rfl, rfl, by rw [Lib.bytesWorld_size]; omega, fun j hj => Lib.bytesWorld_at_old w e t j hj⟩

/-- The library's variables that are read hold something of their type. -/
def Vars (w : World) : Prop :=
  (∃ m, w.cell? ⟨3, 0, none⟩ = some (.int .i64 m)) ∧
  (∃ ev, w.cell? ⟨7, 0, none⟩ = some ev ∧ (ev = .nilIface ∨ ∃ te pe, ev = .iface te pe)) ∧
  (∃ ev, w.cell? ⟨8, 0, none⟩ = some ev ∧ (ev = .nilIface ∨ ∃ te pe, ev = .iface te pe))
theorem Vars.up {w w' : World} (h : Vars w) (k : Up w w') : Vars w' := by
  obtain ⟨⟨m, h1⟩, ⟨e, h2, h3⟩, ⟨f, h4, h5⟩⟩ := h
  exact ⟨⟨m, k.cell h1⟩, ⟨e, k.cell h2, h3⟩, ⟨f, k.cell h4, h5⟩⟩
end Go.Proofs.YtaokifbpakbgdaaGreatDoor
