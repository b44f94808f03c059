/-
  What the texts on bytes lean on: one byte as a text, numbers as bytes, regions whose callees lay new memory.
-/
import Derived.Test.YtaokifbpakbgdaaGreatDoorWr2
import Derived.Laws.IdiomStrings
namespace Go.Proofs.YtaokifbpakbgdaaGreatDoor
open Go.RowKit

/-- string([]byte{z}). -/
theorem conv1 (w : World) (z : Int) (h0 : 0 ≤ z) (h1 : z ≤ 255) :
    (convert 49 9 (.slice (some ⟨w.heap.size, 0, none⟩) 1 1)).run Tryz.prog (w.alloc (.cells #[.int .u8 z] 5)) = .ok (.string (bs [UInt8.ofNat z.toNat])) (w.alloc (.cells #[.int .u8 z] 5)) := by
  refine run_convert_bytes_back (P := Tryz.prog) _ 49 9 5 ⟨w.heap.size, 0, none⟩ 1 [UInt8.ofNat z.toNat] Tryz.underlying49 Tryz.underlying5 Tryz.underlying9 (fun j hj => ?_)
  obtain rfl : j = 0 := by simpa using hj
  have e : (UInt8.ofNat z.toNat).toNat = z.toNat := by rw [UInt8.toNat_ofNat']; omega
  have e2 : ((⟨w.heap.size, 0, none⟩ : Addr).add 0) = ⟨w.heap.size, 0, none⟩ := rfl
  rw [e2, World.cell?_alloc_new]
  simp [e]
  omega
theorem lows_snoc : ∀ (k n : Nat), lows (k + 1) n = lows k n ++ [UInt8.ofNat (n / 256 ^ k % 256)]
  | 0, n => by simp [lows]
  | k + 1, n => by
    rw [lows, lows_snoc k (n / 256), lows, List.cons_append, Nat.div_div_eq_div_mul, Nat.pow_succ, Nat.mul_comm 256]
/-- A world that has only grown. -/
def Later (w : World) : Type := { u : World // Below w.heap.size w u }
def Later.val {w : World} (u : Later w) : World := Subtype.val u
theorem Later.up {w : World} (u : Later w) : Below w.heap.size w u.val := Subtype.property u
def Later.of {w u : World} (h : Below w.heap.size w u) : Later w := ⟨u, h⟩
/-- A REGION THAT DRAWS ITS ORDER AND WHOSE CALLEES LAY NEW MEMORY: one walk in the order of the text. -/
theorem wp_region_below {P : Program} {id : Nat} {Q : Exit → Act → World → Prop} {a : Act} {w : World} {l : List Oper} (hm : P.follows .mixedOrders = true) (hB : Region.lexB .any l.toArray = true)
    (h : wpQuiet P l.toArray (fun w' => ∃ u : Later w, w' = u.val) (fun a' => ∀ w', (∃ u : Later w, w' = u.val) → Q .normal a' w') l a) : (Code.region id l.toArray true).wp P Q a w :=
  wp_region_quiet (C := fun w' => ∃ u : Later w, w' = u.val) hm hB ⟨Later.of (Below.drew (Below.refl _ _)), rfl⟩ (by simpa using h)
theorem calls_below {P : Program} {f : FuncId} {args : Array Value} {w : World} {v : Value} {u : Later w} (h : Calls P f args u.val fun e w' => e = .returned v ∧ Below u.val.heap.size u.val w') :
    Calls P f args u.val fun e w'' => e = .returned v ∧ ∃ u' : Later w, w'' = u'.val :=
  h.mono fun _ _ ⟨he, hb⟩ => ⟨he, Later.of (u.up.trans (hb.mono u.up.size)), rfl⟩
theorem cat (a b : By) : ∃ c, Hid (c = a ++ b) ∧ bs a ++ bs b = bs c ∧ (bs c).size = c.length ∧ c.length = a.length + b.length := ⟨a ++ b, rfl, bs_append a b, rfl, List.length_append⟩
end Go.Proofs.YtaokifbpakbgdaaGreatDoor
