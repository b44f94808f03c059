/-
  Package foliolaw: the owner's marks: what is written, and how it is told.
-/
import Derived.Test.YtaokifbpakbgdaaDoorLent0
import Derived.Test.YtaokifbpakbgdaaDoorChk2
namespace Go.Proofs.YtaokifbpakbgdaaDoor
open Go.RowKit

theorem bad_any (w : World) (k : Int) (h0 : 0 ≤ k) (h1 : k ≤ 1152921504606846976) : Calls Tryd.prog 20 #[.int .i64 k] w fun e w' => e = .returned (.agg #[badV k 0, badV k 1, badV k 2, badV k 3]) ∧ Below w.heap.size w w' := by
  go_enter Tryd.func20, Tryd.ntmps20
  go_wp2
  refine bodyPost_ret (v := .agg #[.int .i64 (-1000 - k), .string ⟨#[63, 63]⟩, .string ⟨#[]⟩, .slice none 0 0]) (by simp [results, Tryd.results20, go_sem]) rfl ?_
  exact ⟨rfl, Below.alloc (Below.refl _ _) (Nat.le_refl _) _⟩
theorem badItem_any (w : World) (k : Int) (h0 : 0 ≤ k) (h1 : k ≤ 1152921504606846976) : Calls Tryd.prog 21 #[.int .i64 k] w fun e w' => ∃ h, e = .returned (.agg #[.slice (some ⟨h, 0, none⟩) 1 1]) ∧ Below w.heap.size w w' ∧ w.heap.size ≤ h ∧ Bad1 k w' h := by
  go_enter Tryd.func21, Tryd.ntmps21
  go_wp2_with fail
  go_at_call 20
  refine (bad_any _ k h0 h1).mono ?_
  rintro e w1 ⟨rfl, u1⟩
  have hs1 : w.heap.size + 1 ≤ w1.heap.size := by have := u1.size; simpa using this
  have hvar : w1.heap[w.heap.size]? = some (.cells #[.slice none 0 0] 52 (0, 0)) := (u1.block _ (by simp)).trans (heap_alloc_new _ _)
  have hvar2 : (w1.alloc (.cells #[badV k 0, badV k 1, badV k 2, badV k 3] 37)).heap[w.heap.size]? = some (.cells #[.slice none 0 0] 52 (0, 0)) := (Below.heap_alloc w1 _ _ (by omega)).trans hvar
  have hc := cell_of_one hvar2
  have hf := free_of_one hvar2
  have hset2 := cell_of_one (one_setCell hvar2 (u := .slice (some ⟨w1.heap.size, 0, none⟩) 1 1))
  have hup := hid (((Below.alloc (Below.refl _ w) (Nat.le_refl _) (.cells #[.slice none 0 0] 52)).trans (u1.mono (by simp))).alloc (by omega) (.cells #[badV k 0, badV k 1, badV k 2, badV k 3] 37))
  go_wp2
  refine bodyPost_ret (v := .agg #[.slice (some ⟨w1.heap.size, 0, none⟩) 1 1]) (by simp [results, Tryd.results21, go_sem, hset2]) rfl ?_
  refine ⟨_, rfl, hup.out.setCell (Nat.le_refl _) _, by omega, ?_⟩
  rw [Bad1, Below.heap_setCell _ _ _ _ (by simp; omega)]
  exact heap_alloc_new _ _
theorem isBad_any (w : World) (k : Int) (h0 : 0 ≤ k) (h1 : k ≤ 1152921504606846976) : Calls Tryd.prog 26 #[.agg #[badV k 0, badV k 1, badV k 2, badV k 3], .int .i64 k] w fun e w' => e = .returned (.bool true) ∧ Below w.heap.size w w' := by
  show Calls Tryd.prog 26 #[.agg #[.int .i64 (-1000 - k), .string ⟨#[63, 63]⟩, .string ⟨#[]⟩, .slice none 0 0], .int .i64 k] w _
  have hX := (Four.new w (.int .i64 (-1000 - k)) (.string ⟨#[63, 63]⟩) (.string ⟨#[]⟩) (.slice none 0 0)).cells
  obtain ⟨⟨x0, x1, x2, x3⟩, _⟩ := hX
  have hup := hid (Below.alloc (Below.refl _ w) (Nat.le_refl _) (.cells #[.int .i64 (-1000 - k), .string ⟨#[63, 63]⟩, .string ⟨#[]⟩, .slice none 0 0] 37))
  go_enter Tryd.func26, Tryd.ntmps26
  go_wp2
  go_ret
  exact ⟨rfl, hup.out⟩
/-- Items that hold the owner's marks. -/
def Bads (w : World) (k : Int) (ad : Option Addr) (len : Nat) : Prop := ∀ i, i < len → ∃ a h, ad = some a ∧ w.cell? (a.add i) = some (.slice (some ⟨h, 0, none⟩) 1 1) ∧ Bad1 k w h
theorem Bads.below {w w' : World} {k : Int} {ad : Option Addr} {len : Nat} (h : Bads w k ad len) (u : Below w.heap.size w w') : Bads w' k ad len := fun i hi => by
  obtain ⟨a, b, e, h1, h2⟩ := h i hi
  exact ⟨a, b, e, cell_keep (u.block _ (World.block_lt_of_cell? _ _ h1)) h1, h2.keep (u.block _ (lt_of_block h2))⟩
theorem areBad_any (w : World) (k : Int) (h0 : 0 ≤ k) (h1 : k ≤ 1152921504606846976) (ad : Option Addr) (len cap : Nat) (hl : len ≤ 1152921504606846976) (h : Bads w k ad len) :
    Calls Tryd.prog 27 #[.slice ad len cap, .int .i64 k] w fun e w' => e = .returned (.bool true) ∧ Below w.heap.size w w' := by
  go_enter Tryd.func27, Tryd.ntmps27
  go_wp2_with fail
  go_loopw [5] (fun i wr => ∃ j : Nat, j ≤ len ∧ i = .int .i64 j ∧ Hid (Below w.heap.size w wr)) (fun i _ => len - (intOf i).toNat)
  case atStart => exact ⟨0, Nat.zero_le _, rfl, Below.refl _ _⟩
  case round =>
    obtain ⟨j, hj, rfl, hup⟩ := hrel
    by_cases hjl : j < len
    · obtain ⟨a, b, rfl, c0, c1⟩ := h.below hup.out j hjl
      have hb := c1.cells
      obtain ⟨⟨x0, x1, x2, x3⟩, _⟩ := hb
      go_wp2_with fail
      go_at_call 26
      refine (isBad_any wr k h0 h1).mono ?_
      rintro e w1 ⟨rfl, u1⟩
      have hup1 := hid (hup.out.trans (u1.mono hup.out.size))
      clear u1
      go_wp2
      go_roundw
      case rel => exact ⟨j + 1, by omega, by go_num, hup1⟩
      case measure => simp [intOf]; omega
    · go_wp2
      go_ret
      exact ⟨rfl, hup.out⟩
/-- A row of things of one cell. -/
theorem row_at {w : World} {T : TypeId} {v u : Value} {X : List Value} {i : Nat} (h : w.ownsRow 0 T 1 v X.length X) (hx : X[i]? = some u) : ∃ g cap, v = .slice (some ⟨g, 0, none⟩) X.length cap ∧ w.cell? ⟨g, i, none⟩ = some u := by
  have hi := (List.getElem?_eq_some_iff.1 hx).1
  rcases id h.2 with ⟨rfl, hn⟩ | ⟨g, cap, cur, rfl, _⟩
  · omega
  · exact ⟨g, cap, rfl, by rw [h.cellAt _ (by omega)]; exact hx⟩
theorem row_slice {w : World} {T : TypeId} {v : Value} {X : List Value} (h : w.ownsRow 0 T 1 v X.length X) : ∃ ad cap, v = .slice ad X.length cap := by
  rcases h.2 with ⟨rfl, hn⟩ | ⟨g, cap, cur, rfl, _⟩
  · exact ⟨none, 0, by rw [hn]⟩
  · exact ⟨_, _, rfl⟩
end Go.Proofs.YtaokifbpakbgdaaDoor
