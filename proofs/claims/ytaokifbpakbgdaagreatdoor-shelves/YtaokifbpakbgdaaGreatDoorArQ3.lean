/-
  Package archive: hasNames, splits.
-/
import Derived.Test.YtaokifbpakbgdaaGreatDoorArQ2
namespace Go.Proofs.YtaokifbpakbgdaaGreatDoor
open Go.RowKit Go.Maps

/-- The table of the names' tags lies there. -/
def NamesV (w : World) : Prop := ∀ i, i < 4 → w.cell? ⟨1, i, none⟩ = some (.int .i64 (nameT i))
theorem NamesV.up {w w' : World} (h : NamesV w) (k : Below w.heap.size w w') : NamesV w' := fun i hi => (k.cell (World.block_lt_of_cell? _ _ (h i hi))).trans (h i hi)
theorem nameT_bd (k : Nat) : -9223372036854775808 ≤ nameT k ∧ nameT k ≤ 9223372036854775807 := by
  unfold nameT
  split
  · decide
  split
  · decide
  split
  · decide
  · decide
def hasN {n : Nat} (g : Int → Option (El (n + 1))) : Bool := decide (valG g (nameT 0) ≠ [] ∧ valG g (nameT 1) ≠ [] ∧ valG g (nameT 2) ≠ [] ∧ valG g (nameT 3) ≠ [])
def splG {n : Nat} (g o : Int → Option (El (n + 1))) (t a : Int) : Bool := decide (valG g t = valG o t) && decide (valG g a ≠ valG o a)
set_option maxRecDepth 20000 in
theorem splits_any (w : World) (F1 F2 : Nat → Prop) (n b1 b2 m1 m2 : Nat) (g o : Int → Option (El (n + 1))) (t a : Int) (h1 : DMk w F1 n b1 m1 g) (h2 : DMk w F2 n b2 m2 o) (ht : -9223372036854775808 ≤ t ∧ t ≤ 9223372036854775807) (ha : -9223372036854775808 ≤ a ∧ a ≤ 9223372036854775807) :
    Calls Tryz.prog 217 #[.map (some b1), .map (some b2), .int .i64 t, .int .i64 a] w fun e w' => e = .returned (.bool (splG g o t a)) ∧ w' = w := by
  have c1 := dvalue_any w F1 n b1 m1 g t h1 ht
  have c2 := dvalue_any w F2 n b2 m2 o t h2 ht
  have c3 := dvalue_any w F1 n b1 m1 g a h1 ha
  have c4 := dvalue_any w F2 n b2 m2 o a h2 ha
  clear h1 h2
  unfold splG
  generalize valG g t = s1 at *
  generalize valG o t = s2 at *
  generalize valG g a = s3 at *
  generalize valG o a = s4 at *
  go_enter Tryz.func217, Tryz.ntmps217
  go_wp2_with fail
  go_at_call 97
  refine c1.mono ?_
  rintro e w1 ⟨rfl, rfl⟩
  go_wp2_with fail
  go_at_call 97
  refine c2.mono ?_
  rintro e w1 ⟨rfl, rfl⟩
  have e1 := bs_toList s1
  have e2 := bs_toList s2
  have e3 := bs_toList s3
  have e4 := bs_toList s4
  by_cases hs : s1 = s2
  · subst hs
    clear c1 c2
    go_wp2_with fail
    go_at_call 97
    refine c3.mono ?_
    rintro e w1 ⟨rfl, rfl⟩
    go_wp2_with fail
    go_at_call 97
    refine c4.mono ?_
    rintro e w1 ⟨rfl, rfl⟩
    go_wp2
    go_ret
    refine ⟨ret_bool ?_, rfl⟩
    by_cases e : s3 = s4 <;> simp [e]
  · have hb : (s1 == s2) = false := by simpa using hs
    have hs' := hid hs
    clear hs c3 c4
    go_wp2
    go_ret
    refine ⟨ret_bool ?_, rfl⟩
    rw [decide_eq_false hs'.out, Bool.false_and]
set_option maxRecDepth 20000 in
theorem hasNames_any (w : World) (F : Nat → Prop) (n b m : Nat) (g : Int → Option (El (n + 1))) (h : DMk w F n b m g) (hn : NamesV w) :
    Calls Tryz.prog 157 #[.map (some b)] w fun e w' => e = .returned (.bool (hasN g)) ∧ w' = w := by
  have H := hid h
  have n0 : w.cell? ⟨1, 0, none⟩ = some (.int .i64 1048608) := hn 0 (by omega)
  have n1 : w.cell? ⟨1, 1, none⟩ = some (.int .i64 2097165) := hn 1 (by omega)
  have n2 : w.cell? ⟨1, 2, none⟩ = some (.int .i64 2097166) := hn 2 (by omega)
  have n3 : w.cell? ⟨1, 3, none⟩ = some (.int .i64 524312) := hn 3 (by omega)
  clear h hn
  go_enter Tryz.func157, Tryz.ntmps157
  go_wp2_with fail
  go_loopw [6] (fun i wr => ∃ k : Nat, k ≤ 4 ∧ i = .int .i64 k ∧ wr = w ∧ Hid (∀ j, j < k → valG g (nameT j) ≠ [])) (fun i _ => 4 - (intOf i).toNat)
  case atStart => exact ⟨0, by omega, rfl, rfl, fun j hj => by omega⟩
  case round =>
    obtain ⟨k, hk, rfl, rfl, hsp⟩ := hrel
    by_cases hkl : k < 4
    · have hix : (Instr.index 66 (.agg #[.int .i64 1048608, .int .i64 2097165, .int .i64 2097166, .int .i64 524312]) (.int .i64 k)).run Tryz.prog wr = .ok (.int .i64 (nameT k)) wr := by
        rcases (show k = 0 ∨ k = 1 ∨ k = 2 ∨ k = 3 by omega) with rfl | rfl | rfl | rfl <;> kernel_rfl
      have hT := nameT_bd k
      go_wp2_with fail
      go_at_call 97
      refine (dvalue_any wr F n b m g (nameT k) H.out hT).mono ?_
      rintro e w1 ⟨rfl, rfl⟩
      have hS := hid (rfl : valG g (nameT k) = valG g (nameT k))
      generalize hv : valG g (nameT k) = s at hS
      have hv' := hid hv
      have e1 := bs_toList s
      clear hv
      by_cases hs : s = []
      · have hF := hid (show hasN g = false by
          unfold hasN
          rw [decide_eq_false]
          rintro ⟨h0, h1, h2, h3⟩
          have h4 := hv'.out.trans hs
          rcases (show k = 0 ∨ k = 1 ∨ k = 2 ∨ k = 3 by omega) with rfl | rfl | rfl | rfl
          · exact h0 h4
          · exact h1 h4
          · exact h2 h4
          · exact h3 h4)
        subst hs
        go_wp2
        go_ret
        exact ⟨ret_bool hF.out.symm, rfl⟩
      · have hb : s.isEmpty = false := by cases s with | nil => exact absurd rfl hs | cons _ _ => rfl
        have hb2 : (s == []) = false := by simpa using hs
        have hsp2 : Hid (∀ j, j < k + 1 → valG g (nameT j) ≠ []) := fun j hj => by
          by_cases e : j = k
          · subst e; rw [hv'.out]; exact hs
          · exact hsp.out j (by omega)
        have hs' := hid hs
        clear hs
        go_wp2
        go_roundw
        case rel => exact ⟨k + 1, by omega, by go_num, trivial, hsp2⟩
        case measure => simp [intOf]; omega
    · have hF := hid (show hasN g = true by
        unfold hasN
        rw [decide_eq_true]
        exact ⟨hsp.out 0 (by omega), hsp.out 1 (by omega), hsp.out 2 (by omega), hsp.out 3 (by omega)⟩)
      go_wp2
      go_ret
      exact ⟨ret_bool hF.out.symm, rfl⟩
end Go.Proofs.YtaokifbpakbgdaaGreatDoor
