/-
  What fitsText of package value answers.
-/
import Derived.Test.YtaokifbpakbgdaaGreatDoorValue3
import Derived.Test.YtaokifbpakbgdaaGreatDoorGlob
namespace Go.Proofs.YtaokifbpakbgdaaGreatDoor
open Go.RowKit

theorem len_list (s : ByteArray) : s.data.toList.length = s.size := by simp
theorem get_list (s : ByteArray) (k : Nat) (h : k < s.size) : s.data.toList[k]'(by rw [len_list]; exact h) = s[k] := rfl
theorem byte_eq {c : UInt8} (n : UInt8) : c = n ↔ (c.toNat : Int) = (n.toNat : Int) := by
  rw [← UInt8.toNat_inj]; omega
def leftOf (P V : Bs) (a b d : Value) : Nat := leftG P V (intOf a).toNat (intOf b).toNat (intOf d).toNat

theorem to_nat1 (k : Nat) : ((k : Int) + 1).toNat = k + 1 := by omega
theorem fitsText_any (pat v : ByteArray) (w : World) (hp : pat.size ≤ 9223372036854775806) (hv : v.size ≤ 9223372036854775806) :
    Calls Tryz.prog 69 #[.string pat, .string v] w fun e w' => e = .returned (.bool (glob pat.data.toList v.data.toList)) ∧ Up w w' := by
  have hP : Hid (pat.data.toList.length = pat.size) := len_list pat
  have hV : Hid (v.data.toList.length = v.size) := len_list v
  go_enter Tryz.func69, Tryz.ntmps69
  go_wp2
  go_loopw [5, 6, 7, 8] (fun a b c d wr => ∃ (i j st n : Nat) (s : Int), a = .int .i64 i ∧ b = .int .i64 j ∧ c = .int .i64 s ∧ d = .int .i64 st ∧ Hid (Inv pat.data.toList v.data.toList i j s st) ∧ wr = w.drewN n) (fun a b _ d _ => leftOf pat.data.toList v.data.toList a b d)
  case atStart => exact ⟨0, 0, 0, 0, -1, rfl, rfl, rfl, rfl, inv_start _ _, rfl⟩
  case round =>
    obtain ⟨i, j, st, n, s, rfl, rfl, rfl, rfl, hI, rfl⟩ := hrel
    obtain ⟨b1, b2, b3, b4, b5⟩ := inv_bounds hI.out
    rw [hP.out] at b1 b5
    rw [hV.out] at b2
    by_cases hj : j < v.size
    · by_cases hi : i < pat.size
      · by_cases h42 : (pat[i].toNat : Int) = 42
        · go_wp2
          go_roundw
          case rel => exact ⟨i + 1, j, j, n, _, by go_num, rfl, by go_num, rfl, inv_star hI.out (by rw [hP.out]; exact hi) ((byte_eq 42).2 h42), rfl⟩
          case measure => simp only [leftOf, intOf, to_nat1]; exact left_star (by rw [hP.out]; exact hi) b3
        · by_cases h63 : (pat[i].toNat : Int) = 63
          · go_wp2
            go_quiet (fail)
            go_wp2
            go_roundw
            case rel => exact ⟨i + 1, j + 1, st, _, s, by go_num, by go_num, rfl, rfl, inv_char hI.out (by rw [hP.out]; exact hi) (by rw [hV.out]; exact hj) (fun e => h42 ((byte_eq 42).1 e)) (Or.inl ((byte_eq 63).2 h63)), rfl⟩
            case measure => simp only [leftOf, intOf, to_nat1]; exact left_char (by rw [hP.out]; exact hi)
          · have g63 : ((pat[i].toNat : Int) == 63) = false := by simpa using h63
            by_cases hq : (pat[i].toNat : Int) = (v[j].toNat : Int)
            · have gq : ((pat[i].toNat : Int) == (v[j].toNat : Int)) = true := by simpa using hq
              have HQ : Hid ((pat[i].toNat : Int) = (v[j].toNat : Int)) := hq
              clear hq
              go_wp2
              go_quiet (fail)
              go_wp2
              go_roundw
              case rel => exact ⟨i + 1, j + 1, st, _, s, by go_num, by go_num, rfl, rfl, inv_char hI.out (by rw [hP.out]; exact hi) (by rw [hV.out]; exact hj) (fun e => h42 ((byte_eq 42).1 e)) (Or.inr ((byte_eq _).2 HQ.out)), rfl⟩
              case measure => simp only [leftOf, intOf, to_nat1]; exact left_char (by rw [hP.out]; exact hi)
            · have gq : ((pat[i].toNat : Int) == (v[j].toNat : Int)) = false := by simpa using hq
              by_cases hs0 : 0 ≤ s
              · obtain ⟨a, rfl⟩ : ∃ a : Nat, s = a := ⟨s.toNat, by omega⟩
                go_wp2
                go_quiet (fail)
                go_wp2
                go_roundw
                case rel => exact ⟨a, st + 1, st + 1, _, _, rfl, by go_num, rfl, by go_num, inv_retry hI.out (stuck_char (by rw [hP.out]; exact hi) (by rw [hV.out]; exact hj) (fun e => h42 ((byte_eq 42).1 e)) (fun e => e.elim (fun e => h63 ((byte_eq 63).1 e)) (fun e => hq ((byte_eq _).1 e)))) (by rw [hV.out]; exact hj), rfl⟩
                case measure => simp only [leftOf, intOf, to_nat1]; exact left_retry (by rw [hV.out]; omega)
              · go_wp2
                go_quiet (fail)
                go_wp2
                go_ret
                exact ⟨vret_bool (inv_dead hI.out (stuck_char (by rw [hP.out]; exact hi) (by rw [hV.out]; exact hj) (fun e => h42 ((byte_eq 42).1 e)) (fun e => e.elim (fun e => h63 ((byte_eq 63).1 e)) (fun e => hq ((byte_eq _).1 e)))) (by omega)).symm, Up.drewN (Up.refl _) _⟩
      · have gi : decide ((i : Int) < (pat.size : Int)) = false := by simp; omega
        by_cases hs0 : 0 ≤ s
        · obtain ⟨a, rfl⟩ : ∃ a : Nat, s = a := ⟨s.toNat, by omega⟩
          go_wp2
          go_quiet (fail)
          go_wp2
          go_roundw
          case rel => exact ⟨a, st + 1, st + 1, _, _, rfl, by go_num, rfl, by go_num, inv_retry hI.out (stuck_end (by rw [hP.out]; omega) (by rw [hV.out]; exact hj)) (by rw [hV.out]; exact hj), rfl⟩
          case measure => simp only [leftOf, intOf, to_nat1]; exact left_retry (by rw [hV.out]; omega)
        · go_wp2
          go_quiet (fail)
          go_wp2
          go_ret
          exact ⟨vret_bool (inv_dead hI.out (stuck_end (by rw [hP.out]; omega) (by rw [hV.out]; exact hj)) (by omega)).symm, Up.drewN (Up.refl _) _⟩
    · go_wp2_with (go_at_call 125; refine (Tryz.strings_Trim_one _ 42 (by decide) _ (by simp; omega)).mono ?_; rintro e w' ⟨rfl, hw⟩)
      go_ret
      refine ⟨vret_bool ?_, ?_⟩
      · rw [inv_end hI.out (by rw [hV.out]; omega), List.take_of_length_le (by rw [List.length_drop, hP.out]; omega), Bool.eq_iff_iff, List.isEmpty_iff, trim_all]
      · rcases hw with rfl | rfl
        · exact Up.drewN (Up.refl _) _
        · exact Up.drew (Up.drewN (Up.refl _) _)
end Go.Proofs.YtaokifbpakbgdaaGreatDoor
