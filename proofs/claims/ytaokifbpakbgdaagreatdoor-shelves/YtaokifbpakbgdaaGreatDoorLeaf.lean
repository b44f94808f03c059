/-
  What the small functions of package value answer (loops over a text's bytes, numbers of digits, days of a month).
-/
import Derived.Test.YtaokifbpakbgdaaGreatDoorRows
import Derived.Test.YtaokifbpakbgdaaGreatDoorText
import Derived.WalkKit
import Derived.WalkSpells
import Derived.WalkLawsBesides
import Derived.Handy
import Derived.PlainAid
namespace Go.Proofs.YtaokifbpakbgdaaGreatDoor
open Go.RowKit

theorem vret_bool {a b : Bool} (h : a = b) : Ending.returned (.bool a) = .returned (.bool b) := by rw [h]
theorem vret_int {k : IntKind} {a b : Int} (h : a = b) : Ending.returned (.int k a) = .returned (.int k b) := by rw [h]

theorem isLeap_any (y : Int) (w : World) (h0 : 0 ≤ y) (h1 : y ≤ 9999) :
    Calls Tryz.prog 211 #[.int .i64 y] w fun e w' => e = .returned (.bool (leap y)) ∧ w' = w := by
  go_enter Tryz.func211, Tryz.ntmps211
  go_wp2
  all_goals go_ret
  all_goals (refine ⟨vret_bool ?_, rfl⟩)
  all_goals (simp_all [leap]; try rfl)

theorem isDigit_any (z : Int) (w : World) :
    Calls Tryz.prog 136 #[.int .u8 z] w fun e w' => e = .returned (.bool (dgI z)) ∧ w' = w := by
  go_enter Tryz.func136, Tryz.ntmps136
  go_wp2
  all_goals go_ret
  all_goals (refine ⟨vret_bool ?_, rfl⟩; simp [dgI]; omega)

theorem isDigits_any (s : ByteArray) (w : World) (hs : s.size ≤ 9223372036854775807) :
    Calls Tryz.prog 141 #[.string s] w fun e w' => e = .returned (.bool (digitsB s.data.toList)) ∧ w' = w := by
  have hl : Hid (s.data.toList.length = s.size) := by unfold Hid; simp
  go_enter Tryz.func141, Tryz.ntmps141
  go_wp2
  go_loop [6] (fun i => ∃ k : Nat, k ≤ s.size ∧ i = .int .i64 k ∧ Hid ((s.data.toList.take k).all dg = true)) (fun i => s.size - (intOf i).toNat)
  case atStart => exact ⟨0, Nat.zero_le _, rfl, rfl⟩
  case round =>
    obtain ⟨k, hk, rfl, ha⟩ := hrel
    by_cases hlt : k < s.size
    · cases hd : dgI (s[k].toNat : Int) <;> 
        (go_wp2_with (go_at_call 136; refine (isDigit_any _ _).mono ?_; rintro e w' ⟨rfl, rfl⟩)
         all_goals first
          | (exfalso; simp_all; done)
          | (go_round
             case rel => exact ⟨k + 1, by omega, by go_num, all_next hlt ha.out (by simp [dg, nb, *])⟩
             case measure => simp [intOf]; omega)
          | (go_ret
             refine ⟨vret_bool ?_, rfl⟩
             exact (all_fail (p := dg) hlt (by simp [dg, nb, *])).symm))
    · go_wp2
      go_ret
      exact ⟨vret_bool (all_end (p := dg) (by omega) ha.out).symm, rfl⟩

theorem isCode_any (s : ByteArray) (w : World) (hs : s.size ≤ 9223372036854775807) :
    Calls Tryz.prog 75 #[.string s] w fun e w' => e = .returned (.bool (isCodeB s.data.toList)) ∧ w' = w := by
  have hl : Hid (s.data.toList.length = s.size) := by unfold Hid; simp
  by_cases h16 : s.size ≤ 16
  · go_enter Tryz.func75, Tryz.ntmps75
    go_wp2
    go_loop [10] (fun i => ∃ k : Nat, k ≤ s.size ∧ i = .int .i64 k ∧ Hid ((s.data.toList.take k).all codeC = true)) (fun i => s.size - (intOf i).toNat)
    case atStart => exact ⟨0, Nat.zero_le _, rfl, rfl⟩
    case round =>
      obtain ⟨k, hk, rfl, ha⟩ := hrel
      by_cases hlt : k < s.size
      · cases hd : dgI (s[k].toNat : Int) <;> go_each [(s[k].toNat : Int) < 65, (90 : Int) < s[k].toNat, (s[k].toNat : Int) = 32, (s[k].toNat : Int) = 95] =>
          (go_wp2_with (go_at_call 136; refine (isDigit_any _ _).mono ?_; rintro e w' ⟨rfl, rfl⟩)
           all_goals first
            | (exfalso; simp_all; done)
            | (go_round
               case rel => exact ⟨k + 1, by omega, by go_num, all_next hlt ha.out (by simp [codeC, dg, nb, *]; try omega)⟩
               case measure => simp [intOf]; omega)
            | (go_ret
               refine ⟨vret_bool ?_, rfl⟩
               unfold isCodeB; rw [all_fail (p := codeC) hlt (by simp [codeC, dg, nb, *]; try omega), Bool.and_false]))
      · go_wp2
        go_ret
        refine ⟨vret_bool ?_, rfl⟩
        unfold isCodeB
        rw [all_end (p := codeC) (by omega) ha.out, hl.out, decide_eq_true h16]; rfl
  · go_enter Tryz.func75, Tryz.ntmps75
    go_wp2
    go_ret
    refine ⟨vret_bool ?_, rfl⟩
    unfold isCodeB
    rw [hl.out, decide_eq_false h16]; rfl

theorem isText_any (s : ByteArray) (w : World) (hs : s.size ≤ 9223372036854775807) :
    Calls Tryz.prog 65 #[.string s] w fun e w' => e = .returned (.bool (isTextB s.data.toList)) ∧ w' = w := by
  have hl : Hid (s.data.toList.length = s.size) := by unfold Hid; simp
  by_cases h16 : s.size ≤ 64
  · go_enter Tryz.func65, Tryz.ntmps65
    go_wp2
    go_loop [10] (fun i => ∃ k : Nat, k ≤ s.size ∧ i = .int .i64 k ∧ Hid ((s.data.toList.take k).all textC = true)) (fun i => s.size - (intOf i).toNat)
    case atStart => exact ⟨0, Nat.zero_le _, rfl, rfl⟩
    case round =>
      obtain ⟨k, hk, rfl, ha⟩ := hrel
      by_cases hlt : k < s.size
      · go_each [(s[k].toNat : Int) < 32, (126 : Int) < s[k].toNat, (s[k].toNat : Int) = 92] =>
          (go_wp2
           all_goals first
            | (exfalso; simp_all; done)
            | (go_round
               case rel => exact ⟨k + 1, by omega, by go_num, all_next hlt ha.out (by simp [textC, nb, *]; try omega)⟩
               case measure => simp [intOf]; omega)
            | (go_ret
               refine ⟨vret_bool ?_, rfl⟩
               unfold isTextB; rw [all_fail (p := textC) hlt (by simp [textC, nb, *]; try omega), Bool.and_false]))
      · go_wp2
        go_ret
        refine ⟨vret_bool ?_, rfl⟩
        unfold isTextB
        rw [all_end (p := textC) (by omega) ha.out, hl.out, decide_eq_true h16]; rfl
  · go_enter Tryz.func65, Tryz.ntmps65
    go_wp2
    go_ret
    refine ⟨vret_bool ?_, rfl⟩
    unfold isTextB
    rw [hl.out, decide_eq_false h16]; rfl

theorem digits_mem (s : ByteArray) (k : Nat) (hk : k < s.size) (h : digitsB s.data.toList = true) : 48 ≤ (s[k].toNat : Int) ∧ (s[k].toNat : Int) ≤ 57 := by
  unfold digitsB at h
  rw [List.all_eq_true] at h
  exact (dg_iff _).1 (h s[k] (Array.mem_toList_iff.2 (Array.getElem_mem hk)))
theorem digits_take (l : Bs) (k : Nat) (h : digitsB l = true) : digitsB (l.take k) = true := by
  unfold digitsB at h ⊢
  rw [List.all_eq_true] at h ⊢
  exact fun x hx => h x (List.mem_of_mem_take hx)
theorem digits_drop (l : Bs) (k : Nat) (h : digitsB l = true) : digitsB (l.drop k) = true := by
  unfold digitsB at h ⊢
  rw [List.all_eq_true] at h ⊢
  exact fun x hx => h x (List.mem_of_mem_drop hx)
theorem num_lt (l : Bs) (h : digitsB l = true) (n : Nat) (hn : l.length ≤ n) (N : Int) (hN : (10 : Int) ^ n = N) : 0 ≤ num l ∧ num l < N := by
  have h1 := num_bd l h
  have h2 : (10 : Int) ^ l.length ≤ 10 ^ n := by
    have : 10 ^ l.length ≤ 10 ^ n := Nat.pow_le_pow_right (by omega) hn
    exact_mod_cast this
  omega
theorem digits_any (s : ByteArray) (w : World) (hs : s.size ≤ 8) (hd : digitsB s.data.toList = true) :
    Calls Tryz.prog 142 #[.string s] w fun e w' => e = .returned (.int .i64 (num s.data.toList)) ∧ w' = w := by
  have HD : Hid (digitsB s.data.toList = true) := hd
  clear hd
  go_enter Tryz.func142, Tryz.ntmps142
  go_wp2
  go_loop [3, 7] (fun n i => ∃ k : Nat, k ≤ s.size ∧ i = .int .i64 k ∧ n = .int .i64 (num (s.data.toList.take k))) (fun _ i => s.size - (intOf i).toNat)
  case atStart => exact ⟨0, Nat.zero_le _, rfl, rfl⟩
  case round =>
    obtain ⟨k, hk, rfl, rfl⟩ := hrel
    by_cases hlt : k < s.size
    · have hb := num_lt (s.data.toList.take k) (digits_take _ k HD.out) 8 (by simp; omega) 100000000 rfl
      have hc := digits_mem s k hlt HD.out
      have HS : Hid (num (s.data.toList.take (k + 1)) = 10 * num (s.data.toList.take k) + (nb s[k] - 48)) := by rw [take_snoc s k hlt]; exact num_snoc _ _
      go_wp2
      go_round
      case rel => exact ⟨k + 1, by omega, by go_num, by rw [HS.out]⟩
      case measure => simp [intOf]; omega
    · go_wp2
      go_ret
      exact ⟨vret_int (by rw [List.take_of_length_le (by simp; omega)]), rfl⟩

theorem daysOf_any (y m : Int) (w : World) (h0 : 0 ≤ y) (h1 : y ≤ 9999) :
    Calls Tryz.prog 143 #[.int .i64 y, .int .i64 m] w fun e w' => e = .returned (.int .i64 (daysOf y m)) ∧ w' = w := by
  cases hl : leap y <;>
  (go_enter Tryz.func143, Tryz.ntmps143
   go_wp2_with (go_at_call 211; refine (isLeap_any _ _ h0 h1).mono ?_; rintro e w' ⟨rfl, rfl⟩)
   all_goals go_ret
   all_goals (refine ⟨vret_int ?_, rfl⟩; simp_all [daysOf]))
end Go.Proofs.YtaokifbpakbgdaaGreatDoor
