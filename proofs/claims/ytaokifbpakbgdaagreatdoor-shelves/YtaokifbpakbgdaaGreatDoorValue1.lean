/-
  What number, isDate, isTime and isName of package value answer.
-/
import Derived.Test.YtaokifbpakbgdaaGreatDoorLeaf
import Derived.Test.YtaokifbpakbgdaaGreatDoorUp
import Derived.Deep.QuietTactic
import Derived.BigQuiet
namespace Go.Proofs.YtaokifbpakbgdaaGreatDoor
open Go.RowKit

/-- The second result of 'number' and, where it is true, the first. -/
def numV (l : Bs) : Int := (numB l).getD 0
def numOk (l : Bs) : Bool := (numB l).isSome

theorem vnumber_any (s : ByteArray) (w : World) (hs : s.size ≤ 9223372036854775806) (hv : Vars w) :
    Calls Tryz.prog 81 #[.string s] w fun e w' => e = .returned (.tuple #[.int .i64 (numV s.data.toList), .bool (numOk s.data.toList)]) ∧ Up w w' := by
  have hl : Hid (s.data.toList.length = s.size) := by unfold Hid; simp
  by_cases h12 : s.size ≤ 12
  · obtain ⟨_, ⟨e1, c1, f1⟩, ⟨e2, c2, f2⟩⟩ := hv
    rcases hp : Lib.parseIntB 32 s.data.toList with v | _ | _
    · have hN : Hid (numB s.data.toList = some v) := by unfold Hid numB; rw [if_neg (by rw [hl.out]; omega), hp]
      go_enter Tryz.func81, Tryz.ntmps81
      go_wp2_with (go_at_call 144; refine (Any.strconv_ParseInt_10_at32_ok Tryz.laysC174 s (by omega) v hp _).mono ?_; rintro e w' ⟨rfl, hw⟩)
      go_ret2
      refine ⟨by simp [numV, numOk, hN.out], ?_⟩
      rcases hw with rfl | ⟨t, rfl⟩
      · exact Up.refl _
      · exact Up.bytes _ _ _
    · have hN : Hid (numB s.data.toList = none) := by unfold Hid numB; rw [if_neg (by rw [hl.out]; omega), hp]
      go_enter Tryz.func81, Tryz.ntmps81
      go_wp2_with (go_at_call 144; refine (Any.strconv_ParseInt_10_at32_syntax Tryz.laysC174 s (by omega) hp e1 _ c1 f1).mono ?_; rintro e w' ⟨N, rfl, _, _, hw⟩)
      go_ret2
      exact ⟨by simp [numV, numOk, hN.out], hw⟩
    · have hN : Hid (numB s.data.toList = none) := by unfold Hid numB; rw [if_neg (by rw [hl.out]; omega), hp]
      go_enter Tryz.func81, Tryz.ntmps81
      go_wp2_with (go_at_call 144; refine (Any.strconv_ParseInt_10_at32_range Tryz.laysC174 s (by omega) hp e2 _ c2 f2).mono ?_; rintro e w' ⟨N, rfl, _, _, hw⟩)
      go_ret2
      exact ⟨by simp [numV, numOk, hN.out], hw⟩
  · have hN : Hid (numB s.data.toList = none) := by unfold Hid numB; rw [if_pos (by rw [hl.out]; omega)]
    go_enter Tryz.func81, Tryz.ntmps81
    go_wp2
    go_ret2
    exact ⟨by simp [numV, numOk, hN.out], Up.refl _⟩

theorem sub_data (s : ByteArray) (a b : Nat) : (s.extract a b).data.toList = (s.data.toList.drop a).take (b - a) := Lib.extract_data s a b
theorem sub_size (s : ByteArray) (a b : Nat) (h : b ≤ s.size) : (s.extract a b).size = b - a := by simp; omega
theorem digits_sub (s : ByteArray) (a b : Nat) (w : World) (h : b - a ≤ 8) (hd : digitsB s.data.toList = true) :
    Calls Tryz.prog 142 #[.string (s.extract a b)] w fun e w' => e = .returned (.int .i64 (num ((s.data.toList.drop a).take (b - a)))) ∧ w' = w := by
  rw [← sub_data]
  exact digits_any _ w (by simp; omega) (by rw [sub_data]; exact digits_take _ _ (digits_drop _ _ hd))
theorem daysOf_at (y m : Int) (w : World) (h : 0 ≤ y ∧ y < 10000) :
    Calls Tryz.prog 143 #[.int .i64 y, .int .i64 m] w fun e w' => e = .returned (.int .i64 (daysOf y m)) ∧ w' = w := daysOf_any y m w h.1 (by omega)

theorem isDate_any (s : ByteArray) (w : World) (hs : s.size ≤ 9223372036854775807) :
    Calls Tryz.prog 79 #[.string s] w fun e w' => e = .returned (.bool (dateB s.data.toList)) ∧ Up w w' := by
  have hl : Hid (s.data.toList.length = s.size) := by unfold Hid; simp
  by_cases h8 : s.size = 8
  · cases hd : digitsB s.data.toList
    · have hB : Hid (dateB s.data.toList = false) := by unfold Hid dateB; rw [hd]; simp
      go_enter Tryz.func79, Tryz.ntmps79
      go_wp2_with (go_at_call 141; refine (isDigits_any _ _ (by omega)).mono ?_; rintro e w' ⟨rfl, rfl⟩)
      go_ret
      exact ⟨vret_bool hB.out.symm, Up.refl _⟩
    · have hy := num_lt (s.data.toList.take 4) (digits_take _ 4 hd) 4 (by simp; omega) 10000 rfl
      have hD : Hid (dateB s.data.toList = (decide (1 ≤ num ((s.data.toList.drop 6).take 2)) && decide (num ((s.data.toList.drop 6).take 2) ≤ daysOf (num (s.data.toList.take 4)) (num ((s.data.toList.drop 4).take 2))))) := by
        unfold Hid dateB
        rw [hl.out, decide_eq_true h8, hd, List.take_of_length_le (l := s.data.toList.drop 6) (by simp; omega)]; rfl
      by_cases hday : 1 ≤ num ((s.data.toList.drop 6).take 2)
      · go_enter Tryz.func79, Tryz.ntmps79
        go_wp2_with (first
          | (go_at_call 141; refine (isDigits_any _ _ (by omega)).mono ?_; rintro e w' ⟨rfl, rfl⟩)
          | (go_at_call 142; refine (digits_sub s 6 8 _ (by omega) hd).mono ?_; rintro e w' ⟨rfl, rfl⟩))
        go_quiet (first
          | (go_at_call 142; exact Calls.quiet_of_same (digits_sub s _ _ _ (by omega) hd))
          | (go_at_call 143; exact Calls.quiet_of_same (daysOf_at _ _ _ hy)))
        go_wp2
        go_ret
        exact ⟨vret_bool (by rw [hD.out, decide_eq_true hday]; rfl), Up.drewN (Up.refl _) _⟩
      · have hd' : decide (1 ≤ num ((s.data.toList.drop 6).take 2)) = false := decide_eq_false hday
        go_enter Tryz.func79, Tryz.ntmps79
        go_wp2_with (first
          | (go_at_call 141; refine (isDigits_any _ _ (by omega)).mono ?_; rintro e w' ⟨rfl, rfl⟩)
          | (go_at_call 142; refine (digits_sub s 6 8 _ (by omega) hd).mono ?_; rintro e w' ⟨rfl, rfl⟩))
        go_quiet (fail)
        go_wp2
        go_ret
        exact ⟨vret_bool (by rw [hD.out, hd']; rfl), Up.drewN (Up.refl _) _⟩
  · have hB : Hid (dateB s.data.toList = false) := by unfold Hid dateB; rw [hl.out, decide_eq_false h8]; simp
    go_enter Tryz.func79, Tryz.ntmps79
    go_wp2
    go_ret
    exact ⟨vret_bool hB.out.symm, Up.refl _⟩

theorem num_nil : num [] = 0 := rfl
theorem time_true (l : Bs) (h6 : l.length = 2 ∨ l.length = 4 ∨ l.length = 6) (hd : digitsB l = true) (h23 : num (l.take 2) ≤ 23)
    (hp : ∀ j, 2 ≤ j → j < l.length → j % 2 = 0 → num ((l.drop j).take 2) ≤ 59) : timeB l = true := by
  have h2 : num ((l.drop 2).take 2) ≤ 59 := by
    by_cases h : 2 < l.length
    · exact hp 2 (by omega) h rfl
    · rw [List.drop_eq_nil_of_le (by omega)]; decide
  have h4 : num ((l.drop 4).take 2) ≤ 59 := by
    by_cases h : 4 < l.length
    · exact hp 4 (by omega) h rfl
    · rw [List.drop_eq_nil_of_le (by omega)]; decide
  unfold timeB
  simp [hd, h23, h2, h4]
  omega
theorem time_len (l : Bs) (h6 : ¬ (l.length = 2 ∨ l.length = 4 ∨ l.length = 6)) : timeB l = false := by
  unfold timeB
  have : (decide (l.length = 2) || decide (l.length = 4) || decide (l.length = 6)) = false := by simp; omega
  rw [this]; rfl
theorem time_dig (l : Bs) (h : digitsB l = false) : timeB l = false := by unfold timeB; simp [h]
theorem time_hour (l : Bs) (h : 23 < num (l.take 2)) : timeB l = false := by
  unfold timeB; rw [decide_eq_false (by omega : ¬ num (l.take 2) ≤ 23)]; simp
theorem time_rest (l : Bs) (j : Nat) (h1 : 2 ≤ j) (h2 : j < 6) (h3 : j % 2 = 0) (h : 59 < num ((l.drop j).take 2)) : timeB l = false := by
  unfold timeB
  have hj : j = 2 ∨ j = 4 := by omega
  rcases hj with rfl | rfl
  · rw [decide_eq_false (by omega : ¬ num ((l.drop 2).take 2) ≤ 59)]; simp
  · rw [decide_eq_false (by omega : ¬ num ((l.drop 4).take 2) ≤ 59)]; simp

theorem isTime_at (n : Nat) (hn : n = 2 ∨ n = 4 ∨ n = 6) (s : ByteArray) (w : World) (h6 : s.size = n) :
    Calls Tryz.prog 80 #[.string s] w fun e w' => e = .returned (.bool (timeB s.data.toList)) ∧ w' = w := by
  have hl : Hid (s.data.toList.length = n) := by unfold Hid; simp [h6]
  have H6 : Hid (n = 2 ∨ n = 4 ∨ n = 6) := hn
  cases hd : digitsB s.data.toList
  · rcases hn with rfl | rfl | rfl <;>
    (go_enter Tryz.func80, Tryz.ntmps80
     go_wp2_with (go_at_call 141; refine (isDigits_any _ _ (by omega)).mono ?_; rintro e w' ⟨rfl, rfl⟩)
     go_ret
     exact ⟨vret_bool (time_dig _ hd).symm, rfl⟩)
  · by_cases h23 : num (s.data.toList.take 2) ≤ 23
    · rcases hn with rfl | rfl | rfl <;>
      (go_enter Tryz.func80, Tryz.ntmps80
       go_wp2_with (first
          | (go_at_call 141; refine (isDigits_any _ _ (by omega)).mono ?_; rintro e w' ⟨rfl, rfl⟩)
          | (go_at_call 142; refine (digits_sub s _ _ _ (by omega) hd).mono ?_; rintro e w' ⟨rfl, rfl⟩))
       go_loop [4] (fun i => ∃ k : Nat, k % 2 = 0 ∧ 2 ≤ k ∧ k ≤ s.size ∧ i = .int .i64 k ∧ Hid (∀ j, 2 ≤ j → j < k → j % 2 = 0 → num ((s.data.toList.drop j).take 2) ≤ 59)) (fun i => 6 - (intOf i).toNat)
       case atStart => exact ⟨2, rfl, by omega, by omega, rfl, fun j h1 h2 => by omega⟩
       case round =>
          obtain ⟨k, hk2, hk0, hk, rfl, hp⟩ := hrel
          by_cases hlt : k < s.size
          · first
            | (exfalso; omega; done)
            | (have hk2 : k + 2 ≤ s.size := by omega
               by_cases h59 : num ((s.data.toList.drop k).take 2) ≤ 59
               · go_wp2_with (go_at_call 142; refine (digits_sub s _ _ _ (by omega) hd).mono ?_; rintro e w' ⟨rfl, rfl⟩)
                 go_round
                 case rel => exact ⟨k + 2, by omega, by omega, by omega, by go_num, fun j h1 h2 h3 => if e : j = k then by rw [e]; exact h59 else hp.out j h1 (by omega) h3⟩
                 case measure => simp [intOf]; omega
               · have h59' : 59 < num ((s.data.toList.drop k).take 2) := by omega
                 go_wp2_with (go_at_call 142; refine (digits_sub s _ _ _ (by omega) hd).mono ?_; rintro e w' ⟨rfl, rfl⟩)
                 go_ret
                 exact ⟨vret_bool (time_rest _ k (by omega) (by omega) (by omega) (by omega)).symm, rfl⟩)
          · go_wp2
            go_ret
            exact ⟨vret_bool (time_true _ (by rw [hl.out]; omega) hd h23 (fun j h1 h2 h3 => hp.out j h1 (by rw [hl.out] at h2; omega) h3)).symm, rfl⟩)
    · have h23' : 23 < num (s.data.toList.take 2) := by omega
      rcases hn with rfl | rfl | rfl <;>
      (go_enter Tryz.func80, Tryz.ntmps80
       go_wp2_with (first
          | (go_at_call 141; refine (isDigits_any _ _ (by omega)).mono ?_; rintro e w' ⟨rfl, rfl⟩)
          | (go_at_call 142; refine (digits_sub s _ _ _ (by omega) hd).mono ?_; rintro e w' ⟨rfl, rfl⟩))
       go_ret
       exact ⟨vret_bool (time_hour _ (by omega)).symm, rfl⟩)
theorem isTime_any (s : ByteArray) (w : World) (_hs : s.size ≤ 9223372036854775807) :
    Calls Tryz.prog 80 #[.string s] w fun e w' => e = .returned (.bool (timeB s.data.toList)) ∧ w' = w := by
  by_cases h6 : s.size = 2 ∨ s.size = 4 ∨ s.size = 6
  · exact isTime_at s.size h6 s w rfl
  · have H6 : Hid (timeB s.data.toList = false) := time_len _ (by simpa using h6)
    have h2 : s.size ≠ 2 := by omega
    have h4 : s.size ≠ 4 := by omega
    have h6 : s.size ≠ 6 := by omega
    go_enter Tryz.func80, Tryz.ntmps80
    go_wp2
    go_ret
    exact ⟨vret_bool H6.out.symm, rfl⟩
end Go.Proofs.YtaokifbpakbgdaaGreatDoor
