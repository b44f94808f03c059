/-
  The document's answer (package folioref), third part: dateOK, timeOK.
-/
import Derived.Test.YtaokifbpakbgdaaGreatDoorRef2
namespace Go.Proofs.YtaokifbpakbgdaaGreatDoor
open Go.RowKit

theorem rleap_any (y : Int) (w : World) (h0 : 0 ≤ y) (h1 : y ≤ 9999) :
    Calls Tryz.prog 146 #[.int .i64 y] w fun e w' => e = .returned (.bool (leap y)) ∧ w' = w := by
  go_enter Tryz.func146, Tryz.ntmps146
  go_wp2
  all_goals go_ret
  all_goals (refine ⟨vret_bool ?_, rfl⟩)
  all_goals (rw [Bool.eq_iff_iff]; simp [leap]; omega)
theorem rdig_cases (l : Bs) (h1 : 1 ≤ l.length) (h2 : l.length ≤ 12) : (digitsB l = true ∧ rdig l = num l) ∨ (digitsB l = false ∧ rdig l = -1) := by
  cases h : digitsB l
  · exact Or.inr ⟨rfl, by unfold rdig; rw [if_neg (by rw [h]; simp)]⟩
  · exact Or.inl ⟨rfl, by unfold rdig; rw [if_pos ⟨h1, h2, h⟩]⟩
theorem rsub (s : ByteArray) (a b : Nat) (w : World) (hs : s.size ≤ 9223372036854775807) :
    Calls Tryz.prog 145 #[.string (s.extract a b)] w fun e w' => e = .returned (.int .i64 (rdig ((s.data.toList.drop a).take (b - a)))) ∧ w' = w := by
  rw [← sub_data]
  exact rdigits_any _ w (by simp; omega)
theorem date_parts (l : Bs) (h : l.length = 8) : digitsB l = (digitsB (l.take 4) && digitsB ((l.drop 4).take 2) && digitsB ((l.drop 6).take 2)) := by
  have e : l = l.take 4 ++ ((l.drop 4).take 2 ++ (l.drop 6).take 2) := by
    conv => lhs; rw [← List.take_append_drop 4 l, ← List.take_append_drop 2 (l.drop 4), List.drop_drop]
    congr 2
    rw [List.take_of_length_le (by simp; omega)]
  conv => lhs; rw [e]
  simp [digitsB, Bool.and_assoc]
/-- The days of a month, the 29th of February aside. -/
def tab (m : Int) : Int := if m = 2 then 28 else daysOf 1 m
theorem days_tab (m : Int) (h1 : 1 ≤ m) (h2 : m ≤ 12) : ([Value.int .i64 31, .int .i64 28, .int .i64 31, .int .i64 30, .int .i64 31, .int .i64 30, .int .i64 31, .int .i64 31, .int .i64 30, .int .i64 31, .int .i64 30, .int .i64 31] : List Value)[m.toNat - 1]? = some (.int .i64 (tab m)) := by
  have h12 : m = 1 ∨ m = 2 ∨ m = 3 ∨ m = 4 ∨ m = 5 ∨ m = 6 ∨ m = 7 ∨ m = 8 ∨ m = 9 ∨ m = 10 ∨ m = 11 ∨ m = 12 := by omega
  rcases h12 with rfl | rfl | rfl | rfl | rfl | rfl | rfl | rfl | rfl | rfl | rfl | rfl <;> rfl
theorem tab_days (y m : Int) : daysOf y m = if m = 2 then (if leap y then 29 else 28) else daysOf 1 m := by
  unfold daysOf
  by_cases h : m = 2
  · subst h; simp
  · simp [h]
theorem rdate_no (s : ByteArray) (w : World) (h : ¬ s.size = 8) :
    Calls Tryz.prog 83 #[.string s] w fun e w' => e = .returned (.bool (dateB s.data.toList)) ∧ Up w w' := by
  have hl : Hid (s.data.toList.length = s.size) := len_list s
  have hB : Hid (dateB s.data.toList = false) := by unfold Hid dateB; rw [hl.out, decide_eq_false h]; simp
  go_enter Tryz.func83, Tryz.ntmps83
  go_wp2
  go_ret
  exact ⟨vret_bool hB.out.symm, Up.refl _⟩
set_option maxHeartbeats 2000000 in
theorem rdate_good (s : ByteArray) (w : World) (h8 : s.size = 8) (y m d : Int) (Hy : Hid (rdig (s.data.toList.take 4) = y)) (Hm : Hid (rdig ((s.data.toList.drop 4).take 2) = m)) (Hd : Hid (rdig ((s.data.toList.drop 6).take 2) = d))
    (hy0 : 0 ≤ y) (hy1 : y ≤ 9999) (hm1 : 1 ≤ m) (hm2 : m ≤ 12) (hB : Hid (dateB s.data.toList = (decide (1 ≤ d) && decide (d ≤ daysOf y m)))) :
    Calls Tryz.prog 83 #[.string s] w fun e w' => e = .returned (.bool (dateB s.data.toList)) ∧ Up w w' := by
  have ht := days_tab m hm1 hm2
  have hT : Hid (daysOf y m = if m = 2 then (if leap y then 29 else 28) else tab m) := by
    unfold Hid tab; rw [tab_days]; split <;> rfl
  have hno : (decide (y < 0)) = false := by simp; omega
  have hno2 : (decide (m < 1)) = false := by simp; omega
  have hno3 : (decide (12 < m)) = false := by simp; omega
  have h28 : Hid (¬ m = 2 ∨ tab m = 28) := by by_cases h : m = 2
                                              · exact Or.inr (by unfold tab; rw [if_pos h])
                                              · exact Or.inl h
  generalize tab m = tm at ht hT h28
  go_enter Tryz.func83, Tryz.ntmps83
  go_wp2_with fail
  go_at_call 145; refine (rsub s _ _ _ (by omega)).mono ?_; rintro e w1 ⟨rfl, rfl⟩
  rw [show List.take (4 - 0) (List.drop 0 s.data.toList) = s.data.toList.take 4 from rfl, Hy.out]
  go_wp2_with fail
  go_at_call 145; refine (rsub s _ _ _ (by omega)).mono ?_; rintro e w1 ⟨rfl, rfl⟩
  rw [show List.take (6 - 4) (List.drop 4 s.data.toList) = (s.data.toList.drop 4).take 2 from rfl, Hm.out]
  go_wp2_with fail
  go_at_call 145; refine (rsub s _ _ _ (by omega)).mono ?_; rintro e w1 ⟨rfl, rfl⟩
  rw [show List.take (8 - 6) (List.drop 6 s.data.toList) = (s.data.toList.drop 6).take 2 from rfl, Hd.out]
  go_wp2_with fail
  go_at_call 146; refine (rleap_any _ _ hy0 hy1).mono ?_; rintro e w2 ⟨rfl, rfl⟩
  cases hlp : leap y
  all_goals
    have HL := hid hlp
    clear hlp
    by_cases hm : m = 2
    all_goals
      by_cases hd1 : 1 ≤ d
      all_goals
        go_wp2
        go_ret
        refine ⟨vret_bool ?_, Up.alloc (Up.refl _) _⟩
        rw [hB.out, hT.out, HL.out]
        have q := h28.out
        simp [hm, hd1] <;> omega
set_option maxHeartbeats 2000000 in
theorem rdate_any (s : ByteArray) (w : World) :
    Calls Tryz.prog 83 #[.string s] w fun e w' => e = .returned (.bool (dateB s.data.toList)) ∧ Up w w' := by
  by_cases h8 : s.size = 8
  · have hl : Hid (s.data.toList.length = 8) := by unfold Hid; rw [len_list, h8]
    have cy := rdig_cases (s.data.toList.take 4) (by simp; omega) (by simp; omega)
    have cm := rdig_cases ((s.data.toList.drop 4).take 2) (by simp; omega) (by simp; omega)
    have cd := rdig_cases ((s.data.toList.drop 6).take 2) (by simp; omega) (by simp; omega)
    have hD : Hid (dateB s.data.toList = (digitsB (s.data.toList.take 4) && digitsB ((s.data.toList.drop 4).take 2) && digitsB ((s.data.toList.drop 6).take 2) && decide (1 ≤ num ((s.data.toList.drop 6).take 2)) && decide (num ((s.data.toList.drop 6).take 2) ≤ daysOf (num (s.data.toList.take 4)) (num ((s.data.toList.drop 4).take 2))))) := by
      unfold Hid dateB
      rw [date_parts _ hl.out, hl.out, List.take_of_length_le (l := s.data.toList.drop 6) (by simp; omega)]; rfl
    have by1 := fun h : digitsB (s.data.toList.take 4) = true => num_lt (s.data.toList.take 4) h 4 (by simp; omega) 10000 rfl
    have bm1 := fun h : digitsB ((s.data.toList.drop 4).take 2) = true => num_lt ((s.data.toList.drop 4).take 2) h 2 (by simp; omega) 100 rfl
    generalize hy : rdig (s.data.toList.take 4) = y at cy
    generalize hm : rdig ((s.data.toList.drop 4).take 2) = m at cm
    generalize hd : rdig ((s.data.toList.drop 6).take 2) = d at cd
    have Hy := hid hy
    have Hm := hid hm
    have Hd := hid hd
    clear hy hm hd
    by_cases hbad : y < 0 ∨ m < 1 ∨ 12 < m
    · have hB : Hid (dateB s.data.toList = false) := by
        unfold Hid
        rw [hD.out]
        rcases cy with ⟨c1, c2⟩ | ⟨c1, c2⟩
        · rcases cm with ⟨d1, d2⟩ | ⟨d1, d2⟩
          · have := by1 c1
            have hmm : m < 1 ∨ 12 < m := by omega
            have h0 := bm1 d1
            have hz : daysOf (num (s.data.toList.take 4)) (num ((s.data.toList.drop 4).take 2)) = 0 := by
              rw [← d2]; unfold daysOf; rw [if_neg (by omega), if_neg (by omega), if_neg (by omega)]
            rw [hz]
            rcases cd with ⟨f1, f2⟩ | ⟨f1, f2⟩
            · by_cases h1 : 1 ≤ num ((s.data.toList.drop 6).take 2)
              · rw [decide_eq_false (by omega : ¬ num ((s.data.toList.drop 6).take 2) ≤ 0), Bool.and_false]
              · rw [decide_eq_false h1, Bool.and_false, Bool.false_and]
            · rw [f1]; simp
          · rw [d1]; simp
        · rw [c1]; simp
      have t1 : (decide (y < 0) || decide (m < 1) || decide (12 < m)) = true := by simp; omega
      have hw : (y < 0) ∨ (0 ≤ y ∧ m < 1) ∨ (0 ≤ y ∧ 1 ≤ m ∧ 12 < m) := by omega
      clear hbad cy cm cd by1 bm1
      rcases hw with h | ⟨h, k⟩ | ⟨h, k, k2⟩
      all_goals
        go_enter Tryz.func83, Tryz.ntmps83
        go_wp2_with fail
        go_at_call 145; refine (rsub s _ _ _ (by omega)).mono ?_; rintro e w1 ⟨rfl, rfl⟩
        rw [show List.take (4 - 0) (List.drop 0 s.data.toList) = s.data.toList.take 4 from rfl, Hy.out]
        go_wp2_with fail
        go_at_call 145; refine (rsub s _ _ _ (by omega)).mono ?_; rintro e w1 ⟨rfl, rfl⟩
        rw [show List.take (6 - 4) (List.drop 4 s.data.toList) = (s.data.toList.drop 4).take 2 from rfl, Hm.out]
        go_wp2_with fail
        go_at_call 145; refine (rsub s _ _ _ (by omega)).mono ?_; rintro e w1 ⟨rfl, rfl⟩
        rw [show List.take (8 - 6) (List.drop 6 s.data.toList) = (s.data.toList.drop 6).take 2 from rfl, Hd.out]
        go_wp2
        go_ret
        exact ⟨vret_bool hB.out.symm, Up.refl _⟩
    · have hy0 : 0 ≤ y := by omega
      have hm1 : 1 ≤ m := by omega
      have hm2 : m ≤ 12 := by omega
      clear hbad
      rcases cy with ⟨c1, c2⟩ | ⟨c1, c2⟩
      · rcases cm with ⟨d1, d2⟩ | ⟨d1, d2⟩
        · have hy1 : y ≤ 9999 := by have := by1 c1; omega
          have hB : Hid (dateB s.data.toList = (decide (1 ≤ d) && decide (d ≤ daysOf y m))) := by
            unfold Hid
            rw [hD.out, c1, d1, ← c2, ← d2]
            rcases cd with ⟨f1, f2⟩ | ⟨f1, f2⟩
            · rw [f1, ← f2]; rfl
            · rw [f1, f2]; rfl
          clear hD cd c1 c2 d1 d2 by1 bm1 hl
          exact rdate_good s w h8 y m d Hy Hm Hd hy0 hy1 hm1 hm2 hB
        · omega
      · omega
  · exact rdate_no s w h8

theorem digits_of_sub {l : Bs} {a n : Nat} (h : digitsB ((l.drop a).take n) = false) : digitsB l = false := by
  cases hl : digitsB l
  · rfl
  · rw [digits_take _ _ (digits_drop _ _ hl)] at h; cases h
theorem pairs_true (l : Bs) (h6 : l.length = 2 ∨ l.length = 4 ∨ l.length = 6)
    (hp : ∀ j, j < l.length → j % 2 = 0 → digitsB ((l.drop j).take 2) = true ∧ num ((l.drop j).take 2) ≤ 59 ∧ (j = 0 → num ((l.drop j).take 2) ≤ 23)) : timeB l = true := by
  have sub : ∀ j, j % 2 = 0 → digitsB ((l.drop j).take 2) = true := fun j hj => by
    by_cases h : j < l.length
    · exact (hp j h hj).1
    · rw [List.drop_eq_nil_of_le (by omega)]; rfl
  have e : l = (l.drop 0).take 2 ++ ((l.drop 2).take 2 ++ (l.drop 4).take 2) := by
    conv => lhs; rw [← List.take_append_drop 2 l, ← List.take_append_drop 2 (l.drop 2), List.drop_drop]
    congr 2
    rw [List.take_of_length_le (by simp; omega)]
  have hd : digitsB l = true := by
    rw [e, digitsB_append, digitsB_append]
    exact ⟨sub 0 rfl, sub 2 rfl, sub 4 rfl⟩
  exact time_true l h6 hd ((hp 0 (by omega) rfl).2.2 rfl) (fun j _ h2 h3 => (hp j h2 h3).2.1)
theorem pairs_false (l : Bs) (j : Nat) (h6 : l.length ≤ 6) (hj : j < l.length) (he : j % 2 = 0) (h : digitsB ((l.drop j).take 2) = false ∨ 59 < num ((l.drop j).take 2) ∨ (j = 0 ∧ 23 < num ((l.drop j).take 2))) : timeB l = false := by
  rcases h with h | h | ⟨rfl, h⟩
  · exact time_dig l (digits_of_sub h)
  · by_cases h0 : j = 0
    · subst h0; exact time_hour l (by rw [List.drop_zero] at h; omega)
    · exact time_rest l j (by omega) (by omega) he h
  · exact time_hour l h
theorem pair_bad {l : Bs} {y : Int} {k : Nat} (h : y < 0 ∨ 59 < y ∨ (k = 0 ∧ 23 < y)) (c : (digitsB l = true ∧ y = num l) ∨ (digitsB l = false ∧ y = -1)) : digitsB l = false ∨ 59 < num l ∨ (k = 0 ∧ 23 < num l) := by
  rcases c with ⟨c1, c2⟩ | ⟨c1, c2⟩
  · have := num_bd l c1
    rcases h with h | h | h
    · omega
    · exact Or.inr (Or.inl (by omega))
    · exact Or.inr (Or.inr ⟨h.1, by omega⟩)
  · exact Or.inl c1
theorem rtime_at (n : Nat) (hn : n = 2 ∨ n = 4 ∨ n = 6) (s : ByteArray) (w : World) (h6 : s.size = n) :
    Calls Tryz.prog 84 #[.string s] w fun e w' => e = .returned (.bool (timeB s.data.toList)) ∧ w' = w := by
  have hl : Hid (s.data.toList.length = n) := by unfold Hid; rw [len_list, h6]
  have H6 := hid hn
  rcases hn with rfl | rfl | rfl <;>
  (go_enter Tryz.func84, Tryz.ntmps84
   go_wp2
   go_loop [3] (fun i => ∃ k : Nat, k % 2 = 0 ∧ k ≤ s.size ∧ i = .int .i64 k ∧ Hid (∀ j, j < k → j % 2 = 0 → digitsB ((s.data.toList.drop j).take 2) = true ∧ num ((s.data.toList.drop j).take 2) ≤ 59 ∧ (j = 0 → num ((s.data.toList.drop j).take 2) ≤ 23))) (fun i => 6 - (intOf i).toNat)
   case atStart => exact ⟨0, rfl, by omega, rfl, fun j h1 h2 => by omega⟩
   case round =>
      obtain ⟨k, hk2, hk, rfl, hp⟩ := hrel
      by_cases hlt : k < s.size
      · have hk2' : k + 2 ≤ s.size := by omega
        have cy := rdig_cases ((s.data.toList.drop k).take 2) (by simp; omega) (by simp; omega)
        generalize hy : rdig ((s.data.toList.drop k).take 2) = y at cy
        have Hy := hid hy
        clear hy
        have CY := hid cy
        clear cy
        have hbad : Hid (y < 0 ∨ 59 < y ∨ (k = 0 ∧ 23 < y) → timeB s.data.toList = false) := fun h =>
          pairs_false _ k (by rw [hl.out]; omega) (by rw [hl.out]; omega) hk2 (pair_bad h CY.out)
        have hgood : Hid (0 ≤ y → y ≤ 59 → (k = 0 → y ≤ 23) → digitsB ((s.data.toList.drop k).take 2) = true ∧ num ((s.data.toList.drop k).take 2) ≤ 59 ∧ (k = 0 → num ((s.data.toList.drop k).take 2) ≤ 23)) := fun h1 h2 h3 => by
          rcases CY.out with ⟨c1, c2⟩ | ⟨c1, c2⟩
          · exact ⟨c1, by omega, fun h => by have := h3 h; omega⟩
          · omega
        go_wp2_with fail
        go_at_call 145; refine (rsub s _ _ _ (by omega)).mono ?_; rintro e w1 ⟨rfl, rfl⟩
        rw [show k + 2 - k = 2 by omega, Hy.out]
        by_cases y0 : y < 0
        · go_wp2
          go_ret
          exact ⟨vret_bool (hbad.out (Or.inl y0)).symm, rfl⟩
        · have d0 : decide (y < 0) = false := decide_eq_false y0
          by_cases y59 : 59 < y
          · have d1 : decide (59 < y) = true := decide_eq_true y59
            go_wp2
            go_ret
            exact ⟨vret_bool (hbad.out (Or.inr (Or.inl y59))).symm, rfl⟩
          · have d1 : decide (59 < y) = false := decide_eq_false y59
            by_cases k0 : k = 0
            · have B23 : Hid (23 < y → timeB s.data.toList = false) := fun h => hbad.out (Or.inr (Or.inr ⟨k0, h⟩))
              have G23 : Hid (y ≤ 23 → ∀ j, j < 2 → j % 2 = 0 → digitsB ((s.data.toList.drop j).take 2) = true ∧ num ((s.data.toList.drop j).take 2) ≤ 59 ∧ (j = 0 → num ((s.data.toList.drop j).take 2) ≤ 23)) := fun h j h1 h2 => by
                have e : j = k := by omega
                subst e
                exact hgood.out (by omega) (by omega) (fun _ => h)
              clear hbad hgood hp
              subst k0
              by_cases y23 : 23 < y
              · have d2 : decide (23 < y) = true := decide_eq_true y23
                go_wp2
                go_ret
                exact ⟨vret_bool (B23.out y23).symm, rfl⟩
              · have d2 : decide (23 < y) = false := decide_eq_false y23
                have G := hid (G23.out (by omega))
                go_wp2
                go_round
                case rel => exact ⟨2, rfl, by omega, rfl, G⟩
                case measure => simp [intOf]
            · have k0' : ((k : Int) == 0) = false := by simp; omega
              go_wp2
              go_round
              case rel => exact ⟨k + 2, by omega, by omega, by go_num, fun j h1 h2 => if e : j = k then by subst e; exact hgood.out (by omega) (by omega) (fun h => absurd h k0) else hp.out j (by omega) h2⟩
              case measure => simp [intOf]; omega
      · go_wp2
        go_ret
        exact ⟨vret_bool (pairs_true _ (by rw [hl.out]; omega) (fun j h1 h2 => hp.out j (by rw [hl.out] at h1; omega) h2)).symm, rfl⟩)
theorem rtime_any (s : ByteArray) (w : World) :
    Calls Tryz.prog 84 #[.string s] w fun e w' => e = .returned (.bool (timeB s.data.toList)) ∧ w' = w := by
  by_cases h6 : s.size = 2 ∨ s.size = 4 ∨ s.size = 6
  · exact rtime_at s.size h6 s w rfl
  · have H6 : Hid (timeB s.data.toList = false) := time_len _ (by rw [len_list]; exact h6)
    have h2 : s.size ≠ 2 := by omega
    have h4 : s.size ≠ 4 := by omega
    have h6 : s.size ≠ 6 := by omega
    have b2 : ((s.size : Int) != 2) = true := by simp; omega
    have b4 : ((s.size : Int) != 4) = true := by simp; omega
    have b6 : ((s.size : Int) != 6) = true := by simp; omega
    go_enter Tryz.func84, Tryz.ntmps84
    go_wp2
    go_ret
    exact ⟨vret_bool H6.out.symm, rfl⟩
end Go.Proofs.YtaokifbpakbgdaaGreatDoor
