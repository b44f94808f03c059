/-
  Package folioref, the document's own answer on data sets: numbers, tags and marks at a place.
-/
import Derived.Test.YtaokifbpakbgdaaGreatDoorRefd1
import Derived.Test.YtaokifbpakbgdaaGreatDoorPlace
namespace Go.Proofs.YtaokifbpakbgdaaGreatDoor
open Go.RowKit

theorem win_cons {s : By} {a e : Nat} (h : a < e) (he : e ≤ s.length) : win s a e = s[a] :: win s (a + 1) e := by
  unfold win
  rw [List.drop_eq_getElem_cons (by rw [List.length_take]; omega), List.getElem_take]
theorem rnum_any (w : World) (s : By) (at_ k : Nat) (hs : s.length ≤ 16384) (hk : k ≤ 4) (h : at_ + k ≤ s.length) :
    Calls Tryz.prog 262 #[.string (bs s), .int .i64 at_, .int .i64 k] w fun e w' => e = .returned (.int .i64 (numA s at_ k)) ∧ w' = w := by
  have hz := bs_size s
  go_enter Tryz.func262, Tryz.ntmps262
  go_wp2_with fail
  go_loop [7, 8] (fun n i => ∃ j : Nat, j ≤ k ∧ i = .int .i64 ((j : Int) - 1) ∧ n = .int .i64 (le (win s (at_ + j) (at_ + k)))) (fun _ i => (intOf i + 1).toNat)
  case atStart => exact ⟨k, Nat.le_refl _, rfl, by rw [win_self _ _ h]; rfl⟩
  case round =>
    obtain ⟨j, hj, rfl, rfl⟩ := hrel
    have hle := le_lt (win s (at_ + j) (at_ + k))
    rw [win_length h] at hle
    rcases Nat.eq_zero_or_pos j with rfl | hj0
    · go_wp2
      go_ret
      exact ⟨rfl, rfl⟩
    · obtain ⟨i, rfl⟩ : ∃ i, j = i + 1 := ⟨j - 1, by omega⟩
      have hle2 : le (win s (at_ + (i + 1)) (at_ + k)) < 16777216 := Nat.lt_of_lt_of_le hle (Nat.pow_le_pow_right (n := 256) (by decide) (show at_ + k - (at_ + (i + 1)) ≤ 3 by omega))
      clear hle
      have hstep := hid (show le (win s (at_ + i) (at_ + k)) = s[at_ + i].toNat + 256 * le (win s (at_ + (i + 1)) (at_ + k)) by rw [win_cons (by omega) h]; rfl)
      have hc := hid s[at_ + i].toNat_lt
      generalize le (win s (at_ + (i + 1)) (at_ + k)) = r at hle2 hstep
      have e1 : ((i + 1 : Nat) : Int) - 1 = (i : Int) := by omega
      rw [e1]
      have hlt : at_ + i < s.length := by omega
      have hlt2 : at_ + i < (bs s).size := by rw [bs_size]; omega
      go_wp2
      go_round
      case rel =>
        refine ⟨i, by omega, rfl, ?_⟩
        rw [hstep.out]
        have e2 : (bs s)[at_ + i]'hlt2 = s[at_ + i] := rfl
        simp only [e2]
        have hc2 := hc.out
        generalize s[at_ + i].toNat = c at hc2
        rw [w64 (c : Int) (by omega), w64 _ (by omega)]
        go_num
      case measure => simp [intOf]
theorem rtagAt_any (w : World) (s : By) (at_ : Nat) (hs : s.length ≤ 16384) (h : at_ + 4 ≤ s.length) :
    Calls Tryz.prog 261 #[.string (bs s), .int .i64 at_] w fun e w' => e = .returned (.int .i64 (tagA s at_)) ∧ w' = w := by
  have h1 := numA_lt (s := s) (a := at_) (k := 2) (by omega)
  have h2 := numA_lt (s := s) (a := at_ + 2) (k := 2) (by omega)
  rw [show (256 : Nat) ^ 2 = 65536 from rfl] at h1 h2
  go_enter Tryz.func261, Tryz.ntmps261
  go_wp2_with fail
  go_at_call 262
  refine (rnum_any w s at_ 2 hs (by decide) (by omega)).mono ?_
  rintro e w1 ⟨rfl, rfl⟩
  have ht := hid (show tagA s at_ = 65536 * numA s at_ 2 + numA s (at_ + 2) 2 from rfl)
  generalize hn1 : numA s at_ 2 = n1 at h1 ht
  clear hn1
  go_wp2_with fail
  go_at_call 262
  refine (rnum_any w1 s (at_ + 2) 2 hs (by decide) (by omega)).mono ?_
  rintro e w2 ⟨rfl, rfl⟩
  generalize hn2 : numA s (at_ + 2) 2 = n2 at h2 ht
  clear hn2
  go_wp2
  go_ret
  exact ⟨ret_int (by rw [ht.out]; omega), rfl⟩
theorem rmark_any (w : World) (s : By) (a z M : Nat) (hs : s.length ≤ 16384) (haz : a ≤ z) (hz : z ≤ s.length) :
    Calls Tryz.prog 218 #[.string (bs s), .int .i64 a, .int .i64 z, .int .i64 M] w fun e w' => e = .returned (.bool (markB M (win s a z))) ∧ w' = w := by
  rw [markB_win M hz haz]
  by_cases h8 : a + 8 ≤ z
  · have ht := tagA_lt (s := s) (a := a) (by omega)
    have hn := numA_lt (s := s) (a := a + 4) (k := 4) (by omega)
    rw [show (256 : Nat) ^ 4 = 4294967296 from rfl] at hn
    have hd : Hid (decide (a + 8 ≤ z ∧ tagA s a = M ∧ numA s (a + 4) 4 = 0) = (((tagA s a : Nat) : Int) == (M : Int) && ((numA s (a + 4) 4 : Nat) : Int) == 0)) := by
      unfold Hid
      rw [Bool.eq_iff_iff]
      simp only [decide_eq_true_eq, Bool.and_eq_true, beq_iff_eq]
      omega
    rw [hd.out]
    clear hd
    have c1 := rtagAt_any w s a hs (by omega)
    have c2 := rnum_any w s (a + 4) 4 hs (by decide) (by omega)
    generalize tagA s a = t at ht c1 ⊢
    generalize numA s (a + 4) 4 = k at hn c2 ⊢
    go_enter Tryz.func218, Tryz.ntmps218
    go_wp2_with fail
    go_at_call 261
    refine c1.mono ?_
    clear c1
    rintro e w1 ⟨rfl, rfl⟩
    go_wp2_with fail
    go_at_call 262
    refine c2.mono ?_
    clear c2
    rintro e w2 ⟨rfl, rfl⟩
    by_cases h1 : ((t : Int) == (M : Int)) = true
    · go_wp2
      all_goals go_ret
      all_goals exact ⟨by simp_all, rfl⟩
    · have h1' : ((t : Int) == (M : Int)) = false := by simpa using h1
      clear h1
      go_wp2
      go_ret
      exact ⟨by simp_all, rfl⟩
  · have hd : decide (a + 8 ≤ z ∧ tagA s a = M ∧ numA s (a + 4) 4 = 0) = false := decide_eq_false (fun e => h8 e.1)
    rw [hd]
    clear hd
    go_enter Tryz.func218, Tryz.ntmps218
    go_wp2
    go_ret
    exact ⟨rfl, rfl⟩
end Go.Proofs.YtaokifbpakbgdaaGreatDoor
