/-
  The document's answer (package folioref), sixth part: valueOK, Check, seconds, starts.
-/
import Derived.Test.YtaokifbpakbgdaaGreatDoorRef5
namespace Go.Proofs.YtaokifbpakbgdaaGreatDoor
open Go.RowKit

theorem rvalue_any (k s : ByteArray) (w : World) (hs : s.size < 4294967281) (h0 : 0 < s.size) :
    Calls Tryz.prog 43 #[.string k, .string s] w fun e w' => e = .returned (.bool (rval k.data.toList s.data.toList)) ∧ Up w w' := by
  by_cases h1 : k.toList = [85, 73]
  · have R : Hid (rval k.data.toList s.data.toList = nameB s.data.toList) := by unfold Hid rval; rw [← Lib.toList_data k, h1]; rfl
    go_enter Tryz.func43, Tryz.ntmps43
    go_wp2_with (go_at_call 82; refine (rname_any _ _ hs).mono ?_; rintro e w' ⟨rfl, hup⟩)
    go_ret
    exact ⟨vret_bool R.out.symm, hup⟩
  have g1 : (k.toList == [85, 73]) = false := by simpa using h1
  by_cases h2 : k.toList = [68, 65]
  · have R : Hid (rval k.data.toList s.data.toList = dateB s.data.toList) := by unfold Hid rval; rw [← Lib.toList_data k, h2]; rfl
    go_enter Tryz.func43, Tryz.ntmps43
    go_wp2_with (go_at_call 83; refine (rdate_any _ _).mono ?_; rintro e w' ⟨rfl, hup⟩)
    go_ret
    exact ⟨vret_bool R.out.symm, hup⟩
  have g2 : (k.toList == [68, 65]) = false := by simpa using h2
  by_cases h3 : k.toList = [84, 77]
  · have R : Hid (rval k.data.toList s.data.toList = timeB s.data.toList) := by unfold Hid rval; rw [← Lib.toList_data k, h3]; rfl
    go_enter Tryz.func43, Tryz.ntmps43
    go_wp2_with (go_at_call 84; refine (rtime_any _ _).mono ?_; rintro e w' ⟨rfl, rfl⟩)
    go_ret
    exact ⟨vret_bool R.out.symm, Up.refl _⟩
  have g3 : (k.toList == [84, 77]) = false := by simpa using h3
  by_cases h4 : k.toList = [73, 83]
  · have R : Hid (rval k.data.toList s.data.toList = rnumOk s.data.toList) := by unfold Hid rval; rw [← Lib.toList_data k, h4]; rfl
    go_enter Tryz.func43, Tryz.ntmps43
    go_wp2_with (go_at_call 85; refine (rnumber_any _ _ (by omega)).mono ?_; rintro e w' ⟨rfl, rfl⟩)
    go_ret
    exact ⟨vret_bool R.out.symm, Up.refl _⟩
  have g4 : (k.toList == [73, 83]) = false := by simpa using h4
  have R : Hid (rval k.data.toList s.data.toList = rtext k.data.toList s.data.toList) := by
    unfold Hid rval; rw [← Lib.toList_data k, if_neg h1, if_neg h2, if_neg h3, if_neg h4]
  clear h1 h2 h3 h4
  go_enter Tryz.func43, Tryz.ntmps43
  go_wp2_with (go_at_call 86; refine (rtext_any _ _ _ hs h0).mono ?_; rintro e w' ⟨rfl, hup⟩)
  go_ret
  exact ⟨vret_bool R.out.symm, hup⟩

def isKindB (k : Bs) : Bool := decide (k = [85, 73]) || decide (k = [67, 83]) || decide (k = [76, 79]) || decide (k = [80, 78]) || decide (k = [68, 65]) || decide (k = [84, 77]) || decide (k = [73, 83]) || decide (k = [83, 81])
theorem vris_any (k : ByteArray) (w : World) :
    Calls Tryz.prog 42 #[.string k] w fun e w' => e = .returned (.bool (isKindB k.data.toList)) ∧ w' = w := by
  go_enter Tryz.func42, Tryz.ntmps42
  go_wp2
  all_goals go_ret
  all_goals (refine ⟨vret_bool ?_, rfl⟩)
  all_goals (rw [← Lib.toList_data]; unfold isKindB; simp_all)
theorem kind_cases (k : Bs) : (IsKind k ∧ isKindB k = true ∧ ¬ k = [83, 81]) ∨ (chk k = (fun _ => 2) ∧ (isKindB k = false ∨ k = [83, 81])) := by
  by_cases h : IsKind k
  · left
    refine ⟨h, ?_, ?_⟩
    · rcases h with rfl | rfl | rfl | rfl | rfl | rfl | rfl <;> rfl
    · rcases h with rfl | rfl | rfl | rfl | rfl | rfl | rfl <;> decide
  · right
    unfold IsKind at h
    simp only [not_or] at h
    obtain ⟨a, b, c, d, e, f, g⟩ := h
    refine ⟨?_, ?_⟩
    · funext l
      unfold chk chkF
      rw [if_neg c, if_neg b, if_neg a, if_neg d, if_neg e, if_neg f, if_neg g, if_neg (by omega)]
    · by_cases s : k = [83, 81]
      · exact Or.inr s
      · left; unfold isKindB; simp [a, b, c, d, e, f, g, s]
theorem rCheck_any (k s : ByteArray) (w : World) (hs : s.size < 4294967281) :
    Calls Tryz.prog 14 #[.string k, .string s] w fun e w' => e = .returned (.int .i64 (chk k.data.toList s.data.toList)) ∧ Up w w' := by
  rcases kind_cases k.data.toList with ⟨h1, h2, h3⟩ | ⟨h1, h2⟩
  · have HK := hid h1
    have g3 : (k.toList == [83, 81]) = false := by rw [Lib.toList_data]; simpa using h3
    clear h1 h3
    by_cases he : s.toList = []
    · have R : Hid (chk k.data.toList s.data.toList = 0) := by
        unfold Hid chk
        rw [← Lib.toList_data s, he]
        have : chkF k.data.toList [] = 6 := by rcases HK.out with h | h | h | h | h | h | h <;> rw [h] <;> decide
        rw [if_pos ⟨this, rfl⟩]
      go_enter Tryz.func14, Tryz.ntmps14
      go_wp2_with (go_at_call 42; refine (vris_any _ _).mono ?_; rintro e w' ⟨rfl, rfl⟩)
      go_ret
      exact ⟨vret_int R.out.symm, Up.refl _⟩
    · have h0 : 0 < s.size := by
        rcases Nat.eq_zero_or_pos s.size with h | h
        · exact absurd (by rw [Lib.toList_data]; exact List.eq_nil_of_length_eq_zero (by rw [len_list]; exact h)) he
        · exact h
      have hie : s.toList.isEmpty = false := by simpa using he
      have R : Hid (chk k.data.toList s.data.toList = if rval k.data.toList s.data.toList then 0 else 6) := by
        unfold Hid chk
        rw [if_neg (fun c => he (by rw [Lib.toList_data]; exact c.2)), rval_chk _ _ HK.out]
      cases hv : rval k.data.toList s.data.toList
      all_goals
        rw [hv] at R
        go_enter Tryz.func14, Tryz.ntmps14
        go_wp2_with (first
          | (go_at_call 42; refine (vris_any _ _).mono ?_; rintro e w' ⟨rfl, rfl⟩)
          | (go_at_call 43; refine (rvalue_any _ _ _ hs h0).mono ?_; rintro e w' ⟨rfl, hup⟩))
        go_ret
        exact ⟨vret_int R.out.symm, hup⟩
  · have R : Hid (chk k.data.toList s.data.toList = 2) := by unfold Hid; rw [h1]
    clear h1
    rcases h2 with h2 | h2
    · go_enter Tryz.func14, Tryz.ntmps14
      go_wp2_with (go_at_call 42; refine (vris_any _ _).mono ?_; rintro e w' ⟨rfl, rfl⟩)
      go_ret
      exact ⟨vret_int R.out.symm, Up.refl _⟩
    · have h2' : k.toList = [83, 81] := by rw [Lib.toList_data]; exact h2
      have h3 : isKindB k.data.toList = true := by rw [h2]; rfl
      clear h2
      go_enter Tryz.func14, Tryz.ntmps14
      go_wp2_with (go_at_call 42; refine (vris_any _ _).mono ?_; rintro e w' ⟨rfl, rfl⟩)
      go_ret
      exact ⟨vret_int R.out.symm, Up.refl _⟩
end Go.Proofs.YtaokifbpakbgdaaGreatDoor
