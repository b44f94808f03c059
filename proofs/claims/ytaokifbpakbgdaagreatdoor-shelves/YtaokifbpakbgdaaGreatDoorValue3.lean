/-
  What checkFilled and Check of package value answer.
-/
import Derived.Test.YtaokifbpakbgdaaGreatDoorValue2
namespace Go.Proofs.YtaokifbpakbgdaaGreatDoor
open Go.RowKit

theorem cf_CS (k s : ByteArray) (w : World) (hs : s.size ≤ 9223372036854775806) (hk : k.toList = [67, 83]) :
    Calls Tryz.prog 41 #[.string k, .string s] w fun e w' => e = .returned (.int .i64 (chkF k.data.toList s.data.toList)) ∧ Up w w' := by
  have hK : Hid (k.data.toList = [67, 83]) := by rw [Lib.toList_data] at hk; exact hk
  go_enter Tryz.func41, Tryz.ntmps41
  go_wp2_with (first
    | (go_at_call 75; refine (isCode_any _ _ (by omega)).mono ?_; rintro e w' ⟨rfl, rfl⟩)
    | (go_at_call 76; refine (Tryz.strings_Count_one _ _ _).mono ?_; rintro e w' ⟨rfl, rfl⟩)
    | (go_at_call 65; refine (isText_any _ _ (by omega)).mono ?_; rintro e w' ⟨rfl, rfl⟩)
    | (go_at_call 77; refine (Tryz.strings_HasSuffix _ _ _ (by omega)).mono ?_; rintro e w' ⟨rfl, rfl⟩))
  all_goals go_ret
  all_goals refine ⟨vret_int ?_, Up.refl _⟩
  all_goals rw [hK.out]
  all_goals simp_all [chkF, txtB, suffix_blank, Lib.countByte, Lib.toList_data]
  all_goals (intros; first | omega | (exfalso; omega))
theorem cf_PN (k s : ByteArray) (w : World) (hs : s.size ≤ 9223372036854775806) (hk : k.toList = [80, 78]) :
    Calls Tryz.prog 41 #[.string k, .string s] w fun e w' => e = .returned (.int .i64 (chkF k.data.toList s.data.toList)) ∧ Up w w' := by
  have hK : Hid (k.data.toList = [80, 78]) := by rw [Lib.toList_data] at hk; exact hk
  go_enter Tryz.func41, Tryz.ntmps41
  go_wp2_with (first
    | (go_at_call 76; refine (Tryz.strings_Count_one _ _ _).mono ?_; rintro e w' ⟨rfl, rfl⟩)
    | (go_at_call 65; refine (isText_any _ _ (by omega)).mono ?_; rintro e w' ⟨rfl, rfl⟩)
    | (go_at_call 77; refine (Tryz.strings_HasSuffix _ _ _ (by omega)).mono ?_; rintro e w' ⟨rfl, rfl⟩))
  all_goals go_ret
  all_goals refine ⟨vret_int ?_, Up.refl _⟩
  all_goals rw [hK.out]
  all_goals simp_all [chkF, txtB, suffix_blank, Lib.countByte, Lib.toList_data]
  all_goals (intros; first | omega | (exfalso; omega))
theorem cf_LO (k s : ByteArray) (w : World) (hs : s.size ≤ 9223372036854775806) (hk : k.toList = [76, 79]) :
    Calls Tryz.prog 41 #[.string k, .string s] w fun e w' => e = .returned (.int .i64 (chkF k.data.toList s.data.toList)) ∧ Up w w' := by
  have hK : Hid (k.data.toList = [76, 79]) := by rw [Lib.toList_data] at hk; exact hk
  go_enter Tryz.func41, Tryz.ntmps41
  go_wp2_with (first
    | (go_at_call 65; refine (isText_any _ _ (by omega)).mono ?_; rintro e w' ⟨rfl, rfl⟩)
    | (go_at_call 77; refine (Tryz.strings_HasSuffix _ _ _ (by omega)).mono ?_; rintro e w' ⟨rfl, rfl⟩))
  all_goals go_ret
  all_goals refine ⟨vret_int ?_, Up.refl _⟩
  all_goals rw [hK.out]
  all_goals simp_all [chkF, txtB, suffix_blank, Lib.toList_data]
theorem cf_UI (k s : ByteArray) (w : World) (hs : s.size ≤ 9223372036854775806) (hv : Vars w) (hk : k.toList = [85, 73]) :
    Calls Tryz.prog 41 #[.string k, .string s] w fun e w' => e = .returned (.int .i64 (chkF k.data.toList s.data.toList)) ∧ Up w w' := by
  have hK : Hid (k.data.toList = [85, 73]) := by rw [Lib.toList_data] at hk; exact hk
  go_enter Tryz.func41, Tryz.ntmps41
  go_wp2_with (first
    | (go_at_call 78; refine (isName_any _ _ (by omega) hv).mono ?_; rintro e w' ⟨rfl, hup⟩))
  all_goals go_ret
  all_goals refine ⟨vret_int ?_, hup⟩
  all_goals rw [hK.out]
  all_goals simp_all [chkF]
theorem cf_DA (k s : ByteArray) (w : World) (hs : s.size ≤ 9223372036854775806) (hk : k.toList = [68, 65]) :
    Calls Tryz.prog 41 #[.string k, .string s] w fun e w' => e = .returned (.int .i64 (chkF k.data.toList s.data.toList)) ∧ Up w w' := by
  have hK : Hid (k.data.toList = [68, 65]) := by rw [Lib.toList_data] at hk; exact hk
  go_enter Tryz.func41, Tryz.ntmps41
  go_wp2_with (first
    | (go_at_call 79; refine (isDate_any _ _ (by omega)).mono ?_; rintro e w' ⟨rfl, hup⟩))
  all_goals go_ret
  all_goals refine ⟨vret_int ?_, hup⟩
  all_goals rw [hK.out]
  all_goals simp_all [chkF]
theorem cf_TM (k s : ByteArray) (w : World) (hs : s.size ≤ 9223372036854775806) (hk : k.toList = [84, 77]) :
    Calls Tryz.prog 41 #[.string k, .string s] w fun e w' => e = .returned (.int .i64 (chkF k.data.toList s.data.toList)) ∧ Up w w' := by
  have hK : Hid (k.data.toList = [84, 77]) := by rw [Lib.toList_data] at hk; exact hk
  go_enter Tryz.func41, Tryz.ntmps41
  go_wp2_with (first
    | (go_at_call 80; refine (isTime_any _ _ (by omega)).mono ?_; rintro e w' ⟨rfl, rfl⟩))
  all_goals go_ret
  all_goals refine ⟨vret_int ?_, Up.refl _⟩
  all_goals rw [hK.out]
  all_goals simp_all [chkF]
theorem cf_IS (k s : ByteArray) (w : World) (hs : s.size ≤ 9223372036854775806) (hv : Vars w) (hk : k.toList = [73, 83]) :
    Calls Tryz.prog 41 #[.string k, .string s] w fun e w' => e = .returned (.int .i64 (chkF k.data.toList s.data.toList)) ∧ Up w w' := by
  have hK : Hid (k.data.toList = [73, 83]) := by rw [Lib.toList_data] at hk; exact hk
  go_enter Tryz.func41, Tryz.ntmps41
  go_wp2_with (first
    | (go_at_call 81; refine (vnumber_any _ _ (by omega) hv).mono ?_; rintro e w' ⟨rfl, hup⟩))
  all_goals go_ret
  all_goals refine ⟨vret_int ?_, hup⟩
  all_goals rw [hK.out]
  all_goals simp_all [chkF, numOk, isNum]
theorem cf_none (k s : ByteArray) (w : World) (hk : ¬ (k.toList = [67, 83] ∨ k.toList = [80, 78] ∨ k.toList = [76, 79] ∨ k.toList = [85, 73] ∨ k.toList = [68, 65] ∨ k.toList = [84, 77] ∨ k.toList = [73, 83])) :
    Calls Tryz.prog 41 #[.string k, .string s] w fun e w' => e = .returned (.int .i64 (chkF k.data.toList s.data.toList)) ∧ Up w w' := by
  simp only [not_or] at hk
  obtain ⟨h1, h2, h3, h4, h5, h6, h7⟩ := hk
  have hK : Hid (chkF k.data.toList s.data.toList = 2) := by
    unfold Hid chkF
    rw [← Lib.toList_data k, if_neg h1, if_neg h2, if_neg h3, if_neg h4, if_neg h5, if_neg h6, if_neg h7]
  have g1 : (k.toList == [67, 83]) = false := by simpa using h1
  have g2 : (k.toList == [80, 78]) = false := by simpa using h2
  have g3 : (k.toList == [76, 79]) = false := by simpa using h3
  have g4 : (k.toList == [85, 73]) = false := by simpa using h4
  have g5 : (k.toList == [68, 65]) = false := by simpa using h5
  have g6 : (k.toList == [84, 77]) = false := by simpa using h6
  have g7 : (k.toList == [73, 83]) = false := by simpa using h7
  clear h1 h2 h3 h4 h5 h6 h7
  go_enter Tryz.func41, Tryz.ntmps41
  go_wp2
  go_ret
  exact ⟨vret_int hK.out.symm, Up.refl _⟩
theorem checkFilled_any (k s : ByteArray) (w : World) (hs : s.size ≤ 9223372036854775806) (hv : Vars w) :
    Calls Tryz.prog 41 #[.string k, .string s] w fun e w' => e = .returned (.int .i64 (chkF k.data.toList s.data.toList)) ∧ Up w w' := by
  by_cases h : k.toList = [67, 83] ∨ k.toList = [80, 78] ∨ k.toList = [76, 79] ∨ k.toList = [85, 73] ∨ k.toList = [68, 65] ∨ k.toList = [84, 77] ∨ k.toList = [73, 83]
  · rcases h with h | h | h | h | h | h | h
    · exact cf_CS k s w hs h
    · exact cf_PN k s w hs h
    · exact cf_LO k s w hs h
    · exact cf_UI k s w hs hv h
    · exact cf_DA k s w hs h
    · exact cf_TM k s w hs h
    · exact cf_IS k s w hs hv h
  · exact cf_none k s w h
theorem Check_any (k s : ByteArray) (w : World) (hs : s.size ≤ 9223372036854775806) (hv : Vars w) :
    Calls Tryz.prog 13 #[.string k, .string s] w fun e w' => e = .returned (.int .i64 (chk k.data.toList s.data.toList)) ∧ Up w w' := by
  go_enter Tryz.func13, Tryz.ntmps13
  go_wp2_with (go_at_call 41; refine (checkFilled_any _ _ _ hs hv).mono ?_; rintro e w' ⟨rfl, hup⟩)
  all_goals go_ret
  all_goals refine ⟨vret_int ?_, hup⟩
  all_goals simp_all [chk, Lib.toList_data]
end Go.Proofs.YtaokifbpakbgdaaGreatDoor
