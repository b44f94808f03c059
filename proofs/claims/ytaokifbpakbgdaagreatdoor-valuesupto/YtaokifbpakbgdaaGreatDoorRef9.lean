/-
  The document's answer (package folioref), ninth part: fits, Match.
-/
import Derived.Test.YtaokifbpakbgdaaGreatDoorRef8
namespace Go.Proofs.YtaokifbpakbgdaaGreatDoor
open Go.RowKit

theorem map_fl_true (l : Bs) : l.map (fl true) = Lib.toLowerA l := rfl
theorem map_fl_false (l : Bs) : l.map (fl false) = l := by
  have : fl false = id := rfl
  rw [this, List.map_id]
/-- LO, PN, CS. -/
theorem rfits_text (k p v : ByteArray) (w : World) (hk : Hid (k.data.toList = [76, 79] ∨ k.data.toList = [80, 78] ∨ k.data.toList = [67, 83])) (hp : p.size < 4294967281) (hp0 : 0 < p.size) (hv : v.size < 4294967281) :
    Calls Tryz.prog 44 #[.string k, .string p, .string v] w fun e w' => e = .returned (.tuple #[.bool (isPatB k.data.toList p.data.toList && fitsB k.data.toList p.data.toList v.data.toList), .bool (isPatB k.data.toList p.data.toList)]) ∧ Up w w' := by
  have hI : Hid (isPatB k.data.toList p.data.toList = isTextB p.data.toList) := by unfold Hid isPatB; rw [if_pos hk.out]
  have g1 : (k.toList == [85, 73]) = false := by rw [Lib.toList_data]; rcases hk.out with h | h | h <;> rw [h] <;> rfl
  have g2 : (k.toList == [68, 65]) = false := by rw [Lib.toList_data]; rcases hk.out with h | h | h <;> rw [h] <;> rfl
  have g3 : (k.toList == [84, 77]) = false := by rw [Lib.toList_data]; rcases hk.out with h | h | h <;> rw [h] <;> rfl
  have g4 : (k.toList == [73, 83]) = false := by rw [Lib.toList_data]; rcases hk.out with h | h | h <;> rw [h] <;> rfl
  cases ht : isTextB p.data.toList
  · go_enter Tryz.func44, Tryz.ntmps44
    go_wp2_with fail
    go_at_call 43; refine (rvalue_any _ _ _ hp hp0).mono ?_; rintro e w1 ⟨rfl, u1⟩
    go_wp2_with (go_at_call 90; refine (line_any _ _ (by omega)).mono ?_; rintro e w' ⟨rfl, rfl⟩)
    go_ret2
    exact ⟨by rw [hI.out, ht]; rfl, u1⟩
  · have hF : Hid (∀ fold, (k.toList == [80, 78]) = fold → fitsB k.data.toList p.data.toList v.data.toList = glob (p.data.toList.map (fl fold)) (v.data.toList.map (fl fold))) := fun fold hf => by
      rw [Lib.toList_data] at hf
      rcases hk.out with h | h | h
      · rw [h] at hf ⊢
        obtain rfl : fold = false := hf.symm
        rw [map_fl_false, map_fl_false]; rfl
      · rw [h] at hf ⊢
        obtain rfl : fold = true := hf.symm
        rw [map_fl_true, map_fl_true]; rfl
      · rw [h] at hf ⊢
        obtain rfl : fold = false := hf.symm
        rw [map_fl_false, map_fl_false]; rfl
    cases hfold : (k.toList == [80, 78])
    all_goals
      have hR := hid (hF.out _ hfold)
      go_enter Tryz.func44, Tryz.ntmps44
      go_wp2_with fail
      go_at_call 43; refine (rvalue_any _ _ _ hp hp0).mono ?_; rintro e w1 ⟨rfl, u1⟩
      go_wp2_with (first
        | (go_at_call 90; refine (line_any _ _ (by omega)).mono ?_; rintro e w' ⟨rfl, rfl⟩)
        | (go_at_call 91; refine (rwild_any _ _ _ _ hp hv).mono ?_; rintro e w2 ⟨rfl, u2⟩))
      go_ret2
      exact ⟨by rw [hI.out, ht, hR.out]; rfl, u1.trans u2⟩
theorem pat_single {k p : Bs} (hk : DT k) (h : rval k p = true) : isPatB k p = true := by
  rw [pat_span k p hk]
  exact span_one k p (no_dash p (rval_digits hk h)) ((chkF_rval hk).2 h)
theorem rfits_date (k p v : ByteArray) (w : World) (hk : Hid (k.data.toList = [68, 65])) (hp : p.size < 4294967281) (hp0 : 0 < p.size) (hv : v.size < 4294967281) (hvr : Hid (v.data.toList = [] ∨ rval k.data.toList v.data.toList = true)) :
    Calls Tryz.prog 44 #[.string k, .string p, .string v] w fun e w' => e = .returned (.tuple #[.bool (isPatB k.data.toList p.data.toList && fitsB k.data.toList p.data.toList v.data.toList), .bool (isPatB k.data.toList p.data.toList)]) ∧ Up w w' := by
  have hkl : k.toList = [68, 65] := by rw [Lib.toList_data]; exact hk.out
  have hDT : Hid (DT k.data.toList) := Or.inl hk.out
  have hne : Hid (¬ p.data.toList = []) := fun e => by
    have : p.data.toList.length = 0 := by rw [e]; rfl
    rw [len_list] at this; omega
  cases hs : rval k.data.toList p.data.toList
  · have HS := hid hs
    go_enter Tryz.func44, Tryz.ntmps44
    go_wp2_with fail
    go_at_call 43; refine (rvalue_any _ _ _ hp hp0).mono ?_; rintro e w1 ⟨rfl, u1⟩
    go_wp2_with (go_at_call 88; refine (rspan_any _ _ _ _ hDT hp hv HS hvr).mono ?_; rintro e w2 ⟨rfl, u2⟩)
    go_ret2
    exact ⟨rfl, u1.trans u2⟩
  · have hI : Hid (isPatB k.data.toList p.data.toList = true) := pat_single hDT.out hs
    have hF : Hid (fitsB k.data.toList p.data.toList v.data.toList = (v.toList == p.toList)) := by
      unfold Hid
      rw [Lib.toList_data, Lib.toList_data, hk.out]
      by_cases hv0 : v.data.toList = []
      · rw [hv0, fits_empty (Or.inl rfl)]
        symm
        rw [beq_eq_false_iff_ne]
        exact fun e => hne.out e.symm
      · rw [fits_date _ _ hv0]
        unfold fitsDateB
        rw [cut_miss _ (no_dash _ (rval_digits hDT.out hs))]; rfl
    go_enter Tryz.func44, Tryz.ntmps44
    go_wp2_with fail
    go_at_call 43; refine (rvalue_any _ _ _ hp hp0).mono ?_; rintro e w1 ⟨rfl, u1⟩
    go_wp2_with fail
    go_ret2
    exact ⟨by rw [hI.out, hF.out]; rfl, u1⟩
theorem rfits_time (k p v : ByteArray) (w : World) (hk : Hid (k.data.toList = [84, 77])) (hp : p.size < 4294967281) (hp0 : 0 < p.size) (hv : v.size < 4294967281) (hvr : Hid (v.data.toList = [] ∨ rval k.data.toList v.data.toList = true)) :
    Calls Tryz.prog 44 #[.string k, .string p, .string v] w fun e w' => e = .returned (.tuple #[.bool (isPatB k.data.toList p.data.toList && fitsB k.data.toList p.data.toList v.data.toList), .bool (isPatB k.data.toList p.data.toList)]) ∧ Up w w' := by
  have hkl : k.toList = [84, 77] := by rw [Lib.toList_data]; exact hk.out
  have hDT : Hid (DT k.data.toList) := Or.inr hk.out
  cases hs : rval k.data.toList p.data.toList
  · have HS := hid hs
    go_enter Tryz.func44, Tryz.ntmps44
    go_wp2_with fail
    go_at_call 43; refine (rvalue_any _ _ _ hp hp0).mono ?_; rintro e w1 ⟨rfl, u1⟩
    go_wp2_with (go_at_call 88; refine (rspan_any _ _ _ _ hDT hp hv HS hvr).mono ?_; rintro e w2 ⟨rfl, u2⟩)
    go_ret2
    exact ⟨rfl, u1.trans u2⟩
  · have hI : Hid (isPatB k.data.toList p.data.toList = true) := pat_single hDT.out hs
    by_cases hv0 : v.toList = []
    · have hF : Hid (fitsB k.data.toList p.data.toList v.data.toList = false) := by
        unfold Hid; rw [← Lib.toList_data v, hv0, fits_empty hDT.out]
      go_enter Tryz.func44, Tryz.ntmps44
      go_wp2_with fail
      go_at_call 43; refine (rvalue_any _ _ _ hp hp0).mono ?_; rintro e w1 ⟨rfl, u1⟩
      go_wp2_with fail
      go_ret2
      exact ⟨by rw [hI.out, hF.out]; rfl, u1⟩
    · have hie : v.toList.isEmpty = false := by simpa using hv0
      have hF : Hid (fitsB k.data.toList p.data.toList v.data.toList = (Lib.hasPrefix v.data.toList p.data.toList || Lib.hasPrefix p.data.toList v.data.toList)) := by
        unfold Hid
        rw [hk.out, fits_time _ _ (fun e => hv0 (by rw [Lib.toList_data]; exact e))]
        unfold fitsTimeB
        rw [cut_miss _ (no_dash _ (rval_digits hDT.out hs))]; rfl
      cases h1 : Lib.hasPrefix v.data.toList p.data.toList
      all_goals
        have H1 := hid h1
        go_enter Tryz.func44, Tryz.ntmps44
        go_wp2_with fail
        go_at_call 43; refine (rvalue_any _ _ _ hp hp0).mono ?_; rintro e w1 ⟨rfl, u1⟩
        go_wp2_with (go_at_call 89; refine (starts_any _ _ _).mono ?_; rintro e w2 ⟨rfl, rfl⟩)
        go_ret2
        exact ⟨by rw [hI.out, hF.out, H1.out]; rfl, u1⟩
theorem rfits_num (k p v : ByteArray) (w : World) (hk : Hid (k.data.toList = [73, 83])) (hp : p.size < 4294967281) (hp0 : 0 < p.size) (hv : v.size < 4294967281) (hvr : Hid (v.data.toList = [] ∨ rval k.data.toList v.data.toList = true)) :
    Calls Tryz.prog 44 #[.string k, .string p, .string v] w fun e w' => e = .returned (.tuple #[.bool (isPatB k.data.toList p.data.toList && fitsB k.data.toList p.data.toList v.data.toList), .bool (isPatB k.data.toList p.data.toList)]) ∧ Up w w' := by
  have hkl : k.toList = [73, 83] := by rw [Lib.toList_data]; exact hk.out
  have hI : Hid (isPatB k.data.toList p.data.toList = rnumOk p.data.toList) := by
    unfold Hid
    rw [hk.out]
    show decide (chkF [73, 83] p.data.toList = 0) = _
    rw [show chkF [73, 83] p.data.toList = if isNum p.data.toList then 0 else 6 from rfl, isNum_ok]
    cases rnumOk p.data.toList <;> rfl
  have hF : Hid (rnumOk p.data.toList = true → fitsB k.data.toList p.data.toList v.data.toList = (rnumOk v.data.toList && (rnumV p.data.toList == rnumV v.data.toList))) := fun hop => by
    rw [hk.out]
    by_cases hv0 : v.data.toList = []
    · rw [hv0]; rfl
    · have hvo : rnumOk v.data.toList = true := by
        have := hvr.out.resolve_left hv0
        rw [hk.out] at this; exact this
      unfold fitsB
      rw [if_neg (by decide), if_neg (by decide), if_neg hv0, if_neg (by decide), if_neg (by decide), if_pos rfl]
      unfold sameB
      rw [numB_ref, numB_ref, hop, hvo]
      rw [Bool.true_and, Bool.eq_iff_iff]; simp
  cases ho : rnumOk p.data.toList
  · have HO := hid ho
    go_enter Tryz.func44, Tryz.ntmps44
    go_wp2_with fail
    go_at_call 43; refine (rvalue_any _ _ _ hp hp0).mono ?_; rintro e w1 ⟨rfl, u1⟩
    go_wp2_with (go_at_call 85; refine (rnumber_any _ _ (by omega)).mono ?_; rintro e w2 ⟨rfl, rfl⟩)
    go_ret2
    exact ⟨by rw [hI.out, HO.out]; rfl, u1⟩
  · have HO := hid ho
    have HF := hid (hF.out ho)
    cases hov : rnumOk v.data.toList
    all_goals
      have HV := hid hov
      go_enter Tryz.func44, Tryz.ntmps44
      go_wp2_with fail
      go_at_call 43; refine (rvalue_any _ _ _ hp hp0).mono ?_; rintro e w1 ⟨rfl, u1⟩
      go_wp2_with (go_at_call 85; refine (rnumber_any _ _ (by omega)).mono ?_; rintro e w2 ⟨rfl, rfl⟩)
      go_ret2
      exact ⟨by rw [hI.out, HO.out, HF.out, HV.out]; rfl, u1⟩
end Go.Proofs.YtaokifbpakbgdaaGreatDoor
