/-
  Several texts in one; what each one has stands at its head.
-/
import Derived.Test.YtaokifbpakbgdaaGreatDoorPut23
import Derived.ChangeMaps5
import Derived.Test.YtaokifbpakbgdaaGreatDoorPut22
import Derived.Test.YtaokifbpakbgdaaGreatDoorPut11
import Derived.Test.YtaokifbpakbgdaaGreatDoorPut3
/- The document's answer (package folioref), ninth part: fits, Match. -/
namespace Go.Proofs.YtaokifbpakbgdaaGreatDoor
open Go.RowKit

theorem map_fl_true (l : Bs) : l.map (fl true) = Lib.toLowerA l := rfl
theorem map_fl_false (l : Bs) : l.map (fl false) = l := by
  have : fl false = id := rfl
  rw [this, List.map_id]
/-- LO, PN, CS. -/
theorem rfits_text (k p v : ByteArray) (w : World) (hk : Hid (k.data.toList = [76, 79] ∨ k.data.toList = [80, 78] ∨ k.data.toList = [67, 83])) (hp : p.size < 4294967281) (hp0 : 0 < p.size) (hv : v.size < 4294967281) :
    Calls Tryz.prog 44 #[.string k, .string p, .string v] w fun e w' => e = .returned (.tuple #[.bool (isPatB k.data.toList p.data.toList && fitsB k.data.toList p.data.toList v.data.toList), .bool (isPatB k.data.toList p.data.toList)]) ∧ Up w w' := by
  have hI : Hid (isPatB k.data.toList p.data.toList = isTextB p.data.toList) := by unfold Hid isPatB; rw [if_pos hk.out]
  have g1 : (k.toList == [85, 73]) = false := by rw [Lib.toList_data]; rcases hk.out with h | h | h <;> rw [h] <;> rfl
  have g2 : (k.toList == [68, 65]) = false := by rw [Lib.toList_data]; rcases hk.out with h | h | h <;> rw [h] <;> rfl
  have g3 : (k.toList == [84, 77]) = false := by rw [Lib.toList_data]; rcases hk.out with h | h | h <;> rw [h] <;> rfl
  have g4 : (k.toList == [73, 83]) = false := by rw [Lib.toList_data]; rcases hk.out with h | h | h <;> rw [h] <;> rfl
  cases ht : isTextB p.data.toList
  · go_enter Tryz.func44, Tryz.ntmps44
    go_wp2_with fail
    go_at_call 43; refine (rvalue_any _ _ _ hp hp0).mono ?_; rintro e w1 ⟨rfl, u1⟩
    go_wp2_with (go_at_call 90; refine (line_any _ _ (by omega)).mono ?_; rintro e w' ⟨rfl, rfl⟩)
    go_ret2
    exact ⟨by rw [hI.out, ht]; rfl, u1⟩
  · have hF : Hid (∀ fold, (k.toList == [80, 78]) = fold → fitsB k.data.toList p.data.toList v.data.toList = glob (p.data.toList.map (fl fold)) (v.data.toList.map (fl fold))) := fun fold hf => by
      rw [Lib.toList_data] at hf
      rcases hk.out with h | h | h
      · rw [h] at hf ⊢
        obtain rfl : fold = false := hf.symm
        rw [map_fl_false, map_fl_false]; rfl
      · rw [h] at hf ⊢
        obtain rfl : fold = true := hf.symm
        rw [map_fl_true, map_fl_true]; rfl
      · rw [h] at hf ⊢
        obtain rfl : fold = false := hf.symm
        rw [map_fl_false, map_fl_false]; rfl
    cases hfold : (k.toList == [80, 78])
    all_goals
      have hR := hid (hF.out _ hfold)
      go_enter Tryz.func44, Tryz.ntmps44
      go_wp2_with fail
      go_at_call 43; refine (rvalue_any _ _ _ hp hp0).mono ?_; rintro e w1 ⟨rfl, u1⟩
      go_wp2_with (first
        | (go_at_call 90; refine (line_any _ _ (by omega)).mono ?_; rintro e w' ⟨rfl, rfl⟩)
        | (go_at_call 91; refine (rwild_any _ _ _ _ hp hv).mono ?_; rintro e w2 ⟨rfl, u2⟩))
      go_ret2
      exact ⟨by rw [hI.out, ht, hR.out]; rfl, u1.trans u2⟩
theorem pat_single {k p : Bs} (hk : DT k) (h : rval k p = true) : isPatB k p = true := by
  rw [pat_span k p hk]
  exact span_one k p (no_dash p (rval_digits hk h)) ((chkF_rval hk).2 h)
theorem rfits_date (k p v : ByteArray) (w : World) (hk : Hid (k.data.toList = [68, 65])) (hp : p.size < 4294967281) (hp0 : 0 < p.size) (hv : v.size < 4294967281) (hvr : Hid (v.data.toList = [] ∨ rval k.data.toList v.data.toList = true)) :
    Calls Tryz.prog 44 #[.string k, .string p, .string v] w fun e w' => e = .returned (.tuple #[.bool (isPatB k.data.toList p.data.toList && fitsB k.data.toList p.data.toList v.data.toList), .bool (isPatB k.data.toList p.data.toList)]) ∧ Up w w' := by
  have hkl : k.toList = [68, 65] := by rw [Lib.toList_data]; exact hk.out
  have hDT : Hid (DT k.data.toList) := Or.inl hk.out
  have hne : Hid (¬ p.data.toList = []) := fun e => by
    have : p.data.toList.length = 0 := by rw [e]; rfl
    rw [len_list] at this; omega
  cases hs : rval k.data.toList p.data.toList
  · have HS := hid hs
    go_enter Tryz.func44, Tryz.ntmps44
    go_wp2_with fail
    go_at_call 43; refine (rvalue_any _ _ _ hp hp0).mono ?_; rintro e w1 ⟨rfl, u1⟩
    go_wp2_with (go_at_call 88; refine (rspan_any _ _ _ _ hDT hp hv HS hvr).mono ?_; rintro e w2 ⟨rfl, u2⟩)
    go_ret2
    exact ⟨rfl, u1.trans u2⟩
  · have hI : Hid (isPatB k.data.toList p.data.toList = true) := pat_single hDT.out hs
    have hF : Hid (fitsB k.data.toList p.data.toList v.data.toList = (v.toList == p.toList)) := by
      unfold Hid
      rw [Lib.toList_data, Lib.toList_data, hk.out]
      by_cases hv0 : v.data.toList = []
      · rw [hv0, fits_empty (Or.inl rfl)]
        symm
        rw [beq_eq_false_iff_ne]
        exact fun e => hne.out e.symm
      · rw [fits_date _ _ hv0]
        unfold fitsDateB
        rw [cut_miss _ (no_dash _ (rval_digits hDT.out hs))]; rfl
    go_enter Tryz.func44, Tryz.ntmps44
    go_wp2_with fail
    go_at_call 43; refine (rvalue_any _ _ _ hp hp0).mono ?_; rintro e w1 ⟨rfl, u1⟩
    go_wp2_with fail
    go_ret2
    exact ⟨by rw [hI.out, hF.out]; rfl, u1⟩
theorem rfits_time (k p v : ByteArray) (w : World) (hk : Hid (k.data.toList = [84, 77])) (hp : p.size < 4294967281) (hp0 : 0 < p.size) (hv : v.size < 4294967281) (hvr : Hid (v.data.toList = [] ∨ rval k.data.toList v.data.toList = true)) :
    Calls Tryz.prog 44 #[.string k, .string p, .string v] w fun e w' => e = .returned (.tuple #[.bool (isPatB k.data.toList p.data.toList && fitsB k.data.toList p.data.toList v.data.toList), .bool (isPatB k.data.toList p.data.toList)]) ∧ Up w w' := by
  have hkl : k.toList = [84, 77] := by rw [Lib.toList_data]; exact hk.out
  have hDT : Hid (DT k.data.toList) := Or.inr hk.out
  cases hs : rval k.data.toList p.data.toList
  · have HS := hid hs
    go_enter Tryz.func44, Tryz.ntmps44
    go_wp2_with fail
    go_at_call 43; refine (rvalue_any _ _ _ hp hp0).mono ?_; rintro e w1 ⟨rfl, u1⟩
    go_wp2_with (go_at_call 88; refine (rspan_any _ _ _ _ hDT hp hv HS hvr).mono ?_; rintro e w2 ⟨rfl, u2⟩)
    go_ret2
    exact ⟨rfl, u1.trans u2⟩
  · have hI : Hid (isPatB k.data.toList p.data.toList = true) := pat_single hDT.out hs
    by_cases hv0 : v.toList = []
    · have hF : Hid (fitsB k.data.toList p.data.toList v.data.toList = false) := by
        unfold Hid; rw [← Lib.toList_data v, hv0, fits_empty hDT.out]
      go_enter Tryz.func44, Tryz.ntmps44
      go_wp2_with fail
      go_at_call 43; refine (rvalue_any _ _ _ hp hp0).mono ?_; rintro e w1 ⟨rfl, u1⟩
      go_wp2_with fail
      go_ret2
      exact ⟨by rw [hI.out, hF.out]; rfl, u1⟩
    · have hie : v.toList.isEmpty = false := by simpa using hv0
      have hF : Hid (fitsB k.data.toList p.data.toList v.data.toList = (Lib.hasPrefix v.data.toList p.data.toList || Lib.hasPrefix p.data.toList v.data.toList)) := by
        unfold Hid
        rw [hk.out, fits_time _ _ (fun e => hv0 (by rw [Lib.toList_data]; exact e))]
        unfold fitsTimeB
        rw [cut_miss _ (no_dash _ (rval_digits hDT.out hs))]; rfl
      cases h1 : Lib.hasPrefix v.data.toList p.data.toList
      all_goals
        have H1 := hid h1
        go_enter Tryz.func44, Tryz.ntmps44
        go_wp2_with fail
        go_at_call 43; refine (rvalue_any _ _ _ hp hp0).mono ?_; rintro e w1 ⟨rfl, u1⟩
        go_wp2_with (go_at_call 89; refine (starts_any _ _ _).mono ?_; rintro e w2 ⟨rfl, rfl⟩)
        go_ret2
        exact ⟨by rw [hI.out, hF.out, H1.out]; rfl, u1⟩
theorem rfits_num (k p v : ByteArray) (w : World) (hk : Hid (k.data.toList = [73, 83])) (hp : p.size < 4294967281) (hp0 : 0 < p.size) (hv : v.size < 4294967281) (hvr : Hid (v.data.toList = [] ∨ rval k.data.toList v.data.toList = true)) :
    Calls Tryz.prog 44 #[.string k, .string p, .string v] w fun e w' => e = .returned (.tuple #[.bool (isPatB k.data.toList p.data.toList && fitsB k.data.toList p.data.toList v.data.toList), .bool (isPatB k.data.toList p.data.toList)]) ∧ Up w w' := by
  have hkl : k.toList = [73, 83] := by rw [Lib.toList_data]; exact hk.out
  have hI : Hid (isPatB k.data.toList p.data.toList = rnumOk p.data.toList) := by
    unfold Hid
    rw [hk.out]
    show decide (chkF [73, 83] p.data.toList = 0) = _
    rw [show chkF [73, 83] p.data.toList = if isNum p.data.toList then 0 else 6 from rfl, isNum_ok]
    cases rnumOk p.data.toList <;> rfl
  have hF : Hid (rnumOk p.data.toList = true → fitsB k.data.toList p.data.toList v.data.toList = (rnumOk v.data.toList && (rnumV p.data.toList == rnumV v.data.toList))) := fun hop => by
    rw [hk.out]
    by_cases hv0 : v.data.toList = []
    · rw [hv0]; rfl
    · have hvo : rnumOk v.data.toList = true := by
        have := hvr.out.resolve_left hv0
        rw [hk.out] at this; exact this
      unfold fitsB
      rw [if_neg (by decide), if_neg (by decide), if_neg hv0, if_neg (by decide), if_neg (by decide), if_pos rfl]
      unfold sameB
      rw [numB_ref, numB_ref, hop, hvo]
      rw [Bool.true_and, Bool.eq_iff_iff]; simp
  cases ho : rnumOk p.data.toList
  · have HO := hid ho
    go_enter Tryz.func44, Tryz.ntmps44
    go_wp2_with fail
    go_at_call 43; refine (rvalue_any _ _ _ hp hp0).mono ?_; rintro e w1 ⟨rfl, u1⟩
    go_wp2_with (go_at_call 85; refine (rnumber_any _ _ (by omega)).mono ?_; rintro e w2 ⟨rfl, rfl⟩)
    go_ret2
    exact ⟨by rw [hI.out, HO.out]; rfl, u1⟩
  · have HO := hid ho
    have HF := hid (hF.out ho)
    cases hov : rnumOk v.data.toList
    all_goals
      have HV := hid hov
      go_enter Tryz.func44, Tryz.ntmps44
      go_wp2_with fail
      go_at_call 43; refine (rvalue_any _ _ _ hp hp0).mono ?_; rintro e w1 ⟨rfl, u1⟩
      go_wp2_with (go_at_call 85; refine (rnumber_any _ _ (by omega)).mono ?_; rintro e w2 ⟨rfl, rfl⟩)
      go_ret2
      exact ⟨by rw [hI.out, HO.out, HF.out, HV.out]; rfl, u1⟩
end Go.Proofs.YtaokifbpakbgdaaGreatDoor

/- Package folioref: Match. -/
namespace Go.Proofs.YtaokifbpakbgdaaGreatDoor
open Go.ChangeShapes Go.WideShapes Go.ChangeAt Go.RowKit Go.ChangeMaps

/-- Is the text among the first m parts? -/
def inB (zs : List ByteArray) (v : ByteArray) (m : Nat) : Bool := (zs.take m).any fun z => z.toList == v.toList
theorem inB_next {zs : List ByteArray} {v : ByteArray} {m : Nat} (h : m < zs.length) : inB zs v (m + 1) = (inB zs v m || (zs[m].toList == v.toList)) := by
  unfold inB
  rw [List.take_succ_eq_append_getElem h, List.any_append]; simp
set_option maxHeartbeats 1000000 in
theorem rfits_name (k p v : ByteArray) (w : World) (hk : Hid (k.data.toList = [85, 73])) (hp : p.size < 4294967281) (hp0 : 0 < p.size) :
    Calls Tryz.prog 44 #[.string k, .string p, .string v] w fun e w' => e = .returned (.tuple #[.bool (isPatB k.data.toList p.data.toList && fitsB k.data.toList p.data.toList v.data.toList), .bool (isPatB k.data.toList p.data.toList)]) ∧ Up w w' := by
  have hkl : k.toList = [85, 73] := by rw [Lib.toList_data]; exact hk.out
  have hI : Hid (isPatB k.data.toList p.data.toList = (spl 92 p.data.toList).all nameB) := by
    unfold Hid
    rw [hk.out]
    show (spl 92 p.data.toList).all (fun x => decide (chkF [85, 73] x = 0)) = _
    congr 1
    funext x
    rw [show chkF [85, 73] x = if nameB x then 0 else 6 from rfl]
    cases nameB x <;> rfl
  go_enter Tryz.func44, Tryz.ntmps44
  go_wp2_with fail
  go_at_call 43; refine (rvalue_any _ _ _ hp hp0).mono ?_; rintro e w1 ⟨rfl, u1⟩
  go_wp2_with fail
  go_at_call 87; refine (parts_any p 92 _ _ rfl hp).mono ?_; rintro e w2 ⟨b, cap, zs, rfl, hz, hzl, hcell, u2⟩
  have U2 := hid (u1.trans u2)
  clear u1 u2
  go_wp2_with fail
  go_loopw [10, 11] (fun x y ws => ∃ m : Nat, m ≤ zs.length ∧ x = .bool (inB zs v m) ∧ y = .int .i64 m ∧ Hid ((zs.take m).all (fun z => nameB z.data.toList) = true) ∧ Hid (Up w2 ws)) (fun _ y _ => zs.length - (intOf y).toNat)
  case atStart => exact ⟨0, Nat.zero_le _, rfl, rfl, rfl, Up.refl _⟩
  case round =>
    obtain ⟨m, hm, rfl, rfl, ha, U⟩ := hrel
    by_cases hlt : m < zs.length
    · have hc := U.out.cell (hcell.out m hlt)
      have hin : Hid (inB zs v (m + 1) = (inB zs v m || (zs[m].toList == v.toList))) := inB_next hlt
      generalize hzk : zs[m] = z at hc hin
      have hsz : z.size < 4294967281 := by have := part_size hz.out hlt; rw [hzk, len_list] at this; exact Nat.lt_of_le_of_lt this hp
      have HZ := hid hzk
      clear hzk
      go_wp2_with fail
      go_at_call 82; refine (rname_any _ _ hsz).mono ?_; rintro e w3 ⟨rfl, u3⟩
      have hc3 := u3.cell hc
      have U3 := hid (U.out.trans u3)
      clear u3
      cases hn : nameB z.data.toList
      · have hF : Hid ((spl 92 p.data.toList).all nameB = false) := by
          unfold Hid; rw [of_parts hz.out]; exact takeAll_fail (p := fun z => nameB z.data.toList) hlt (by rw [HZ.out]; exact hn)
        go_wp2_with fail
        go_ret2
        exact ⟨by rw [hI.out, hF.out]; rfl, U2.out.trans U3.out⟩
      · have hA : Hid ((zs.take (m + 1)).all (fun z => nameB z.data.toList) = true) := takeAll_next hlt ha.out (by rw [HZ.out]; exact hn)
        cases hi : inB zs v m
        all_goals
          have HI := hid hi
          go_wp2_with fail
          go_roundw
          case rel => exact ⟨m + 1, by omega, by rw [hin.out, HI.out]; rfl, by go_num, hA, U3⟩
          case measure => simp [intOf]; omega
    · have hA : Hid ((spl 92 p.data.toList).all nameB = true) := by unfold Hid; rw [of_parts hz.out]; exact takeAll_end (by omega) ha.out
      have hF : Hid (fitsB k.data.toList p.data.toList v.data.toList = inB zs v m) := by
        unfold Hid inB
        rw [hk.out, List.take_of_length_le (by omega), Bool.eq_iff_iff, List.any_eq_true]
        have key : (∃ z, z ∈ zs ∧ (z.toList == v.toList) = true) ↔ v.data.toList ∈ spl 92 p.data.toList := by
          rw [← hz.out, List.mem_map]
          constructor
          · rintro ⟨z, h1, h2⟩
            rw [beq_iff_eq, Lib.toList_data, Lib.toList_data] at h2
            exact ⟨z, h1, h2⟩
          · rintro ⟨z, h1, h2⟩
            exact ⟨z, h1, by rw [beq_iff_eq, Lib.toList_data, Lib.toList_data]; exact h2⟩
        rw [key]
        by_cases hv0 : v.data.toList = []
        · rw [hv0]
          constructor
          · intro h; cases h
          · intro h
            exact absurd (List.all_eq_true.1 hA.out [] h) (by decide)
        · unfold fitsB
          rw [if_neg (by decide), if_neg (by decide), if_neg hv0, if_neg (by decide), if_neg (by decide), if_neg (by decide), decide_eq_true_eq]
      go_wp2
      go_ret2
      exact ⟨by rw [hI.out, hA.out, hF.out]; rfl, U2.out.trans U.out⟩
theorem rfits_any (k p v : ByteArray) (w : World) (hk : Hid (IsKind k.data.toList)) (hp : p.size < 4294967281) (hp0 : 0 < p.size) (hv : v.size < 4294967281) (hc : Hid (chk k.data.toList v.data.toList = 0)) :
    Calls Tryz.prog 44 #[.string k, .string p, .string v] w fun e w' => e = .returned (.tuple #[.bool (isPatB k.data.toList p.data.toList && fitsB k.data.toList p.data.toList v.data.toList), .bool (isPatB k.data.toList p.data.toList)]) ∧ Up w w' := by
  have hvr : v.data.toList = [] ∨ rval k.data.toList v.data.toList = true := by
    by_cases e : v.data.toList = []
    · exact Or.inl e
    · right
      have h := hc.out
      unfold chk at h
      rw [if_neg (fun c => e c.2), rval_chk _ _ hk.out] at h
      cases hr : rval k.data.toList v.data.toList
      · rw [hr] at h; cases h
      · rfl
  rcases hk.out with h | h | h | h | h | h | h
  · exact rfits_text k p v w (Or.inl h) hp hp0 hv
  · exact rfits_text k p v w (Or.inr (Or.inl h)) hp hp0 hv
  · exact rfits_text k p v w (Or.inr (Or.inr h)) hp hp0 hv
  · exact rfits_name k p v w h hp hp0
  · exact rfits_date k p v w h hp hp0 hv hvr
  · exact rfits_time k p v w h hp hp0 hv hvr
  · exact rfits_num k p v w h hp hp0 hv hvr
theorem rMatch_any (k p v : ByteArray) (w : World) (hp : p.size < 4294967281) (hv : v.size < 4294967281) :
    Calls Tryz.prog 15 #[.string k, .string p, .string v] w fun e w' => e = .returned (.tuple #[.bool (matchV k.data.toList p.data.toList v.data.toList), .int .i64 (matchE k.data.toList p.data.toList v.data.toList)]) ∧ Up w w' := by
  by_cases hc : chk k.data.toList v.data.toList = 0
  · have hK : Hid (IsKind k.data.toList) := kind_of_chk hc
    have HC := hid hc
    by_cases hp0 : p.toList = []
    · have hV : Hid (matchV k.data.toList p.data.toList v.data.toList = true) := by unfold Hid matchV; rw [if_neg (fun h => h hc), if_pos (by rw [← Lib.toList_data]; exact hp0)]
      have hE : Hid (matchE k.data.toList p.data.toList v.data.toList = 0) := by unfold Hid matchE; rw [if_neg (fun h => h hc), if_pos (by rw [← Lib.toList_data]; exact hp0)]
      go_enter Tryz.func15, Tryz.ntmps15
      go_wp2_with (go_at_call 14; refine (rCheck_any _ _ _ hv).mono ?_; rintro e w' ⟨rfl, hup⟩)
      go_ret2
      exact ⟨by rw [hV.out, hE.out]; rfl, hup⟩
    · have hie : p.toList.isEmpty = false := by simpa using hp0
      have hpos : 0 < p.size := by
        rcases Nat.eq_zero_or_pos p.size with h | h
        · exact absurd (by rw [Lib.toList_data]; exact List.eq_nil_of_length_eq_zero (by rw [len_list]; exact h)) hp0
        · exact h
      have hV : Hid (matchV k.data.toList p.data.toList v.data.toList = if isPatB k.data.toList p.data.toList then fitsB k.data.toList p.data.toList v.data.toList else false) := by unfold Hid matchV; rw [if_neg (fun h => h hc), if_neg (by rw [← Lib.toList_data]; exact hp0)]
      have hE : Hid (matchE k.data.toList p.data.toList v.data.toList = if isPatB k.data.toList p.data.toList then 0 else 12) := by unfold Hid matchE; rw [if_neg (fun h => h hc), if_neg (by rw [← Lib.toList_data]; exact hp0)]
      cases hi : isPatB k.data.toList p.data.toList
      all_goals
        have HI := hid hi
        go_enter Tryz.func15, Tryz.ntmps15
        go_wp2_with fail
        go_at_call 14; refine (rCheck_any _ _ _ hv).mono ?_; rintro e w1 ⟨rfl, hu1⟩
        go_wp2_with fail
        go_at_call 44; refine (rfits_any _ _ _ _ hK hp hpos hv HC).mono ?_; rintro e w2 ⟨rfl, hu2⟩
        go_wp2_with fail
        go_ret2
        exact ⟨by rw [hV.out, hE.out, HI.out]; rfl, hu1.trans hu2⟩
  · have hV : Hid (matchV k.data.toList p.data.toList v.data.toList = false) := by unfold Hid matchV; rw [if_pos hc]
    have hE : Hid (matchE k.data.toList p.data.toList v.data.toList = chk k.data.toList v.data.toList) := by unfold Hid matchE; rw [if_pos hc]
    have hc' : (chk k.data.toList v.data.toList == 0) = false := by simpa using hc
    go_enter Tryz.func15, Tryz.ntmps15
    go_wp2_with (go_at_call 14; refine (rCheck_any _ _ _ hv).mono ?_; rintro e w' ⟨rfl, hup⟩)
    go_ret2
    exact ⟨by rw [hV.out, hE.out]; rfl, hup⟩
end Go.Proofs.YtaokifbpakbgdaaGreatDoor

/- Package folioref on archives: pattern. -/
namespace Go.Proofs.YtaokifbpakbgdaaGreatDoor
open Go.RowKit

set_option maxRecDepth 20000 in
theorem rpattern_any {n : Nat} (x : El (n + 1)) (iv : Value) (w : World) (hp : x.2.2.1.length ≤ 64) (hiv : ∃ a m c, iv = .slice a m c) :
    Calls Tryz.prog 265 #[elV x iv] w fun e w' => e = .returned (.int .i64 (matchE x.2.1 x.2.2.1 [])) ∧ Below w.heap.size w w' := by
  obtain ⟨a, m, c, rfl⟩ := hiv
  have C := hid (fun W : World => rMatch_any (bs x.2.1) (bs x.2.2.1) ⟨#[]⟩ W (by rw [bs_size]; omega) (by decide))
  unfold elV
  go_enter Tryz.func265, Tryz.ntmps265
  go_wp2_with fail
  go_at_call 15
  refine (C.out _).mono ?_
  rintro e w1 ⟨rfl, u1⟩
  have U := hid ((Below.alloc (Below.refl _ _) (Nat.le_refl _) _).trans (Below.mono u1 (by simp)))
  clear u1 C
  have hE := hid (show matchE (bs x.2.1).data.toList (bs x.2.2.1).data.toList (⟨#[]⟩ : ByteArray).data.toList = matchE x.2.1 x.2.2.1 [] from rfl)
  rw [hE.out]
  generalize hG : matchE x.2.1 x.2.2.1 [] = ee
  have HG := hid hG
  clear hG hE
  generalize matchV _ _ _ = vv
  go_wp2
  go_ret
  exact ⟨by rw [HG.out]; rfl, U.out⟩
end Go.Proofs.YtaokifbpakbgdaaGreatDoor

/- Package archive, queries: rowOf, elementOf, checkPattern, checkKeyInParts. -/
namespace Go.Proofs.YtaokifbpakbgdaaGreatDoor
open Go.RowKit

/-- The highest level on which a tag can be asked for; 4: on none. -/
def rowT (t : Int) : Nat :=
  if t = 524370 ∨ t = 1048608 ∨ t = 1048592 ∨ t = 1048624 ∨ t = 2101760 then 0
  else if t = 2097165 ∨ t = 524320 ∨ t = 524336 ∨ t = 524368 ∨ t = 2101766 then 1
  else if t = 2097166 ∨ t = 524384 ∨ t = 2097169 ∨ t = 2101769 then 2
  else if t = 524312 ∨ t = 2097171 ∨ t = 533016 then 3
  else 4
theorem rowOf_any (w : World) (t : Int) : Calls Tryz.prog 175 #[.int .i64 t] w fun e w' => e = .returned (.int .i64 (rowT t)) ∧ w' = w := by
  go_enter Tryz.func175, Tryz.ntmps175
  go_wp2
  all_goals go_ret
  all_goals refine ⟨?_, rfl⟩
  all_goals simp_all [rowT]
/-- How the look for a tag ends, as the program has it. -/
def ElEnd (n : Nat) (F : Nat → Prop) (w : World) (l : List (El (n + 1))) (t : Int) (e : Ending) (w' : World) : Prop := Below w.heap.size w w' ∧
  ((findE l t = none ∧ e = .returned zeroE) ∨ ∃ x iv, findE l t = some x ∧ e = .returned (elV x iv) ∧ RdI w F n iv x.2.2.2)
set_option maxRecDepth 20000 in
theorem elementOf_any (n : Nat) (F : Nat → Prop) (w : World) (v : Value) (l : List (El (n + 1))) (t : Int) (h : Rd w F (n + 1) v l) (hl : l.length ≤ 24) :
    Calls Tryz.prog 109 #[v, .int .i64 t] w (ElEnd n F w l t) := by
  obtain ⟨ad, cap, rfl⟩ := h.slice
  go_enter Tryz.func109, Tryz.ntmps109
  go_wp2_with fail
  go_loopw [9] (fun i wr => ∃ k : Nat, k ≤ l.length ∧ i = .int .i64 k ∧ Hid (Four wr w.heap.size (.int .i64 0) (.string ⟨#[]⟩) (.string ⟨#[]⟩) (.slice none 0 0)) ∧ Hid (Below w.heap.size w wr) ∧ Hid (findE l t = findE (l.drop k) t)) (fun i _ => l.length - (intOf i).toNat)
  case atStart => exact ⟨0, Nat.zero_le _, rfl, Four.new w _ _ _ _, Below.alloc (Below.refl _ _) (Nat.le_refl _) _, rfl⟩
  case round =>
    obtain ⟨k, hk, rfl, hR, hU, hsp⟩ := hrel
    by_cases hkl : k < l.length
    · have hrd' := hid (h.at (List.getElem?_eq_getElem hkl))
      obtain ⟨a, ad2, cap2, rfl, _, d0, d1, d2, d3, hrd⟩ := hrd'.out
      have c0 := hU.out.cell (World.block_lt_of_cell? _ _ d0) |>.trans d0
      have c1 := hU.out.cell (World.block_lt_of_cell? _ _ d1) |>.trans d1
      have c2 := hU.out.cell (World.block_lt_of_cell? _ _ d2) |>.trans d2
      have c3 := hU.out.cell (World.block_lt_of_cell? _ _ d3) |>.trans d3
      have hrd2 := hid hrd
      have hst := hid (findE_drop hkl t)
      clear hrd hrd' d0 d1 d2 d3
      generalize l[k] = x at c0 c1 c2 c3 hrd2 hst
      have hX := (Four.new wr (.int .i64 x.1) (.string (bs x.2.1)) (.string (bs x.2.2.1)) (.slice ad2 x.2.2.2.length cap2)).cells
      obtain ⟨⟨x0, x1, x2, x3⟩, _⟩ := hX
      have U1 := hid (Below.alloc hU.out hU.out.size (.cells #[.int .i64 x.1, .string (bs x.2.1), .string (bs x.2.2.1), .slice ad2 x.2.2.2.length cap2] 73))
      have R1 := hid (hR.out.keep (Below.heap_alloc wr (.cells #[.int .i64 x.1, .string (bs x.2.1), .string (bs x.2.2.1), .slice ad2 x.2.2.2.length cap2] 73) _ (by have := hR.out.lt; omega)))
      obtain ⟨⟨r0, r1, r2, r3⟩, s0, s1, s2, s3⟩ := R1.out.cells
      by_cases ht : x.1 = t
      · have hd : (x.1 == t) = true := by simpa using ht
        have hF := hid (show findE l t = some x by rw [hsp.out, hst.out, if_pos ht])
        clear ht
        go_wp2
        (try simp only [Exit.inBlock, Exit.then])
        refine bodyPost_ret (v := elV x (.slice ad2 x.2.2.2.length cap2)) (by simp [results, Tryz.results109, go_sem, r0, r1, r2, r3, elV]) rfl ?_
        exact ⟨(((U1.out.setCell (Nat.le_refl _) _).setCell (Nat.le_refl _) _).setCell (Nat.le_refl _) _).setCell (Nat.le_refl _) _, Or.inr ⟨x, _, hF.out, rfl, hrd2.out⟩⟩
      · have hd : (x.1 == t) = false := by simpa using ht
        have hF := hid (show findE l t = findE (l.drop (k + 1)) t by rw [hsp.out, hst.out, if_neg ht])
        clear ht
        go_wp2
        go_roundw
        case rel => exact ⟨k + 1, by omega, by go_num, R1, U1, hF⟩
        case measure => simp [intOf]; omega
    · have hF := hid (show findE l t = none by rw [hsp.out, List.drop_eq_nil_of_le (by omega)]; rfl)
      obtain ⟨⟨r0, r1, r2, r3⟩, s0, s1, s2, s3⟩ := hR.out.cells
      go_wp2
      (try simp only [Exit.inBlock, Exit.then])
      refine bodyPost_ret (v := zeroE) (by simp [results, Tryz.results109, go_sem, r0, r1, r2, r3, zeroE]) rfl ?_
      exact ⟨(((hU.out.setCell (Nat.le_refl _) _).setCell (Nat.le_refl _) _).setCell (Nat.le_refl _) _).setCell (Nat.le_refl _) _, Or.inl ⟨hF.out, rfl⟩⟩
/-- What is wrong with a pattern of a kind. -/
def patE {n : Nat} (x : El (n + 1)) (k : By) : Int := if x.2.1 ≠ k then 2 else matchE k x.2.2.1 []
set_option maxRecDepth 20000 in
theorem checkPattern_any {n : Nat} (x : El (n + 1)) (ad : Option Addr) (m c : Nat) (k : By) (w : World) (hp : x.2.2.1.length ≤ 64) (hv : Vars w) :
    Calls Tryz.prog 177 #[.agg #[.int .i64 x.1, .string (bs x.2.1), .string (bs x.2.2.1), .slice ad m c], .string (bs k)] w fun e w' => e = .returned (.int .i64 (patE x k)) ∧ Below w.heap.size w w' := by
  have C := hid (fun (W : World) (hW : Vars W) => Match_any (bs k) (bs x.2.2.1) ⟨#[]⟩ W (by rw [bs_size]; omega) (by decide) hW)
  have V := hid hv
  have x1 := bs_toList x.2.1
  have x2 := bs_toList k
  have hE := hid (show matchE (bs k).data.toList (bs x.2.2.1).data.toList (⟨#[]⟩ : ByteArray).data.toList = matchE k x.2.2.1 [] from rfl)
  have hP := hid (show patE x k = if x.2.1 ≠ k then 2 else matchE k x.2.2.1 [] from rfl)
  clear hv
  generalize patE x k = pe at hP ⊢
  generalize hkd : x.2.1 = kd at x1 hP ⊢
  clear hkd
  by_cases hk : kd = k
  · subst hk
    have hF := hid (hP.out.trans (if_neg (fun h => h rfl)))
    clear hP
    go_enter Tryz.func177, Tryz.ntmps177
    go_wp2_with fail
    go_at_call 12
    refine (C.out _ (Vars.up V.out (Below.alloc (Below.refl _ _) (Nat.le_refl _) _))).mono ?_
    rintro e w1 ⟨rfl, u1⟩
    have U := hid ((Below.alloc (Below.refl _ _) (Nat.le_refl _) _).trans (Below.mono u1 (by simp)))
    clear u1 C
    rw [hE.out, ← hF.out]
    clear hF hE
    generalize matchV _ _ _ = vv
    go_wp2
    go_ret
    exact ⟨rfl, U.out⟩
  · have hF := hid (hP.out.trans (if_pos hk))
    have hb : (kd == k) = false := beq_eq_false_iff_ne.2 hk
    clear hP hk hE C
    go_enter Tryz.func177, Tryz.ntmps177
    go_wp2
    go_ret
    rw [hF.out]
    exact ⟨rfl, Below.alloc (Below.refl _ _) (Nat.le_refl _) _⟩
/-- What is wrong with a key in parts. -/
def kipE {n : Nat} (x : El (n + 1)) : Int := if isWord x.1 = true then patE x LO else 11
set_option maxRecDepth 20000 in
theorem checkKeyInParts_any {n : Nat} (x : El (n + 1)) (ad : Option Addr) (m c : Nat) (w : World) (hp : x.2.2.1.length ≤ 64) (hv : Vars w) :
    Calls Tryz.prog 229 #[.agg #[.int .i64 x.1, .string (bs x.2.1), .string (bs x.2.2.1), .slice ad m c]] w fun e w' => e = .returned (.int .i64 (kipE x)) ∧ Below w.heap.size w w' := by
  have C := hid (fun (W : World) (hW : Vars W) => checkPattern_any x ad m c LO W hp hW)
  have V := hid hv
  have hP := hid (show kipE x = if isWord x.1 = true then patE x LO else 11 from rfl)
  clear hv
  go_enter Tryz.func229, Tryz.ntmps229
  go_wp2_with fail
  go_at_call 260
  refine (isInParts_any _ x.1).mono ?_
  rintro e w1 ⟨rfl, rfl⟩
  generalize hw : isWord x.1 = b at hP ⊢
  clear hw
  cases b
  · go_wp2
    go_ret
    rw [hP.out]
    exact ⟨rfl, Below.alloc (Below.refl _ _) (Nat.le_refl _) _⟩
  · go_wp2_with fail
    go_at_call 177
    refine (C.out _ (Vars.up V.out (Below.alloc (Below.refl _ _) (Nat.le_refl _) _))).mono ?_
    rintro e w1 ⟨rfl, u1⟩
    have U := hid ((Below.alloc (Below.refl _ _) (Nat.le_refl _) _).trans (Below.mono u1 (by simp)))
    clear u1 C
    have hF := hid (hP.out.trans (if_pos trivial))
    rw [← hF.out]
    go_wp2
    go_ret
    exact ⟨rfl, U.out⟩
end Go.Proofs.YtaokifbpakbgdaaGreatDoor

/- Package archive, queries: levelOf, checkAskedParts, checkKey. -/
namespace Go.Proofs.YtaokifbpakbgdaaGreatDoor
open Go.RowKit

/-- The words of the levels lie there. -/
def LevelsV (w : World) : Prop := ∀ i, i < 4 → w.cell? ⟨0, i, none⟩ = some (.string (bs (wordL i)))
theorem LevelsV.up {w w' : World} (h : LevelsV w) (k : Below w.heap.size w w') : LevelsV w' := fun i hi => (k.cell (World.block_lt_of_cell? _ _ (h i hi))).trans (h i hi)
abbrev levsV : Value := .agg #[.string ⟨#[80, 65, 84, 73, 69, 78, 84]⟩, .string ⟨#[83, 84, 85, 68, 89]⟩, .string ⟨#[83, 69, 82, 73, 69, 83]⟩, .string ⟨#[73, 77, 65, 71, 69]⟩]
set_option maxRecDepth 20000 in
set_option maxHeartbeats 2000000 in
theorem levelOf_any (n : Nat) (F : Nat → Prop) (w : World) (v : Value) (l : List (El (n + 1))) (h : Rd w F (n + 1) v l) (hl : l.length ≤ 24) (hL : LevelsV w) :
    Calls Tryz.prog 60 #[v] w fun e w' => e = .returned (.int .i64 (levO l)) ∧ Below w.heap.size w w' := by
  obtain ⟨ad, cap, rfl⟩ := h.slice
  have H := hid h
  have HL := hid hL
  clear h hL
  go_enter Tryz.func60, Tryz.ntmps60
  go_wp2_with fail
  go_at_call 109
  refine (elementOf_any n F w _ l 524370 H.out hl).mono ?_
  rintro e w1 ⟨u1, hf⟩
  have hx : ∃ (t : Int) (kd vl : By) (iv : Value), e = .returned (.agg #[.int .i64 t, .string (bs kd), .string (bs vl), iv]) ∧ Hid (levO l = lvI (decide (kd = [67, 83])) vl [0, 1, 2, 3]) ∧ ∃ ad2 n2 cap2, iv = .slice ad2 n2 cap2 := by
    rcases hf with ⟨h1, h2⟩ | ⟨x, iv, h1, h2, h3⟩
    · exact ⟨0, [], [], .slice none 0 0, h2, by unfold Hid levO; rw [h1, decide_eq_false (by decide), lvI_false], _, _, _, rfl⟩
    · obtain ⟨ad2, cap2, h4⟩ := h3.slice
      exact ⟨x.1, x.2.1, x.2.2.1, iv, h2, by unfold Hid levO; rw [h1], _, _, _, h4⟩
  obtain ⟨t, kd, vl, iv, rfl, hL, ad2, n2, cap2, rfl⟩ := hx
  have U1 := hid (Below.alloc u1 u1.size (.cells #[.int .i64 t, .string (bs kd), .string (bs vl), .slice ad2 n2 cap2] 73))
  have hX := (Four.new w1 (.int .i64 t) (.string (bs kd)) (.string (bs vl)) (.slice ad2 n2 cap2)).cells
  obtain ⟨⟨x0, x1, x2, x3⟩, _⟩ := hX
  have HG := HL.out.up U1.out
  have n0 : (w1.alloc (.cells #[.int .i64 t, .string (bs kd), .string (bs vl), .slice ad2 n2 cap2] 73)).cell? ⟨0, 0, none⟩ = some (.string ⟨#[80, 65, 84, 73, 69, 78, 84]⟩) := HG 0 (by omega)
  have n1 : (w1.alloc (.cells #[.int .i64 t, .string (bs kd), .string (bs vl), .slice ad2 n2 cap2] 73)).cell? ⟨0, 1, none⟩ = some (.string ⟨#[83, 84, 85, 68, 89]⟩) := HG 1 (by omega)
  have n2' : (w1.alloc (.cells #[.int .i64 t, .string (bs kd), .string (bs vl), .slice ad2 n2 cap2] 73)).cell? ⟨0, 2, none⟩ = some (.string ⟨#[83, 69, 82, 73, 69, 83]⟩) := HG 2 (by omega)
  have n3 : (w1.alloc (.cells #[.int .i64 t, .string (bs kd), .string (bs vl), .slice ad2 n2 cap2] 73)).cell? ⟨0, 3, none⟩ = some (.string ⟨#[73, 77, 65, 71, 69]⟩) := HG 3 (by omega)
  clear hf u1 H HL HG
  go_wp2_with fail
  generalize (w1.alloc (.cells #[.int .i64 t, .string (bs kd), .string (bs vl), .slice ad2 n2 cap2] 73)) = W at *
  go_loop [9] (fun i => ∃ k : Nat, k ≤ 4 ∧ i = .int .i64 k ∧ Hid (levO l = lvI (decide (kd = [67, 83])) vl ([0, 1, 2, 3].drop k))) (fun i => 4 - (intOf i).toNat)
  case atStart => exact ⟨0, by omega, rfl, hL⟩
  case round =>
    obtain ⟨k, hk, rfl, hE⟩ := hrel
    by_cases hkl : k < 4
    · have hix : (Instr.index 58 levsV (.int .i64 k)).run Tryz.prog W = .ok (.string (bs (wordL k))) W := by
        rcases (show k = 0 ∨ k = 1 ∨ k = 2 ∨ k = 3 by omega) with rfl | rfl | rfl | rfl <;> kernel_rfl
      have hE2 := hid (show levO l = if (decide (kd = [67, 83])) = true ∧ vl = wordL k then (k : Int) else lvI (decide (kd = [67, 83])) vl ([0, 1, 2, 3].drop (k + 1)) by rw [hE.out, drop4 hkl, lvI])
      clear hE
      have y1 := bs_toList kd
      have y2 := bs_toList vl
      have y3 := bs_toList (wordL k)
      generalize hw : wordL k = wd at hix y3 hE2
      clear hw
      by_cases hkd : kd = [67, 83]
      · by_cases hv : vl = wd
        · have hF := hid (hE2.out.trans (if_pos ⟨by simp [hkd], hv⟩))
          clear hE2
          subst hkd; subst hv
          go_wp2
          go_ret
          rw [hF.out]
          exact ⟨rfl, U1.out⟩
        · have hF := hid (hE2.out.trans (if_neg (fun h => hv h.2)))
          have hv2 : (vl == wd) = false := beq_eq_false_iff_ne.2 hv
          clear hE2
          subst hkd
          go_wp2
          go_round
          case rel => exact ⟨k + 1, by omega, by go_num, hF⟩
          case measure => simp [intOf]; omega
      · have hF := hid (hE2.out.trans (if_neg (fun h => hkd (by simpa using h.1))))
        have hk2 : (kd == [67, 83]) = false := beq_eq_false_iff_ne.2 hkd
        clear hE2
        go_wp2
        go_round
        case rel => exact ⟨k + 1, by omega, by go_num, hF⟩
        case measure => simp [intOf]; omega
    · obtain rfl : k = 4 := by omega
      have hF := hid (show levO l = -1 from hE.out)
      clear hE
      go_wp2
      go_ret
      rw [hF.out]
      exact ⟨rfl, U1.out⟩
end Go.Proofs.YtaokifbpakbgdaaGreatDoor

/- Package archive, queries: checkAskedParts, checkKey. -/
namespace Go.Proofs.YtaokifbpakbgdaaGreatDoor
open Go.RowKit

/-- The first thing wrong. -/
def fstE {α : Type} (f : α → Int) : List α → Int
  | [] => 0
  | x :: l => if f x ≠ 0 then f x else fstE f l
theorem fstE_drop {α : Type} (f : α → Int) {l : List α} {k : Nat} (h : k < l.length) : fstE f (l.drop k) = if f l[k] ≠ 0 then f l[k] else fstE f (l.drop (k + 1)) := by rw [List.drop_eq_getElem_cons h, fstE]
theorem fstE_end {α : Type} (f : α → Int) {l : List α} {k : Nat} (h : l.length ≤ k) : fstE f (l.drop k) = 0 := by rw [List.drop_eq_nil_of_le h, fstE]
/-- What is wrong with the parts that are asked for. -/
def askPE {n : Nat} (its : Its (n + 1)) : Int := if 1 < its.length then 4 else fstE (fun s => fstE kipE s) its
set_option maxRecDepth 20000 in
set_option maxHeartbeats 2000000 in
theorem checkAskedParts_any (n : Nat) (F : Nat → Prop) (w : World) (v : Value) (its : Its (n + 1)) (h : RdI w F (n + 1) v its) (hl : its.length ≤ 8) (hs : ∀ s ∈ its, s.length ≤ 24 ∧ ∀ x ∈ s, x.2.2.1.length ≤ 64) (hv : Vars w) :
    Calls Tryz.prog 176 #[v] w fun e w' => e = .returned (.int .i64 (askPE its)) ∧ Below w.heap.size w w' := by
  obtain ⟨ad, cap, rfl⟩ := h.slice
  have H := hid h
  have HS := hid hs
  have V := hid hv
  clear h hs hv
  go_enter Tryz.func176, Tryz.ntmps176
  by_cases h1 : 1 < its.length
  · have hF := hid (show askPE its = 4 from if_pos h1)
    have h2 : (1 : Int) < its.length := by omega
    go_wp2
    go_ret
    rw [hF.out]
    exact ⟨rfl, Below.refl _ _⟩
  have hF0 := hid (show askPE its = fstE (fun s => fstE kipE s) its from if_neg h1)
  have h2 : ¬ (1 : Int) < its.length := by omega
  clear h1
  go_wp2_with fail
  go_loopw [13] (fun i wr => ∃ k : Nat, k ≤ its.length ∧ i = .int .i64 k ∧ Hid (Below w.heap.size w wr) ∧ Hid (askPE its = fstE (fun s => fstE kipE s) (its.drop k))) (fun i _ => its.length - (intOf i).toNat)
  case atStart => exact ⟨0, Nat.zero_le _, rfl, Below.refl _ _, hF0⟩
  case round =>
    obtain ⟨k, hk, rfl, hU, hE⟩ := hrel
    by_cases hkl : k < its.length
    · have hat := hid ((H.out.up hU.out).at (List.getElem?_eq_getElem hkl))
      obtain ⟨a, ad2, cap2, rfl, _, c0, hrd⟩ := hat.out
      have hsl := hid (HS.out _ (List.getElem_mem hkl))
      have hst := hid (hE.out.trans (fstE_drop _ hkl))
      have hrd2 := hid hrd
      clear hrd hat hE
      generalize its[k] = s at c0 hrd2 hst hsl
      have hs24 := hsl.out.1
      obtain ⟨wA, rfl⟩ : ∃ wA, wA = wr := ⟨_, rfl⟩
      have u0 : Below wA.heap.size wA (wA.alloc (.cells #[.slice ad2 s.length cap2] 182)) := Below.alloc (Below.refl _ _) (Nat.le_refl _) _
      have hrd3 := hid (hrd2.out.up u0)
      have U1 := hid (hU.out.trans (u0.mono hU.out.size))
      clear u0 hrd2
      go_wp2_with fail
      go_loopw [20] (fun i wq => ∃ q : Nat, q ≤ s.length ∧ i = .int .i64 q ∧ Hid (Below (wA.alloc (.cells #[.slice ad2 s.length cap2] 182)).heap.size (wA.alloc (.cells #[.slice ad2 s.length cap2] 182)) wq) ∧ Hid (fstE kipE s = fstE kipE (s.drop q))) (fun i _ => s.length - (intOf i).toNat)
      case atStart => exact ⟨0, Nat.zero_le _, rfl, Below.refl _ _, rfl⟩
      case round =>
        obtain ⟨q, hq, rfl, hU2, hE2⟩ := hrel
        by_cases hql : q < s.length
        · have hat := hid ((hrd3.out.up hU2.out).at (List.getElem?_eq_getElem hql))
          obtain ⟨a3, ad3, cap3, rfl, _, d0, d1, d2, d3, _⟩ := hat.out
          have hy := hid (hsl.out.2 _ (List.getElem_mem hql))
          have hst2 := hid (hE2.out.trans (fstE_drop _ hql))
          clear hat hE2
          generalize s[q] = y at d0 d1 d2 d3 hy hst2
          have u1 := Below.alloc (Below.refl wr.heap.size wr) (Nat.le_refl _) (.cells #[.int .i64 y.1, .string (bs y.2.1), .string (bs y.2.2.1), .slice ad3 y.2.2.2.length cap3] 73)
          have hX := (Four.new wr (.int .i64 y.1) (.string (bs y.2.1)) (.string (bs y.2.2.1)) (.slice ad3 y.2.2.2.length cap3)).cells
          obtain ⟨⟨x0, x1, x2, x3⟩, _⟩ := hX
          go_wp2_with fail
          go_at_call 229
          refine (checkKeyInParts_any y ad3 y.2.2.2.length cap3 _ hy.out (V.out.up ((U1.out.trans (hU2.out.mono U1.out.size)).trans (u1.mono (Nat.le_trans U1.out.size hU2.out.size))))).mono ?_
          rintro e w2 ⟨rfl, u2⟩
          have U2 := hid (hU2.out.trans ((u1.trans (u2.mono u1.size)).mono hU2.out.size))
          clear u1 u2
          generalize kipE y = c at hst2 ⊢
          by_cases hc : c = 0
          · have hF := hid (hst2.out.trans (if_neg (fun h => h hc)))
            subst hc
            clear hst2
            go_wp2
            go_roundw
            case rel => exact ⟨q + 1, by omega, by go_num, U2, hF⟩
            case measure => simp [intOf]; omega
          · have hF := hid (hst2.out.trans (if_pos hc))
            have hc2 : (c == 0) = false := beq_eq_false_iff_ne.2 hc
            clear hst2
            have hG := hid (hst.out.trans (by simp only [hF.out]; exact if_pos hc))
            go_wp2
            go_ret
            rw [hG.out]
            exact ⟨rfl, U1.out.trans (U2.out.mono U1.out.size)⟩
        · have hF := hid (hE2.out.trans (fstE_end _ (by omega)))
          have hG := hid (hst.out.trans (if_neg (fun h => h hF.out)))
          clear hE2 hst
          go_wp2
          go_roundw
          case rel => exact ⟨k + 1, by omega, by go_num, U1.out.trans (hU2.out.mono U1.out.size), hG⟩
          case measure => simp [intOf]; omega
    · have hF := hid (hE.out.trans (fstE_end _ (by omega)))
      clear hE
      go_wp2
      go_ret
      rw [hF.out]
      exact ⟨rfl, hU.out⟩
/-- What is wrong with a key. -/
def keyE {n : Nat} (lvl : Int) (x : El (n + 2)) : Int := if lvl < rowT x.1 then 11 else if x.1 = 533016 ∧ x.2.1 = SQ then askPE x.2.2.2 else patE x (kindT x.1)
set_option maxRecDepth 20000 in
set_option maxHeartbeats 2000000 in
theorem checkKey_any (n : Nat) (F : Nat → Prop) (w : World) (x : El (n + 2)) (ad : Option Addr) (m c : Nat) (lvl : Int) (h : RdI w F (n + 1) (.slice ad m c) x.2.2.2) (hp : x.2.2.1.length ≤ 64) (hl : x.2.2.2.length ≤ 8) (hs : ∀ s ∈ x.2.2.2, s.length ≤ 24 ∧ ∀ x ∈ s, x.2.2.1.length ≤ 64) (hv : Vars w) :
    Calls Tryz.prog 110 #[.agg #[.int .i64 x.1, .string (bs x.2.1), .string (bs x.2.2.1), .slice ad m c], .int .i64 lvl] w fun e w' => e = .returned (.int .i64 (keyE lvl x)) ∧ Below w.heap.size w w' := by
  have u1 := Below.alloc (Below.refl w.heap.size w) (Nat.le_refl _) (.cells #[.int .i64 x.1, .string (bs x.2.1), .string (bs x.2.2.1), .slice ad m c] 73)
  have U1 := hid u1
  have V := hid (hv.up u1)
  have H := hid (h.up u1)
  have HS := hid hs
  have hE := hid (show keyE lvl x = if lvl < rowT x.1 then 11 else if x.1 = 533016 ∧ x.2.1 = SQ then askPE x.2.2.2 else patE x (kindT x.1) from rfl)
  have hX := (Four.new w (.int .i64 x.1) (.string (bs x.2.1)) (.string (bs x.2.2.1)) (.slice ad m c)).cells
  obtain ⟨⟨x0, x1, x2, x3⟩, _⟩ := hX
  clear h hs hv u1
  go_enter Tryz.func110, Tryz.ntmps110
  go_wp2_with fail
  go_at_call 175
  refine (rowOf_any _ x.1).mono ?_
  rintro e w1 ⟨rfl, rfl⟩
  generalize rowT x.1 = r at hE ⊢
  by_cases hr : lvl < (r : Int)
  · have hF := hid (hE.out.trans (if_pos hr))
    clear hE
    go_wp2
    go_ret
    rw [hF.out]
    exact ⟨rfl, U1.out⟩
  have hE2 := hid (hE.out.trans (if_neg hr))
  clear hE
  by_cases ht : x.1 = 533016 ∧ x.2.1 = SQ
  · have hF := hid (hE2.out.trans (if_pos ht))
    have ht1 : (x.1 == 533016) = true := by simpa using ht.1
    have ht2 : (bs x.2.1).toList = [83, 81] := by rw [bs_toList]; exact ht.2
    clear hE2 ht
    go_wp2_with fail
    go_at_call 176
    refine (checkAskedParts_any n F _ _ x.2.2.2 H.out hl HS.out V.out).mono ?_
    rintro e w1 ⟨rfl, u2⟩
    have U2 := hid (U1.out.trans (u2.mono (by simp)))
    clear u2
    rw [← hF.out]
    go_wp2
    go_ret
    exact ⟨rfl, U2.out⟩
  · have hF := hid (hE2.out.trans (if_neg ht))
    have C := hid (fun (W : World) (hW : Vars W) (k : By) => checkPattern_any x ad m c k W hp hW)
    have K := hid (fun (W : World) => kindOf_any W x.1)
    clear hE2
    have y1 := bs_toList x.2.1
    generalize hk : kindT x.1 = kd at hF K
    clear hk
    by_cases a1 : x.1 = 533016
    · have hk2 : (x.2.1 == [83, 81]) = false := beq_eq_false_iff_ne.2 (fun a2 => ht ⟨a1, a2⟩)
      have a2 : (x.1 == 533016) = true := by simpa using a1
      clear ht a1
      go_wp2_with fail
      go_region_with (first | (go_at_call 178; refine (K.out _).mono ?_; rintro e w1 ⟨rfl, rfl⟩) | (go_at_call 177; refine (C.out _ (V.out.up (Below.drew (Below.refl _ _))) kd).mono ?_; rintro e w1 ⟨rfl, u2⟩))
      all_goals
        have U2 := hid (U1.out.drew.trans (u2.mono U1.out.drew.size))
        clear u2
        rw [← hF.out]
        go_wp2
        go_ret
        exact ⟨rfl, U2.out⟩
    · have a2 : (x.1 == 533016) = false := by simpa using a1
      clear ht a1
      go_wp2_with fail
      go_region_with (first | (go_at_call 178; refine (K.out _).mono ?_; rintro e w1 ⟨rfl, rfl⟩) | (go_at_call 177; refine (C.out _ (V.out.up (Below.drew (Below.refl _ _))) kd).mono ?_; rintro e w1 ⟨rfl, u2⟩))
      all_goals
        have U2 := hid (U1.out.drew.trans (u2.mono U1.out.drew.size))
        clear u2
        rw [← hF.out]
        go_wp2
        go_ret
        exact ⟨rfl, U2.out⟩
end Go.Proofs.YtaokifbpakbgdaaGreatDoor
