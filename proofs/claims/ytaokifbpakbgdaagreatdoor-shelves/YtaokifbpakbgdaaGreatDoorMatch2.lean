/-
  What isPattern, fits and Match of package value answer.
-/
import Derived.Test.YtaokifbpakbgdaaGreatDoorMatch1
namespace Go.Proofs.YtaokifbpakbgdaaGreatDoor
open Go.RowKit

theorem ip_text (k p : ByteArray) (w : World) (hp : p.size < 4294967281) (hk : k.toList = [76, 79] ∨ k.toList = [80, 78] ∨ k.toList = [67, 83]) :
    Calls Tryz.prog 39 #[.string k, .string p] w fun e w' => e = .returned (.bool (isPatB k.data.toList p.data.toList)) ∧ Up w w' := by
  have hF : Hid (isPatB k.data.toList p.data.toList = isTextB p.data.toList) := by
    unfold Hid isPatB; rw [← Lib.toList_data k, if_pos hk]
  rcases hk with hk | hk | hk <;>
  (go_enter Tryz.func39, Tryz.ntmps39
   go_wp2_with (go_at_call 65; refine (isText_any _ _ (by omega)).mono ?_; rintro e w' ⟨rfl, rfl⟩)
   go_ret
   exact ⟨vret_bool hF.out.symm, Up.refl _⟩)
theorem ip_name (k p : ByteArray) (w : World) (hp : p.size < 4294967281) (hv : Vars w) (hk : k.toList = [85, 73]) :
    Calls Tryz.prog 39 #[.string k, .string p] w fun e w' => e = .returned (.bool (isPatB k.data.toList p.data.toList)) ∧ Up w w' := by
  have hF : Hid (isPatB k.data.toList p.data.toList = (spl 92 p.data.toList).all fun x => decide (chkF k.data.toList x = 0)) := by
    unfold Hid isPatB; rw [← Lib.toList_data k, hk]; rfl
  go_enter Tryz.func39, Tryz.ntmps39
  go_wp2_with fail
  go_at_call 67; refine (alternatives_any _ _ hp hv).mono ?_; rintro e w1 ⟨b, zs, rfl, hz, hzl, hzc, hu1⟩
  go_wp2_with fail
  go_at_call 66; refine (allFilled_any k b zs _ (hv.up hu1) (by omega) (hid fun z hz' => ?_) hzc).mono ?_
  · obtain ⟨j, hj, rfl⟩ := List.getElem_of_mem hz'
    have := part_size hz.out hj
    rw [len_list] at this; omega
  rintro e w2 ⟨rfl, hu2⟩
  go_wp2_with fail
  go_ret
  exact ⟨vret_bool (by rw [hF.out, of_parts hz.out]), hu1.trans hu2⟩
theorem ip_span (k p : ByteArray) (w : World) (hp : p.size < 4294967281) (hv : Vars w) (hk : k.toList = [68, 65] ∨ k.toList = [84, 77]) :
    Calls Tryz.prog 39 #[.string k, .string p] w fun e w' => e = .returned (.bool (isPatB k.data.toList p.data.toList)) ∧ Up w w' := by
  have hF : Hid (isPatB k.data.toList p.data.toList = spanB k.data.toList p.data.toList) := by
    unfold Hid isPatB; rw [← Lib.toList_data k]; rcases hk with hk | hk <;> rw [hk] <;> rfl
  rcases hk with hk | hk <;>
  (go_enter Tryz.func39, Tryz.ntmps39
   go_wp2_with (go_at_call 68; refine (isSpan_any _ _ _ hp hv).mono ?_; rintro e w' ⟨rfl, hup⟩)
   go_ret
   exact ⟨vret_bool hF.out.symm, hup⟩)
theorem ip_num (k p : ByteArray) (w : World) (hp : p.size < 4294967281) (hv : Vars w) (hk : k.toList = [73, 83]) :
    Calls Tryz.prog 39 #[.string k, .string p] w fun e w' => e = .returned (.bool (isPatB k.data.toList p.data.toList)) ∧ Up w w' := by
  have hF : Hid (isPatB k.data.toList p.data.toList = decide (chkF k.data.toList p.data.toList = 0)) := by
    unfold Hid isPatB; rw [← Lib.toList_data k, hk]; rfl
  go_enter Tryz.func39, Tryz.ntmps39
  go_wp2_with (go_at_call 41; refine (checkFilled_any _ _ _ (by omega) hv).mono ?_; rintro e w' ⟨rfl, hup⟩)
  go_ret
  exact ⟨vret_bool (by rw [hF.out]; rfl), hup⟩
/-- The kinds. -/
def IsKind (k : Bs) : Prop := k = [76, 79] ∨ k = [80, 78] ∨ k = [67, 83] ∨ k = [85, 73] ∨ k = [68, 65] ∨ k = [84, 77] ∨ k = [73, 83]
theorem isPattern_any (k p : ByteArray) (w : World) (hp : p.size < 4294967281) (hv : Vars w) (hk : IsKind k.toList) :
    Calls Tryz.prog 39 #[.string k, .string p] w fun e w' => e = .returned (.bool (isPatB k.data.toList p.data.toList)) ∧ Up w w' := by
  rcases hk with h | h | h | h | h | h | h
  · exact ip_text k p w hp (Or.inl h)
  · exact ip_text k p w hp (Or.inr (Or.inl h))
  · exact ip_text k p w hp (Or.inr (Or.inr h))
  · exact ip_name k p w hp hv h
  · exact ip_span k p w hp hv (Or.inl h)
  · exact ip_span k p w hp hv (Or.inr h)
  · exact ip_num k p w hp hv h

/-- Bytes below 128. -/
def Ascii (l : Bs) : Prop := ∀ (j : Nat) (b : UInt8), l[j]? = some b → b.toNat < 128
theorem fits_PN (k p v : ByteArray) (w : World) (hp : p.size < 4294967281) (hvs : v.size < 4294967281) (hk : k.toList = [80, 78]) (ap : Ascii p.data.toList) (av : Ascii v.data.toList) :
    Calls Tryz.prog 40 #[.string k, .string p, .string v] w fun e w' => e = .returned (.bool (fitsB k.data.toList p.data.toList v.data.toList)) ∧ Up w w' := by
  have hF : Hid (fitsB k.data.toList p.data.toList v.data.toList = glob (Lib.toLowerA p.data.toList) (Lib.toLowerA v.data.toList)) := by
    unfold Hid fitsB; rw [← Lib.toList_data k, hk]; rfl
  have AP := hid ap
  have AV := hid av
  clear ap av
  have l1 : (⟨(Lib.toLowerA p.data.toList).toArray⟩ : ByteArray).size ≤ 9223372036854775806 := by rw [mk_size]; simp [Lib.toLowerA]; omega
  have l2 : (⟨(Lib.toLowerA v.data.toList).toArray⟩ : ByteArray).size ≤ 9223372036854775806 := by rw [mk_size]; simp [Lib.toLowerA]; omega
  have c := fun w => fitsText_any ⟨(Lib.toLowerA p.data.toList).toArray⟩ ⟨(Lib.toLowerA v.data.toList).toArray⟩ w l1 l2
  simp only at c
  have C := hid c
  clear c l1 l2
  go_enter Tryz.func40, Tryz.ntmps40
  go_wp2_with fail
  go_at_call 70; refine (Tryz.strings_ToLower_ascii p _ (by omega) AP.out).mono ?_; rintro e w1 ⟨rfl, hu1⟩
  go_wp2_with fail
  go_at_call 70; refine (Tryz.strings_ToLower_ascii v _ (by omega) AV.out).mono ?_; rintro e w2 ⟨rfl, hu2⟩
  go_wp2_with fail
  go_at_call 69; refine (C.out _).mono ?_; rintro e w3 ⟨rfl, hu3⟩
  go_wp2_with fail
  go_ret
  exact ⟨vret_bool hF.out.symm, (Up.trans hu1 hu2).trans hu3⟩
theorem fits_LO (k p v : ByteArray) (w : World) (hp : p.size < 4294967281) (hvs : v.size < 4294967281) (hk : k.toList = [76, 79] ∨ k.toList = [67, 83]) :
    Calls Tryz.prog 40 #[.string k, .string p, .string v] w fun e w' => e = .returned (.bool (fitsB k.data.toList p.data.toList v.data.toList)) ∧ Up w w' := by
  have hF : Hid (fitsB k.data.toList p.data.toList v.data.toList = glob p.data.toList v.data.toList) := by
    unfold Hid fitsB; rw [← Lib.toList_data k]; rcases hk with hk | hk <;> rw [hk] <;> rfl
  rcases hk with hk | hk <;>
  (go_enter Tryz.func40, Tryz.ntmps40
   go_wp2_with (go_at_call 69; refine (fitsText_any _ _ _ (by omega) (by omega)).mono ?_; rintro e w' ⟨rfl, hup⟩)
   go_ret
   exact ⟨vret_bool hF.out.symm, hup⟩)
theorem fits_none (k p v : ByteArray) (w : World) (hk : k.toList = [68, 65] ∨ k.toList = [84, 77] ∨ k.toList = [73, 83] ∨ k.toList = [85, 73]) (hv0 : v.toList = []) :
    Calls Tryz.prog 40 #[.string k, .string p, .string v] w fun e w' => e = .returned (.bool (fitsB k.data.toList p.data.toList v.data.toList)) ∧ Up w w' := by
  have hF : Hid (fitsB k.data.toList p.data.toList v.data.toList = false) := by
    unfold Hid fitsB; rw [← Lib.toList_data k, ← Lib.toList_data v, hv0]; rcases hk with hk | hk | hk | hk <;> rw [hk] <;> rfl
  rcases hk with hk | hk | hk | hk <;>
  (go_enter Tryz.func40, Tryz.ntmps40
   go_wp2
   go_ret
   exact ⟨vret_bool hF.out.symm, Up.refl _⟩)
theorem fits_DA (k p v : ByteArray) (w : World) (hp : p.size < 4294967281) (hv : Vars w) (hk : k.toList = [68, 65]) (hv0 : ¬ v.toList = []) :
    Calls Tryz.prog 40 #[.string k, .string p, .string v] w fun e w' => e = .returned (.bool (fitsB k.data.toList p.data.toList v.data.toList)) ∧ Up w w' := by
  have hF : Hid (fitsB k.data.toList p.data.toList v.data.toList = fitsDateB p.data.toList v.data.toList) := by
    unfold Hid fitsB; rw [← Lib.toList_data k, ← Lib.toList_data v, hk, if_neg (by decide), if_neg (by decide), if_neg hv0, if_pos rfl]
  have hie : v.toList.isEmpty = false := by simpa using hv0
  go_enter Tryz.func40, Tryz.ntmps40
  go_wp2_with (go_at_call 71; refine (fitsDate_any _ _ _ hp hv).mono ?_; rintro e w' ⟨rfl, hup⟩)
  go_ret
  exact ⟨vret_bool hF.out.symm, hup⟩
theorem fits_TM (k p v : ByteArray) (w : World) (hp : p.size < 4294967281) (hvs : v.size < 4294967281) (hv : Vars w) (hk : k.toList = [84, 77]) (hv0 : ¬ v.toList = []) :
    Calls Tryz.prog 40 #[.string k, .string p, .string v] w fun e w' => e = .returned (.bool (fitsB k.data.toList p.data.toList v.data.toList)) ∧ Up w w' := by
  have hF : Hid (fitsB k.data.toList p.data.toList v.data.toList = fitsTimeB p.data.toList v.data.toList) := by
    unfold Hid fitsB; rw [← Lib.toList_data k, ← Lib.toList_data v, hk, if_neg (by decide), if_neg (by decide), if_neg hv0, if_neg (by decide), if_pos rfl]
  have hie : v.toList.isEmpty = false := by simpa using hv0
  go_enter Tryz.func40, Tryz.ntmps40
  go_wp2_with (go_at_call 72; refine (fitsTime_any _ _ _ hp (by omega) hv).mono ?_; rintro e w' ⟨rfl, hup⟩)
  go_ret
  exact ⟨vret_bool hF.out.symm, hup⟩
theorem fits_IS (k p v : ByteArray) (w : World) (hp : p.size < 4294967281) (hvs : v.size < 4294967281) (hv : Vars w) (hk : k.toList = [73, 83]) (hv0 : ¬ v.toList = []) :
    Calls Tryz.prog 40 #[.string k, .string p, .string v] w fun e w' => e = .returned (.bool (fitsB k.data.toList p.data.toList v.data.toList)) ∧ Up w w' := by
  have hF : Hid (fitsB k.data.toList p.data.toList v.data.toList = sameB p.data.toList v.data.toList) := by
    unfold Hid fitsB; rw [← Lib.toList_data k, ← Lib.toList_data v, hk, if_neg (by decide), if_neg (by decide), if_neg hv0, if_neg (by decide), if_neg (by decide), if_pos rfl]
  have hie : v.toList.isEmpty = false := by simpa using hv0
  go_enter Tryz.func40, Tryz.ntmps40
  go_wp2_with (go_at_call 73; refine (sameNumber_any _ _ _ (by omega) (by omega) hv).mono ?_; rintro e w' ⟨rfl, hup⟩)
  go_ret
  exact ⟨vret_bool hF.out.symm, hup⟩
theorem fits_UI (k p v : ByteArray) (w : World) (hp : p.size < 4294967281) (hv : Vars w) (hk : k.toList = [85, 73]) (hv0 : ¬ v.toList = []) :
    Calls Tryz.prog 40 #[.string k, .string p, .string v] w fun e w' => e = .returned (.bool (fitsB k.data.toList p.data.toList v.data.toList)) ∧ Up w w' := by
  have hF : Hid (fitsB k.data.toList p.data.toList v.data.toList = decide (v.data.toList ∈ spl 92 p.data.toList)) := by
    unfold Hid fitsB; rw [← Lib.toList_data k, ← Lib.toList_data v, hk, if_neg (by decide), if_neg (by decide), if_neg hv0, if_neg (by decide), if_neg (by decide), if_neg (by decide)]
  have hie : v.toList.isEmpty = false := by simpa using hv0
  go_enter Tryz.func40, Tryz.ntmps40
  go_wp2_with fail
  go_at_call 67; refine (alternatives_any _ _ hp hv).mono ?_; rintro e w1 ⟨b, zs, rfl, hz, hzl, hzc, hu1⟩
  go_wp2_with fail
  go_at_call 74; refine (Tryz.slices_Contains_string b 0 zs.length zs.length zs v _ (Nat.le_refl _) (by omega) (fun j hj => ?_)).mono ?_
  · rw [Nat.zero_add, hzc.out j hj, List.getD, List.getElem?_eq_getElem hj]; rfl
  rintro e w2 ⟨rfl, rfl⟩
  go_wp2_with fail
  go_ret
  refine ⟨vret_bool ?_, hu1⟩
  rw [hF.out, Bool.eq_iff_iff, Lib.containsS_iff, decide_eq_true_eq, ← hz.out, List.mem_map]
  exact ⟨fun h => ⟨v, h, rfl⟩, fun ⟨z, h1, h2⟩ => by rw [← WideShapes.bytes_inj h2]; exact h1⟩
theorem fits_any (k p v : ByteArray) (w : World) (hp : p.size < 4294967281) (hvs : v.size < 4294967281) (hv : Vars w) (hk : IsKind k.toList) (ha : k.toList = [80, 78] → Ascii p.data.toList ∧ Ascii v.data.toList) :
    Calls Tryz.prog 40 #[.string k, .string p, .string v] w fun e w' => e = .returned (.bool (fitsB k.data.toList p.data.toList v.data.toList)) ∧ Up w w' := by
  by_cases hv0 : v.toList = []
  · rcases hk with h | h | h | h | h | h | h
    · exact fits_LO k p v w hp hvs (Or.inl h)
    · exact fits_PN k p v w hp hvs h (ha h).1 (ha h).2
    · exact fits_LO k p v w hp hvs (Or.inr h)
    · exact fits_none k p v w (by simp [h]) hv0
    · exact fits_none k p v w (by simp [h]) hv0
    · exact fits_none k p v w (by simp [h]) hv0
    · exact fits_none k p v w (by simp [h]) hv0
  · rcases hk with h | h | h | h | h | h | h
    · exact fits_LO k p v w hp hvs (Or.inl h)
    · exact fits_PN k p v w hp hvs h (ha h).1 (ha h).2
    · exact fits_LO k p v w hp hvs (Or.inr h)
    · exact fits_UI k p v w hp hv h hv0
    · exact fits_DA k p v w hp hv h hv0
    · exact fits_TM k p v w hp hvs hv h hv0
    · exact fits_IS k p v w hp hvs hv h hv0

/- Match. -/
theorem ascii_text (l : Bs) (h : isTextB l = true) : Ascii l := by
  unfold isTextB at h
  rw [Bool.and_eq_true, List.all_eq_true] at h
  intro j b hb
  have := h.2 b (List.mem_of_getElem? hb)
  simp [textC, nb] at this
  omega
theorem kind_of_chk {k l : Bs} (h : chk k l = 0) : IsKind k := by
  unfold chk chkF at h
  unfold IsKind
  by_cases h1 : k = [67, 83]
  · simp [h1]
  by_cases h2 : k = [80, 78]
  · simp [h2]
  by_cases h3 : k = [76, 79]
  · simp [h3]
  by_cases h4 : k = [85, 73]
  · simp [h4]
  by_cases h5 : k = [68, 65]
  · simp [h5]
  by_cases h6 : k = [84, 77]
  · simp [h6]
  by_cases h7 : k = [73, 83]
  · simp [h7]
  simp [h1, h2, h3, h4, h5, h6, h7] at h
theorem ascii_PN {l : Bs} (h : chk [80, 78] l = 0) : Ascii l := by
  by_cases e : l = []
  · subst e; intro j b hb; simp at hb
  · unfold chk at h
    rw [if_neg (fun c => e c.2)] at h
    have : (decide (l.count 94 ≤ 4) && txtB l) = true := by
      by_cases hc : (decide (l.count 94 ≤ 4) && txtB l) = true
      · exact hc
      · simp only [chkF] at h
        rw [if_neg (by decide), if_pos trivial, if_neg hc] at h
        cases h
    rw [Bool.and_eq_true] at this
    have h2 := this.2
    unfold txtB at h2
    simp only [Bool.and_eq_true] at h2
    exact ascii_text l h2.1.2
theorem Match_any (k p v : ByteArray) (w : World) (hp : p.size < 4294967281) (hvs : v.size < 4294967281) (hv : Vars w) :
    Calls Tryz.prog 12 #[.string k, .string p, .string v] w fun e w' => e = .returned (.tuple #[.bool (matchV k.data.toList p.data.toList v.data.toList), .int .i64 (matchE k.data.toList p.data.toList v.data.toList)]) ∧ Up w w' := by
  by_cases hc : chk k.data.toList v.data.toList = 0
  · have hK : Hid (IsKind k.toList) := by unfold Hid; rw [Lib.toList_data]; exact kind_of_chk hc
    have HC := hid hc
    by_cases hp0 : p.toList = []
    · have hV : Hid (matchV k.data.toList p.data.toList v.data.toList = true) := by unfold Hid matchV; rw [if_neg (fun h => h hc), if_pos (by rw [← Lib.toList_data]; exact hp0)]
      have hE : Hid (matchE k.data.toList p.data.toList v.data.toList = 0) := by unfold Hid matchE; rw [if_neg (fun h => h hc), if_pos (by rw [← Lib.toList_data]; exact hp0)]
      go_enter Tryz.func12, Tryz.ntmps12
      go_wp2_with (go_at_call 13; refine (Check_any _ _ _ (by omega) hv).mono ?_; rintro e w' ⟨rfl, hup⟩)
      go_ret2
      exact ⟨by rw [hV.out, hE.out]; rfl, hup⟩
    · have hie : p.toList.isEmpty = false := by simpa using hp0
      cases hi : isPatB k.data.toList p.data.toList
      · have hV : Hid (matchV k.data.toList p.data.toList v.data.toList = false) := by unfold Hid matchV; rw [if_neg (fun h => h hc), if_neg (by rw [← Lib.toList_data]; exact hp0), hi]; rfl
        have hE : Hid (matchE k.data.toList p.data.toList v.data.toList = 12) := by unfold Hid matchE; rw [if_neg (fun h => h hc), if_neg (by rw [← Lib.toList_data]; exact hp0), hi]; rfl
        go_enter Tryz.func12, Tryz.ntmps12
        go_wp2_with fail
        go_at_call 13; refine (Check_any _ _ _ (by omega) hv).mono ?_; rintro e w1 ⟨rfl, hu1⟩
        go_wp2_with fail
        go_at_call 39; refine (isPattern_any _ _ _ hp (hv.up hu1) hK.out).mono ?_; rintro e w2 ⟨rfl, hu2⟩
        go_wp2_with fail
        go_ret2
        exact ⟨by rw [hV.out, hE.out]; rfl, hu1.trans hu2⟩
      · have hV : Hid (matchV k.data.toList p.data.toList v.data.toList = fitsB k.data.toList p.data.toList v.data.toList) := by unfold Hid matchV; rw [if_neg (fun h => h hc), if_neg (by rw [← Lib.toList_data]; exact hp0), hi]; rfl
        have hE : Hid (matchE k.data.toList p.data.toList v.data.toList = 0) := by unfold Hid matchE; rw [if_neg (fun h => h hc), if_neg (by rw [← Lib.toList_data]; exact hp0), hi]; rfl
        have hA : Hid (k.toList = [80, 78] → Ascii p.data.toList ∧ Ascii v.data.toList) := by
          intro hk
          rw [Lib.toList_data] at hk
          rw [hk] at hc hi
          exact ⟨ascii_text _ hi, ascii_PN hc⟩
        go_enter Tryz.func12, Tryz.ntmps12
        go_wp2_with fail
        go_at_call 13; refine (Check_any _ _ _ (by omega) hv).mono ?_; rintro e w1 ⟨rfl, hu1⟩
        go_wp2_with fail
        go_at_call 39; refine (isPattern_any _ _ _ hp (hv.up hu1) hK.out).mono ?_; rintro e w2 ⟨rfl, hu2⟩
        go_wp2_with fail
        go_at_call 40; refine (fits_any _ _ _ _ hp hvs ((hv.up hu1).up hu2) hK.out hA.out).mono ?_; rintro e w3 ⟨rfl, hu3⟩
        go_wp2_with fail
        go_ret2
        exact ⟨by rw [hV.out, hE.out]; rfl, (hu1.trans hu2).trans hu3⟩
  · have hV : Hid (matchV k.data.toList p.data.toList v.data.toList = false) := by unfold Hid matchV; rw [if_pos hc]
    have hE : Hid (matchE k.data.toList p.data.toList v.data.toList = chk k.data.toList v.data.toList) := by unfold Hid matchE; rw [if_pos hc]
    have hc' : (chk k.data.toList v.data.toList == 0) = false := by simpa using hc
    go_enter Tryz.func12, Tryz.ntmps12
    go_wp2_with (go_at_call 13; refine (Check_any _ _ _ (by omega) hv).mono ?_; rintro e w' ⟨rfl, hup⟩)
    go_ret2
    exact ⟨by rw [hV.out, hE.out]; rfl, hup⟩
end Go.Proofs.YtaokifbpakbgdaaGreatDoor
