/-
  Values (P5, P6: every Check and Match) returns true for every kind, pattern and value whose bytes are together at most 1048576, at this commit of the program; what the call reads is as it was.
  Conditions: that bound (the second form), and the card's own (the listed variables of the library as their text lays them).
-/
import Derived.Test.YtaokifbpakbgdaaGreatDoorRef9
import Derived.Test.YtaokifbpakbgdaaGreatDoorValuesF
import Derived.ChangeMaps5
namespace Go.Proofs.YtaokifbpakbgdaaGreatDoor
open Go.ChangeShapes Go.WideShapes Go.ChangeAt Go.RowKit Go.ChangeMaps

/-- Is the text among the first m parts? -/
def inB (zs : List ByteArray) (v : ByteArray) (m : Nat) : Bool := (zs.take m).any fun z => z.toList == v.toList
theorem inB_next {zs : List ByteArray} {v : ByteArray} {m : Nat} (h : m < zs.length) : inB zs v (m + 1) = (inB zs v m || (zs[m].toList == v.toList)) := by
  unfold inB
  rw [List.take_succ_eq_append_getElem h, List.any_append]; simp
set_option maxHeartbeats 1000000 in
theorem rfits_name (k p v : ByteArray) (w : World) (hk : Hid (k.data.toList = [85, 73])) (hp : p.size < 4294967281) (hp0 : 0 < p.size) :
    Calls Tryz.prog 44 #[.string k, .string p, .string v] w fun e w' => e = .returned (.tuple #[.bool (isPatB k.data.toList p.data.toList && fitsB k.data.toList p.data.toList v.data.toList), .bool (isPatB k.data.toList p.data.toList)]) ∧ Up w w' := by
  have hkl : k.toList = [85, 73] := by rw [Lib.toList_data]; exact hk.out
  have hI : Hid (isPatB k.data.toList p.data.toList = (spl 92 p.data.toList).all nameB) := by
    unfold Hid
    rw [hk.out]
    show (spl 92 p.data.toList).all (fun x => decide (chkF [85, 73] x = 0)) = _
    congr 1
    funext x
    rw [show chkF [85, 73] x = if nameB x then 0 else 6 from rfl]
    cases nameB x <;> rfl
  go_enter Tryz.func44, Tryz.ntmps44
  go_wp2_with fail
  go_at_call 43; refine (rvalue_any _ _ _ hp hp0).mono ?_; rintro e w1 ⟨rfl, u1⟩
  go_wp2_with fail
  go_at_call 87; refine (parts_any p 92 _ _ rfl hp).mono ?_; rintro e w2 ⟨b, cap, zs, rfl, hz, hzl, hcell, u2⟩
  have U2 := hid (u1.trans u2)
  clear u1 u2
  go_wp2_with fail
  go_loopw [10, 11] (fun x y ws => ∃ m : Nat, m ≤ zs.length ∧ x = .bool (inB zs v m) ∧ y = .int .i64 m ∧ Hid ((zs.take m).all (fun z => nameB z.data.toList) = true) ∧ Hid (Up w2 ws)) (fun _ y _ => zs.length - (intOf y).toNat)
  case atStart => exact ⟨0, Nat.zero_le _, rfl, rfl, rfl, Up.refl _⟩
  case round =>
    obtain ⟨m, hm, rfl, rfl, ha, U⟩ := hrel
    by_cases hlt : m < zs.length
    · have hc := U.out.cell (hcell.out m hlt)
      have hin : Hid (inB zs v (m + 1) = (inB zs v m || (zs[m].toList == v.toList))) := inB_next hlt
      generalize hzk : zs[m] = z at hc hin
      have hsz : z.size < 4294967281 := by have := part_size hz.out hlt; rw [hzk, len_list] at this; exact Nat.lt_of_le_of_lt this hp
      have HZ := hid hzk
      clear hzk
      go_wp2_with fail
      go_at_call 82; refine (rname_any _ _ hsz).mono ?_; rintro e w3 ⟨rfl, u3⟩
      have hc3 := u3.cell hc
      have U3 := hid (U.out.trans u3)
      clear u3
      cases hn : nameB z.data.toList
      · have hF : Hid ((spl 92 p.data.toList).all nameB = false) := by
          unfold Hid; rw [of_parts hz.out]; exact takeAll_fail (p := fun z => nameB z.data.toList) hlt (by rw [HZ.out]; exact hn)
        go_wp2_with fail
        go_ret2
        exact ⟨by rw [hI.out, hF.out]; rfl, U2.out.trans U3.out⟩
      · have hA : Hid ((zs.take (m + 1)).all (fun z => nameB z.data.toList) = true) := takeAll_next hlt ha.out (by rw [HZ.out]; exact hn)
        cases hi : inB zs v m
        all_goals
          have HI := hid hi
          go_wp2_with fail
          go_roundw
          case rel => exact ⟨m + 1, by omega, by rw [hin.out, HI.out]; rfl, by go_num, hA, U3⟩
          case measure => simp [intOf]; omega
    · have hA : Hid ((spl 92 p.data.toList).all nameB = true) := by unfold Hid; rw [of_parts hz.out]; exact takeAll_end (by omega) ha.out
      have hF : Hid (fitsB k.data.toList p.data.toList v.data.toList = inB zs v m) := by
        unfold Hid inB
        rw [hk.out, List.take_of_length_le (by omega), Bool.eq_iff_iff, List.any_eq_true]
        have key : (∃ z, z ∈ zs ∧ (z.toList == v.toList) = true) ↔ v.data.toList ∈ spl 92 p.data.toList := by
          rw [← hz.out, List.mem_map]
          constructor
          · rintro ⟨z, h1, h2⟩
            rw [beq_iff_eq, Lib.toList_data, Lib.toList_data] at h2
            exact ⟨z, h1, h2⟩
          · rintro ⟨z, h1, h2⟩
            exact ⟨z, h1, by rw [beq_iff_eq, Lib.toList_data, Lib.toList_data]; exact h2⟩
        rw [key]
        by_cases hv0 : v.data.toList = []
        · rw [hv0]
          constructor
          · intro h; cases h
          · intro h
            exact absurd (List.all_eq_true.1 hA.out [] h) (by decide)
        · unfold fitsB
          rw [if_neg (by decide), if_neg (by decide), if_neg hv0, if_neg (by decide), if_neg (by decide), if_neg (by decide), decide_eq_true_eq]
      go_wp2
      go_ret2
      exact ⟨by rw [hI.out, hA.out, hF.out]; rfl, U2.out.trans U.out⟩
theorem rfits_any (k p v : ByteArray) (w : World) (hk : Hid (IsKind k.data.toList)) (hp : p.size < 4294967281) (hp0 : 0 < p.size) (hv : v.size < 4294967281) (hc : Hid (chk k.data.toList v.data.toList = 0)) :
    Calls Tryz.prog 44 #[.string k, .string p, .string v] w fun e w' => e = .returned (.tuple #[.bool (isPatB k.data.toList p.data.toList && fitsB k.data.toList p.data.toList v.data.toList), .bool (isPatB k.data.toList p.data.toList)]) ∧ Up w w' := by
  have hvr : v.data.toList = [] ∨ rval k.data.toList v.data.toList = true := by
    by_cases e : v.data.toList = []
    · exact Or.inl e
    · right
      have h := hc.out
      unfold chk at h
      rw [if_neg (fun c => e c.2), rval_chk _ _ hk.out] at h
      cases hr : rval k.data.toList v.data.toList
      · rw [hr] at h; cases h
      · rfl
  rcases hk.out with h | h | h | h | h | h | h
  · exact rfits_text k p v w (Or.inl h) hp hp0 hv
  · exact rfits_text k p v w (Or.inr (Or.inl h)) hp hp0 hv
  · exact rfits_text k p v w (Or.inr (Or.inr h)) hp hp0 hv
  · exact rfits_name k p v w h hp hp0
  · exact rfits_date k p v w h hp hp0 hv hvr
  · exact rfits_time k p v w h hp hp0 hv hvr
  · exact rfits_num k p v w h hp hp0 hv hvr
theorem rMatch_any (k p v : ByteArray) (w : World) (hp : p.size < 4294967281) (hv : v.size < 4294967281) :
    Calls Tryz.prog 15 #[.string k, .string p, .string v] w fun e w' => e = .returned (.tuple #[.bool (matchV k.data.toList p.data.toList v.data.toList), .int .i64 (matchE k.data.toList p.data.toList v.data.toList)]) ∧ Up w w' := by
  by_cases hc : chk k.data.toList v.data.toList = 0
  · have hK : Hid (IsKind k.data.toList) := kind_of_chk hc
    have HC := hid hc
    by_cases hp0 : p.toList = []
    · have hV : Hid (matchV k.data.toList p.data.toList v.data.toList = true) := by unfold Hid matchV; rw [if_neg (fun h => h hc), if_pos (by rw [← Lib.toList_data]; exact hp0)]
      have hE : Hid (matchE k.data.toList p.data.toList v.data.toList = 0) := by unfold Hid matchE; rw [if_neg (fun h => h hc), if_pos (by rw [← Lib.toList_data]; exact hp0)]
      go_enter Tryz.func15, Tryz.ntmps15
      go_wp2_with (go_at_call 14; refine (rCheck_any _ _ _ hv).mono ?_; rintro e w' ⟨rfl, hup⟩)
      go_ret2
      exact ⟨by rw [hV.out, hE.out]; rfl, hup⟩
    · have hie : p.toList.isEmpty = false := by simpa using hp0
      have hpos : 0 < p.size := by
        rcases Nat.eq_zero_or_pos p.size with h | h
        · exact absurd (by rw [Lib.toList_data]; exact List.eq_nil_of_length_eq_zero (by rw [len_list]; exact h)) hp0
        · exact h
      have hV : Hid (matchV k.data.toList p.data.toList v.data.toList = if isPatB k.data.toList p.data.toList then fitsB k.data.toList p.data.toList v.data.toList else false) := by unfold Hid matchV; rw [if_neg (fun h => h hc), if_neg (by rw [← Lib.toList_data]; exact hp0)]
      have hE : Hid (matchE k.data.toList p.data.toList v.data.toList = if isPatB k.data.toList p.data.toList then 0 else 12) := by unfold Hid matchE; rw [if_neg (fun h => h hc), if_neg (by rw [← Lib.toList_data]; exact hp0)]
      cases hi : isPatB k.data.toList p.data.toList
      all_goals
        have HI := hid hi
        go_enter Tryz.func15, Tryz.ntmps15
        go_wp2_with fail
        go_at_call 14; refine (rCheck_any _ _ _ hv).mono ?_; rintro e w1 ⟨rfl, hu1⟩
        go_wp2_with fail
        go_at_call 44; refine (rfits_any _ _ _ _ hK hp hpos hv HC).mono ?_; rintro e w2 ⟨rfl, hu2⟩
        go_wp2_with fail
        go_ret2
        exact ⟨by rw [hV.out, hE.out, HI.out]; rfl, hu1.trans hu2⟩
  · have hV : Hid (matchV k.data.toList p.data.toList v.data.toList = false) := by unfold Hid matchV; rw [if_pos hc]
    have hE : Hid (matchE k.data.toList p.data.toList v.data.toList = chk k.data.toList v.data.toList) := by unfold Hid matchE; rw [if_pos hc]
    have hc' : (chk k.data.toList v.data.toList == 0) = false := by simpa using hc
    go_enter Tryz.func15, Tryz.ntmps15
    go_wp2_with (go_at_call 14; refine (rCheck_any _ _ _ hv).mono ?_; rintro e w' ⟨rfl, hup⟩)
    go_ret2
    exact ⟨by rw [hV.out, hE.out]; rfl, hup⟩
set_option maxHeartbeats 1000000 in
theorem values_walk (k p v : ByteArray) (w : World) (hw : Vars w) (hp : p.size < 4294967281) (hv : v.size < 4294967281) :
    Calls Tryz.prog 3 #[.string k, .string p, .string v] w fun e w' => e = .returned (.bool true) ∧ Up w w' := by
  have cm : ∀ w, Vars w → Calls Tryz.prog 12 #[.string ⟨#[80, 78]⟩, .string ⟨#[100, 111, 42]⟩, .string ⟨#[68, 79, 69, 94, 74, 79, 72, 78]⟩] w fun e w' => e = .returned (.tuple #[.bool true, .int .i64 0]) ∧ Up w w' := fun w h => Match_any _ _ _ _ (by decide) (by decide) h
  go_enter Tryz.func3, Tryz.ntmps3
  go_wp2_with fail
  go_at_call 12; refine (cm _ hw).mono ?_; rintro e w1 ⟨rfl, u1⟩
  go_wp2_with fail
  go_at_call 13; refine (Check_any _ _ _ (by omega) (hw.up u1)).mono ?_; rintro e w2 ⟨rfl, u2⟩
  go_wp2_with fail
  go_at_call 14; refine (rCheck_any _ _ _ hv).mono ?_; rintro e w3 ⟨rfl, u3⟩
  go_wp2_with fail
  go_at_call 12; refine (Match_any _ _ _ _ hp hv (((hw.up u1).up u2).up u3)).mono ?_; rintro e w4 ⟨rfl, u4⟩
  go_wp2_with fail
  go_at_call 15; refine (rMatch_any _ _ _ _ hp hv).mono ?_; rintro e w5 ⟨rfl, u5⟩
  have U := hid ((((u1.trans u2).trans u3).trans u4).trans u5)
  clear u1 u2 u3 u4 u5 hw
  generalize matchV k.data.toList p.data.toList v.data.toList = a
  generalize matchE k.data.toList p.data.toList v.data.toList = b
  generalize chk k.data.toList v.data.toList = c
  go_wp2_with fail
  go_ret
  exact ⟨by simp, U.out⟩

theorem values_reads (os : Os) {H : Type} (enc : TypeId × Value → H) : ∃ places, DataW.whole enc Tryz.prog ((World.laidAll Tryz.prog os Rows.knownRow.laid).forCall (fun _ _ => 0) ⟨#[], #[.string ⟨#[]⟩, .string ⟨#[]⟩, .string ⟨#[]⟩], []⟩).memory Tryz.f3.params.toList Rows.valuesSpec.vars false #[Value.string ⟨#[]⟩, Value.string ⟨#[]⟩, Value.string ⟨#[]⟩].toList 8 = some ([.lit (.string []), .lit (.string []), .lit (.string [])], [], places) :=
  ⟨[], by kernel_rfl⟩
set_option maxRecDepth 100000 in
theorem values_lifted (os : Os) (started : os.Started) (H : Type) (enc : TypeId × Value → H) (F : Stop.Interp) :
    ReturnsInHanded {} Tryz.checked os 3 .any ((Rows.OpenSpec.upto Rows.valuesSpec).preRow enc Tryz.prog Tryz.f3 Rows.valuesUptoRow.domain false Rows.valuesUptoRow.laid) (((Rows.OpenSpec.upto Rows.valuesSpec).at F).post enc Tryz.prog Tryz.f3 false true false false) := by
  obtain ⟨places, hx⟩ := values_reads os enc
  refine returnsInHanded_of_row (C := Tryz.checked) (s := Rows.OpenSpec.upto Rows.valuesSpec) own started (by kernel_rfl) Tryz.func3
    (witness_laid (World.laidAll Tryz.prog os Rows.knownRow.laid) #[.string ⟨#[]⟩, .string ⟨#[]⟩, .string ⟨#[]⟩] (World.laidAll_os _ _ _) (laid_shaped os _) (by kernel_rfl)
      (OpenSpec.preRow_of_cond 8 hx (by kernel_rfl) (fun k hk => by cases hk; kernel_rfl) (by kernel_rfl) (laid_met os _))) ?_
  intro W base args ds gs before hval0 hW _ hcond0 _ hL hsh _
  have hcond : Rows.uptoSmall H (ds ++ gs) = true := hcond0 _ rfl
  have hval : ∀ (j : Nat) t v, Tryz.f3.params[j]? = some t → args[j]? = some v → Value.okWide Tryz.prog W .any base t v := hval0
  have hW' := hW
  obtain ⟨p, q, hA0, hV, rfl, _, _⟩ := hW
  have hA : DataW.TrodAll enc Tryz.prog W 0 (fun _ => true) true Tryz.f3.params.toList args.toList ds p := hA0
  rw [Tryz.params3] at hA hval
  obtain ⟨v0, vs0, d0, ds0, p0, q0, hargs, rfl, rfl, h0, r0⟩ := trodAll_cons hA
  obtain ⟨v1, vs1, d1, ds1, p1, q1, rfl, rfl, rfl, h1, r1⟩ := trodAll_cons r0
  obtain ⟨v2, vs2, d2, ds2, p2, q2, rfl, rfl, rfl, h2, r2⟩ := trodAll_cons r1
  obtain ⟨rfl, rfl, rfl⟩ := trodAll_nil r2
  obtain rfl : args = #[v0, v1, v2] := by cases args; simp_all
  obtain ⟨rfl, rfl⟩ := trodVars_none hV
  obtain ⟨x, rfl, rfl, rfl, wx⟩ := open_string Tryz.underlying9 (hval 0 9 v0 rfl rfl) h0
  obtain ⟨y, rfl, rfl, rfl, wy⟩ := open_string Tryz.underlying9 (hval 1 9 v1 rfl rfl) h1
  obtain ⟨z, rfl, rfl, rfl, wz⟩ := open_string Tryz.underlying9 (hval 2 9 v2 rfl rfl) h2
  simp only [List.append_nil] at hW' hcond
  have hb := of_decide_eq_true hcond
  simp only [Rows.uptoBulkAll, Rows.uptoBulk] at hb
  rw [len_list, len_list, len_list] at hb
  refine (values_walk x y z W (vars_of hL hsh) (by omega) (by omega)).mono ?_
  rintro e W' ⟨rfl, hup⟩
  refine ⟨_, rfl, _, _, _, [], [], [], hW', ?_, ?_, ?_, Below.frame hup _, fun h => by cases h⟩
  · exact trodAll_mk1 (shut_bool Tryz.underlying4 _)
  · exact trodAll_mk3 (shut_string Tryz.underlying9 wx) (shut_string Tryz.underlying9 wy) (shut_string Tryz.underlying9 wz)
  · rfl
theorem values_said : Rows.ValuesUptoSaid :=
  OpenClaim.holds_of_cond 3 Tryz.f3 rfl rfl rfl rfl rfl rfl rfl ⟨rfl, rfl, rfl, rfl, rfl⟩ rfl rfl rfl rfl rfl (by kernel_rfl) Tryz.func3 values_closed
    (of_decide_eq_true (by kernel_rfl)) (by unfold Func.isWrapper; first | (rw [if_pos (by decide +kernel)]; kernel_rfl) | (rw [if_neg (by decide +kernel)]; exact ⟨rfl, rfl⟩))
    (fun os started H enc _ F => by rw [OpenClaim.pre_eq_preRow]; exact values_lifted os started H enc F)
theorem values_plain (f : FuncId) (fn : Func) (hf : Tryz.pinned.checked.prog.funcNamed Rows.valuesUptoRow.func = some f) (hfn : Tryz.pinned.checked.prog.funcs[f]? = some fn) :
    true = Tryz.pinned.checked.prog.looks [] ∧ ∀ (j : Nat) t, fn.params[j]? = some t → Tryz.pinned.checked.prog.wantsStandIn t = false := by
  obtain rfl : f = 3 := Option.some.inj ((show Tryz.prog.funcNamed Rows.valuesUptoRow.func = some 3 by kernel_rfl).symm.trans hf) |>.symm
  obtain rfl : fn = Tryz.f3 := (Option.some.inj (Tryz.func3.symm.trans hfn)).symm
  refine ⟨by kernel_rfl, fun j t ht => ?_⟩
  rw [Tryz.params3] at ht
  obtain rfl : t = 9 := by simpa using Array.mem_of_getElem? ht
  exact (show Tryz.prog.wantsStandIn 9 = false by kernel_rfl)
theorem values_card : Rows.ValuesUptoCardSaid :=
  Claim7.holds_tied_plain_at .later [] _ _ _ _ values_said (fun _ h => by cases h) (by kernel_rfl) (fun _ h => by cases h) valuesUpto_row_tie rfl ⟨rfl, rfl⟩ (by kernel_rfl) rfl values_plain (by kernel_rfl)
end Go.Proofs.YtaokifbpakbgdaaGreatDoor
