/-
  Several texts in one; what each one has stands at its head.
-/
import Derived.Test.YtaokifbpakbgdaaGreatDoorPut2
import Derived.Test.YtaokifbpakbgdaaGreatDoorCards
import Derived.Test.YtaokifbpakbgdaaGreatDoorTie
import Derived.ProofKit
import Derived.OpenShut
import Derived.Deep.DeepHandedRow
import Derived.LaidLaws
import Derived.Lay
import Derived.Laws.IdiomStrings
import Derived.WalkKit
import Derived.Test.YtaokifbpakbgdaaGreatDoorPut1
/- What within, filled, fitsDate, fitsTime, sameNumber, isSpan and allFilled of package value answer. -/
namespace Go.Proofs.YtaokifbpakbgdaaGreatDoor
open Go.RowKit

theorem mk_data (l : Bs) : (⟨l.toArray⟩ : ByteArray).data.toList = l := by simp
theorem mk_size (l : Bs) : (⟨l.toArray⟩ : ByteArray).size = l.length := by rw [← len_list, mk_data]

theorem isEmpty_dec (l : Bs) : l.isEmpty = decide (l = []) := by cases l <;> rfl
theorem data_append (a b : ByteArray) : (a ++ b).data.toList = a.data.toList ++ b.data.toList := by simp
theorem within_any (a b c : ByteArray) (w : World) :
    Calls Tryz.prog 132 #[.string a, .string b, .string c] w fun e w' => e = .returned (.bool (withinB a.data.toList b.data.toList c.data.toList)) ∧ w' = w := by
  go_enter Tryz.func132, Tryz.ntmps132
  go_wp2
  all_goals go_ret
  all_goals refine ⟨vret_bool ?_, rfl⟩
  all_goals simp only [withinB, leB, ← Lib.toList_data, ← isEmpty_dec]
  all_goals simp_all

theorem filled_any (t m : ByteArray) (w : World) (hm : m.size = 2) (ht : t.size ≤ 9223372036854775806) :
    Calls Tryz.prog 134 #[.string t, .string m] w fun e w' => (∃ x : ByteArray, e = .returned (.string x) ∧ Hid (x.data.toList = filledB t.data.toList m.data.toList)) ∧ w' = w := by
  go_enter Tryz.func134, Tryz.ntmps134
  go_wp2
  go_loop [0] (fun a => ∃ (x : ByteArray) (n : Nat), a = .string x ∧ Hid (fillB m.data.toList n x.data.toList = filledB t.data.toList m.data.toList ∧ (x.data.toList = [] ∨ 6 ≤ x.size + n)) ∧ x.size ≤ 9223372036854775806) (fun a => match a with | .string x => 6 - x.size | _ => 0)
  case atStart => exact ⟨t, 6, rfl, ⟨rfl, Or.inr (by omega)⟩, ht⟩
  case round =>
    obtain ⟨x, n, rfl, hx, hl⟩ := hrel
    by_cases h0 : x.toList = []
    · go_wp2
      go_ret
      refine ⟨⟨x, rfl, ?_⟩, rfl⟩
      unfold Hid
      rw [← hx.out.1, fill_stop _ _ _ (fun e => e.1 (by rw [← Lib.toList_data]; exact h0))]
    · by_cases h6 : x.size < 6
      · have hie : x.toList.isEmpty = false := by simpa using h0
        go_wp2
        go_round
        case rel =>
          have hne : x.data.toList ≠ [] := fun e => h0 (by rw [Lib.toList_data]; exact e)
          obtain ⟨n', rfl⟩ : ∃ n', n = n' + 1 := ⟨n - 1, by rcases hx.out.2 with h | h <;> first | exact absurd h hne | omega⟩
          refine ⟨x ++ m, n', rfl, ⟨?_, Or.inr ?_⟩, by rw [ByteArray.size_append]; omega⟩
          · rw [← hx.out.1, fill_go _ _ _ ⟨hne, by rw [len_list]; exact h6⟩, data_append]
          · have := hx.out.2.resolve_left hne
            rw [ByteArray.size_append]; omega
        case measure =>
          show 6 - (x ++ m).size < 6 - x.size
          rw [ByteArray.size_append]; omega
      · have hie : x.toList.isEmpty = false := by simpa using h0
        go_wp2
        go_ret
        refine ⟨⟨x, rfl, ?_⟩, rfl⟩
        unfold Hid
        rw [← hx.out.1, fill_stop _ _ _ (fun e => by have := e.2; rw [len_list] at this; omega)]

theorem cut_len (l : Bs) : (cutB l).1.length ≤ l.length ∧ (cutB l).2.1.length ≤ l.length := by
  unfold cutB Lib.cut
  split
  · simp; omega
  · simp
theorem cut_one (s : ByteArray) (w : World) (hs : s.size < 4294967281) (hv : Vars w) :
    Calls Tryz.prog 124 #[.string s, .string ⟨#[45]⟩] w fun e w' => ∃ f t : ByteArray, e = .returned (.tuple #[.string f, .string t, .bool (cutB s.data.toList).2.2]) ∧
      Hid (f.data.toList = (cutB s.data.toList).1) ∧ Hid (t.data.toList = (cutB s.data.toList).2.1) ∧ f.size < 4294967281 ∧ t.size < 4294967281 ∧ Up w w' := by
  obtain ⟨⟨m, hm⟩, _⟩ := hv
  have hc := cut_len s.data.toList
  rw [len_list] at hc
  refine (Tryz.strings_Cut s ⟨#[45]⟩ m w hs hm).mono ?_
  rintro e w' ⟨rfl, n, rfl⟩
  exact ⟨⟨(cutB s.data.toList).1.toArray⟩, ⟨(cutB s.data.toList).2.1.toArray⟩, rfl, mk_data _, mk_data _, by rw [mk_size]; omega, by rw [mk_size]; omega, Up.drewN (Up.refl _) _⟩

theorem fitsDate_any (p v : ByteArray) (w : World) (hp : p.size < 4294967281) (hv : Vars w) :
    Calls Tryz.prog 71 #[.string p, .string v] w fun e w' => e = .returned (.bool (fitsDateB p.data.toList v.data.toList)) ∧ Up w w' := by
  cases hc : (cutB p.data.toList).2.2
  · have hF : Hid (fitsDateB p.data.toList v.data.toList = (v.data.toList == (cutB p.data.toList).1)) := by unfold Hid fitsDateB; rw [hc]; rfl
    go_enter Tryz.func71, Tryz.ntmps71
    go_wp2_with (go_at_call 124; refine (cut_one _ _ hp hv).mono ?_; rintro e w' ⟨f, t, rfl, hf, ht, _, _, hup⟩)
    go_ret
    exact ⟨vret_bool (by rw [hF.out, ← hf.out, Lib.toList_data, Lib.toList_data]), hup⟩
  · have hF : Hid (fitsDateB p.data.toList v.data.toList = withinB (cutB p.data.toList).1 (cutB p.data.toList).2.1 v.data.toList) := by unfold Hid fitsDateB; rw [hc]; rfl
    go_enter Tryz.func71, Tryz.ntmps71
    go_wp2_with (first
      | (go_at_call 124; refine (cut_one _ _ hp hv).mono ?_; rintro e w' ⟨f, t, rfl, hf, ht, _, _, hup⟩)
      | (go_at_call 132; refine (within_any _ _ _ _).mono ?_; rintro e w' ⟨rfl, rfl⟩))
    go_ret
    exact ⟨vret_bool (by rw [hF.out, ← hf.out, ← ht.out]), hup⟩

theorem fitsTime_any (p v : ByteArray) (w : World) (hp : p.size < 4294967281) (hvs : v.size ≤ 9223372036854775806) (hv : Vars w) :
    Calls Tryz.prog 72 #[.string p, .string v] w fun e w' => e = .returned (.bool (fitsTimeB p.data.toList v.data.toList)) ∧ Up w w' := by
  cases hc : (cutB p.data.toList).2.2
  · have hF : Hid (fitsTimeB p.data.toList v.data.toList = (Lib.hasPrefix v.data.toList (cutB p.data.toList).1 || Lib.hasPrefix (cutB p.data.toList).1 v.data.toList)) := by unfold Hid fitsTimeB; rw [hc]; rfl
    go_enter Tryz.func72, Tryz.ntmps72
    go_wp2_with (first
      | (go_at_call 124; refine (cut_one _ _ hp hv).mono ?_; rintro e w' ⟨f, t, rfl, hf, ht, _, _, hup⟩)
      | (go_at_call 133; refine (Tryz.strings_HasPrefix _ _ _).mono ?_; rintro e w' ⟨rfl, rfl⟩))
    all_goals go_ret
    all_goals refine ⟨vret_bool ?_, hup⟩
    all_goals rw [hF.out, ← hf.out]
    all_goals simp_all
  · have hF : Hid (fitsTimeB p.data.toList v.data.toList = withinB (filledB (cutB p.data.toList).1 [48, 48]) (filledB (cutB p.data.toList).2.1 [53, 57]) (filledB v.data.toList [48, 48])) := by unfold Hid fitsTimeB; rw [hc]; rfl
    go_enter Tryz.func72, Tryz.ntmps72
    go_wp2_with (go_at_call 124; refine (cut_one _ _ hp hv).mono ?_; rintro e w' ⟨f, t, rfl, hf, ht, hfs, hts, hup⟩)
    go_at_call 134; refine (filled_any _ _ _ rfl (by omega)).mono ?_; rintro e w1 ⟨⟨x1, rfl, hx1⟩, rfl⟩
    go_wp2_with fail
    go_at_call 134; refine (filled_any _ _ _ rfl (by omega)).mono ?_; rintro e w1 ⟨⟨x2, rfl, hx2⟩, rfl⟩
    go_wp2_with fail
    go_at_call 134; refine (filled_any _ _ _ rfl (by omega)).mono ?_; rintro e w1 ⟨⟨x3, rfl, hx3⟩, rfl⟩
    go_wp2_with (go_at_call 132; refine (within_any _ _ _ _).mono ?_; rintro e w' ⟨rfl, rfl⟩)
    go_ret
    exact ⟨vret_bool (by rw [hF.out, ← hf.out, ← ht.out, hx1.out, hx2.out, hx3.out]), hup⟩

theorem sameNumber_any (p v : ByteArray) (w : World) (hp : p.size ≤ 9223372036854775806) (hvs : v.size ≤ 9223372036854775806) (hv : Vars w) :
    Calls Tryz.prog 73 #[.string p, .string v] w fun e w' => e = .returned (.bool (sameB p.data.toList v.data.toList)) ∧ Up w w' := by
  go_enter Tryz.func73, Tryz.ntmps73
  go_wp2_with fail
  go_at_call 81; refine (vnumber_any _ _ hp hv).mono ?_; rintro e w1 ⟨rfl, hu1⟩
  go_wp2_with fail
  go_at_call 81; refine (vnumber_any _ _ hvs (hv.up hu1)).mono ?_; rintro e w2 ⟨rfl, hu2⟩
  go_wp2_with fail
  go_ret
  exact ⟨vret_bool rfl, hu1.trans hu2⟩

theorem isSpan_any (k p : ByteArray) (w : World) (hp : p.size < 4294967281) (hv : Vars w) :
    Calls Tryz.prog 68 #[.string k, .string p] w fun e w' => e = .returned (.bool (spanB k.data.toList p.data.toList)) ∧ Up w w' := by
  cases hc : (cutB p.data.toList).2.2
  · have hF : Hid (spanB k.data.toList p.data.toList = decide (chkF k.data.toList (cutB p.data.toList).1 = 0)) := by unfold Hid spanB; rw [hc]; rfl
    go_enter Tryz.func68, Tryz.ntmps68
    go_wp2_with fail
    go_at_call 124; refine (cut_one _ _ hp hv).mono ?_; rintro e w1 ⟨f, t, rfl, hf, ht, hfs, hts, hu1⟩
    rw [hc]
    go_wp2_with fail
    go_at_call 41; refine (checkFilled_any _ _ _ (by omega) (hv.up hu1)).mono ?_; rintro e w2 ⟨rfl, hu2⟩
    go_wp2_with fail
    go_ret
    exact ⟨vret_bool (by rw [hF.out, ← hf.out]; rfl), hu1.trans hu2⟩
  · by_cases h45 : p.toList = [45]
    · have hF : Hid (spanB k.data.toList p.data.toList = false) := by
        unfold Hid spanB; rw [hc, ← Lib.toList_data p, h45]; rfl
      go_enter Tryz.func68, Tryz.ntmps68
      go_wp2_with fail
      go_at_call 124; refine (cut_one _ _ hp hv).mono ?_; rintro e w1 ⟨f, t, rfl, hf, ht, hfs, hts, hu1⟩
      rw [hc]
      go_wp2_with fail
      go_ret
      exact ⟨vret_bool hF.out.symm, hu1⟩
    · have hF : Hid (spanB k.data.toList p.data.toList = (decide (chk k.data.toList (cutB p.data.toList).1 = 0) && decide (chk k.data.toList (cutB p.data.toList).2.1 = 0))) := by
        unfold Hid spanB; rw [hc, ← Lib.toList_data p, decide_eq_false h45]; rfl
      have h45' : (p.toList == [45]) = false := by simpa using h45
      by_cases hk : chk k.data.toList (cutB p.data.toList).1 = 0
      · have HK : Hid (chk k.data.toList (cutB p.data.toList).1 = 0) := hk
        clear hk
        go_enter Tryz.func68, Tryz.ntmps68
        go_wp2_with fail
        go_at_call 124; refine (cut_one _ _ hp hv).mono ?_; rintro e w1 ⟨f, t, rfl, hf, ht, hfs, hts, hu1⟩
        rw [hc]
        go_wp2_with fail
        go_at_call 13; refine (Check_any _ _ _ (by omega) (hv.up hu1)).mono ?_; rintro e w2 ⟨rfl, hu2⟩
        rw [hf.out, HK.out]
        go_wp2_with fail
        go_at_call 13; refine (Check_any _ _ _ (by omega) ((hv.up hu1).up hu2)).mono ?_; rintro e w3 ⟨rfl, hu3⟩
        go_wp2_with fail
        go_ret
        exact ⟨vret_bool (by rw [hF.out, HK.out, ← ht.out]; rfl), (hu1.trans hu2).trans hu3⟩
      · have HK : Hid ((chk k.data.toList (cutB p.data.toList).1 == 0) = false) := by unfold Hid; simpa using hk
        have HD : Hid (decide (chk k.data.toList (cutB p.data.toList).1 = 0) = false) := decide_eq_false hk
        clear hk
        go_enter Tryz.func68, Tryz.ntmps68
        go_wp2_with fail
        go_at_call 124; refine (cut_one _ _ hp hv).mono ?_; rintro e w1 ⟨f, t, rfl, hf, ht, hfs, hts, hu1⟩
        rw [hc]
        go_wp2_with fail
        go_at_call 13; refine (Check_any _ _ _ (by omega) (hv.up hu1)).mono ?_; rintro e w2 ⟨rfl, hu2⟩
        rw [hf.out]
        have hk := HK.out
        go_wp2_with fail
        go_ret
        exact ⟨vret_bool (by rw [hF.out, HD.out]; rfl), hu1.trans hu2⟩

theorem alternatives_any (s : ByteArray) (w : World) (hs : s.size < 4294967281) (hv : Vars w) :
    Calls Tryz.prog 67 #[.string s] w fun e w' => ∃ (b : Nat) (zs : List ByteArray), e = .returned (.slice (some ⟨b, 0, none⟩) zs.length zs.length) ∧
      Hid (zs.map (·.data.toList) = spl 92 s.data.toList) ∧ zs.length ≤ s.size + 1 ∧ Hid (∀ (j : Nat) (h : j < zs.length), w'.cell? ⟨b, j, none⟩ = some (.string zs[j])) ∧ Up w w' := by
  go_enter Tryz.func67, Tryz.ntmps67
  go_wp2_with fail
  go_at_call 123; refine (split_one s 92 _ hs hv).mono ?_; rintro e w' ⟨b, zs, rfl, hz0, hzl, hzc0, hup⟩
  have hz := hid hz0
  have hzc := hid hzc0
  clear hz0 hzc0
  go_wp2_with fail
  go_ret
  exact ⟨b, zs, rfl, hz, hzl, hzc, hup⟩

theorem allFilled_any (k : ByteArray) (b : Nat) (zs : List ByteArray) (w : World) (hv : Vars w) (hn : zs.length ≤ 9223372036854775806) (hsz : Hid (∀ z ∈ zs, z.size ≤ 9223372036854775806))
    (hc : Hid (∀ (j : Nat) (h : j < zs.length), w.cell? ⟨b, j, none⟩ = some (.string zs[j]))) :
    Calls Tryz.prog 66 #[.string k, .slice (some ⟨b, 0, none⟩) zs.length zs.length] w fun e w' => e = .returned (.bool (zs.all fun z => decide (chkF k.data.toList z.data.toList = 0))) ∧ Up w w' := by
  have hF : ∃ q : Bool, Hid ((zs.all fun z => decide (chkF k.data.toList z.data.toList = 0)) = q) := ⟨_, rfl⟩
  obtain ⟨q, hq⟩ := hF
  rw [hq.out]
  go_enter Tryz.func66, Tryz.ntmps66
  go_wp2
  go_loopw [9] (fun i wr => ∃ i' : Nat, i' ≤ zs.length ∧ i = .int .i64 i' ∧ Hid ((zs.take i').all (fun z => decide (chkF k.data.toList z.data.toList = 0)) = true) ∧ Up w wr) (fun i _ => zs.length - (intOf i).toNat)
  case atStart => exact ⟨0, Nat.zero_le _, rfl, rfl, Up.refl _⟩
  case round =>
    obtain ⟨i, hi, rfl, ha, hup⟩ := hrel
    by_cases hlt : i < zs.length
    · have hci := hup.cell (hc.out i hlt)
      have hzz := hsz.out _ (List.getElem_mem hlt)
      go_wp2_with fail
      go_at_call 41; refine (checkFilled_any _ _ _ hzz (hv.up hup)).mono ?_; rintro e w2 ⟨rfl, hu2⟩
      by_cases h0 : chkF k.data.toList zs[i].data.toList = 0
      · go_wp2_with fail
        go_roundw
        case rel => exact ⟨i + 1, by omega, by go_num, takeAll_next hlt ha.out (decide_eq_true h0), hup.trans hu2⟩
        case measure => simp [intOf]; omega
      · go_wp2_with fail
        go_ret
        exact ⟨vret_bool (by rw [← hq.out, takeAll_fail hlt (decide_eq_false h0)]), hup.trans hu2⟩
    · go_wp2
      go_ret
      exact ⟨vret_bool (by rw [← hq.out, takeAll_end (by omega) ha.out]), hup⟩
end Go.Proofs.YtaokifbpakbgdaaGreatDoor

/- What isPattern, fits and Match of package value answer. -/
namespace Go.Proofs.YtaokifbpakbgdaaGreatDoor
open Go.RowKit

theorem ip_text (k p : ByteArray) (w : World) (hp : p.size < 4294967281) (hk : k.toList = [76, 79] ∨ k.toList = [80, 78] ∨ k.toList = [67, 83]) :
    Calls Tryz.prog 39 #[.string k, .string p] w fun e w' => e = .returned (.bool (isPatB k.data.toList p.data.toList)) ∧ Up w w' := by
  have hF : Hid (isPatB k.data.toList p.data.toList = isTextB p.data.toList) := by
    unfold Hid isPatB; rw [← Lib.toList_data k, if_pos hk]
  rcases hk with hk | hk | hk <;>
  (go_enter Tryz.func39, Tryz.ntmps39
   go_wp2_with (go_at_call 65; refine (isText_any _ _ (by omega)).mono ?_; rintro e w' ⟨rfl, rfl⟩)
   go_ret
   exact ⟨vret_bool hF.out.symm, Up.refl _⟩)
theorem ip_name (k p : ByteArray) (w : World) (hp : p.size < 4294967281) (hv : Vars w) (hk : k.toList = [85, 73]) :
    Calls Tryz.prog 39 #[.string k, .string p] w fun e w' => e = .returned (.bool (isPatB k.data.toList p.data.toList)) ∧ Up w w' := by
  have hF : Hid (isPatB k.data.toList p.data.toList = (spl 92 p.data.toList).all fun x => decide (chkF k.data.toList x = 0)) := by
    unfold Hid isPatB; rw [← Lib.toList_data k, hk]; rfl
  go_enter Tryz.func39, Tryz.ntmps39
  go_wp2_with fail
  go_at_call 67; refine (alternatives_any _ _ hp hv).mono ?_; rintro e w1 ⟨b, zs, rfl, hz, hzl, hzc, hu1⟩
  go_wp2_with fail
  go_at_call 66; refine (allFilled_any k b zs _ (hv.up hu1) (by omega) (hid fun z hz' => ?_) hzc).mono ?_
  · obtain ⟨j, hj, rfl⟩ := List.getElem_of_mem hz'
    have := part_size hz.out hj
    rw [len_list] at this; omega
  rintro e w2 ⟨rfl, hu2⟩
  go_wp2_with fail
  go_ret
  exact ⟨vret_bool (by rw [hF.out, of_parts hz.out]), hu1.trans hu2⟩
theorem ip_span (k p : ByteArray) (w : World) (hp : p.size < 4294967281) (hv : Vars w) (hk : k.toList = [68, 65] ∨ k.toList = [84, 77]) :
    Calls Tryz.prog 39 #[.string k, .string p] w fun e w' => e = .returned (.bool (isPatB k.data.toList p.data.toList)) ∧ Up w w' := by
  have hF : Hid (isPatB k.data.toList p.data.toList = spanB k.data.toList p.data.toList) := by
    unfold Hid isPatB; rw [← Lib.toList_data k]; rcases hk with hk | hk <;> rw [hk] <;> rfl
  rcases hk with hk | hk <;>
  (go_enter Tryz.func39, Tryz.ntmps39
   go_wp2_with (go_at_call 68; refine (isSpan_any _ _ _ hp hv).mono ?_; rintro e w' ⟨rfl, hup⟩)
   go_ret
   exact ⟨vret_bool hF.out.symm, hup⟩)
theorem ip_num (k p : ByteArray) (w : World) (hp : p.size < 4294967281) (hv : Vars w) (hk : k.toList = [73, 83]) :
    Calls Tryz.prog 39 #[.string k, .string p] w fun e w' => e = .returned (.bool (isPatB k.data.toList p.data.toList)) ∧ Up w w' := by
  have hF : Hid (isPatB k.data.toList p.data.toList = decide (chkF k.data.toList p.data.toList = 0)) := by
    unfold Hid isPatB; rw [← Lib.toList_data k, hk]; rfl
  go_enter Tryz.func39, Tryz.ntmps39
  go_wp2_with (go_at_call 41; refine (checkFilled_any _ _ _ (by omega) hv).mono ?_; rintro e w' ⟨rfl, hup⟩)
  go_ret
  exact ⟨vret_bool (by rw [hF.out]; rfl), hup⟩
/-- The kinds. -/
def IsKind (k : Bs) : Prop := k = [76, 79] ∨ k = [80, 78] ∨ k = [67, 83] ∨ k = [85, 73] ∨ k = [68, 65] ∨ k = [84, 77] ∨ k = [73, 83]
theorem isPattern_any (k p : ByteArray) (w : World) (hp : p.size < 4294967281) (hv : Vars w) (hk : IsKind k.toList) :
    Calls Tryz.prog 39 #[.string k, .string p] w fun e w' => e = .returned (.bool (isPatB k.data.toList p.data.toList)) ∧ Up w w' := by
  rcases hk with h | h | h | h | h | h | h
  · exact ip_text k p w hp (Or.inl h)
  · exact ip_text k p w hp (Or.inr (Or.inl h))
  · exact ip_text k p w hp (Or.inr (Or.inr h))
  · exact ip_name k p w hp hv h
  · exact ip_span k p w hp hv (Or.inl h)
  · exact ip_span k p w hp hv (Or.inr h)
  · exact ip_num k p w hp hv h

/-- Bytes below 128. -/
def Ascii (l : Bs) : Prop := ∀ (j : Nat) (b : UInt8), l[j]? = some b → b.toNat < 128
theorem fits_PN (k p v : ByteArray) (w : World) (hp : p.size < 4294967281) (hvs : v.size < 4294967281) (hk : k.toList = [80, 78]) (ap : Ascii p.data.toList) (av : Ascii v.data.toList) :
    Calls Tryz.prog 40 #[.string k, .string p, .string v] w fun e w' => e = .returned (.bool (fitsB k.data.toList p.data.toList v.data.toList)) ∧ Up w w' := by
  have hF : Hid (fitsB k.data.toList p.data.toList v.data.toList = glob (Lib.toLowerA p.data.toList) (Lib.toLowerA v.data.toList)) := by
    unfold Hid fitsB; rw [← Lib.toList_data k, hk]; rfl
  have AP := hid ap
  have AV := hid av
  clear ap av
  have l1 : (⟨(Lib.toLowerA p.data.toList).toArray⟩ : ByteArray).size ≤ 9223372036854775806 := by rw [mk_size]; simp [Lib.toLowerA]; omega
  have l2 : (⟨(Lib.toLowerA v.data.toList).toArray⟩ : ByteArray).size ≤ 9223372036854775806 := by rw [mk_size]; simp [Lib.toLowerA]; omega
  have c := fun w => fitsText_any ⟨(Lib.toLowerA p.data.toList).toArray⟩ ⟨(Lib.toLowerA v.data.toList).toArray⟩ w l1 l2
  simp only at c
  have C := hid c
  clear c l1 l2
  go_enter Tryz.func40, Tryz.ntmps40
  go_wp2_with fail
  go_at_call 70; refine (Tryz.strings_ToLower_ascii p _ (by omega) AP.out).mono ?_; rintro e w1 ⟨rfl, hu1⟩
  go_wp2_with fail
  go_at_call 70; refine (Tryz.strings_ToLower_ascii v _ (by omega) AV.out).mono ?_; rintro e w2 ⟨rfl, hu2⟩
  go_wp2_with fail
  go_at_call 69; refine (C.out _).mono ?_; rintro e w3 ⟨rfl, hu3⟩
  go_wp2_with fail
  go_ret
  exact ⟨vret_bool hF.out.symm, (Up.trans hu1 hu2).trans hu3⟩
theorem fits_LO (k p v : ByteArray) (w : World) (hp : p.size < 4294967281) (hvs : v.size < 4294967281) (hk : k.toList = [76, 79] ∨ k.toList = [67, 83]) :
    Calls Tryz.prog 40 #[.string k, .string p, .string v] w fun e w' => e = .returned (.bool (fitsB k.data.toList p.data.toList v.data.toList)) ∧ Up w w' := by
  have hF : Hid (fitsB k.data.toList p.data.toList v.data.toList = glob p.data.toList v.data.toList) := by
    unfold Hid fitsB; rw [← Lib.toList_data k]; rcases hk with hk | hk <;> rw [hk] <;> rfl
  rcases hk with hk | hk <;>
  (go_enter Tryz.func40, Tryz.ntmps40
   go_wp2_with (go_at_call 69; refine (fitsText_any _ _ _ (by omega) (by omega)).mono ?_; rintro e w' ⟨rfl, hup⟩)
   go_ret
   exact ⟨vret_bool hF.out.symm, hup⟩)
theorem fits_none (k p v : ByteArray) (w : World) (hk : k.toList = [68, 65] ∨ k.toList = [84, 77] ∨ k.toList = [73, 83] ∨ k.toList = [85, 73]) (hv0 : v.toList = []) :
    Calls Tryz.prog 40 #[.string k, .string p, .string v] w fun e w' => e = .returned (.bool (fitsB k.data.toList p.data.toList v.data.toList)) ∧ Up w w' := by
  have hF : Hid (fitsB k.data.toList p.data.toList v.data.toList = false) := by
    unfold Hid fitsB; rw [← Lib.toList_data k, ← Lib.toList_data v, hv0]; rcases hk with hk | hk | hk | hk <;> rw [hk] <;> rfl
  rcases hk with hk | hk | hk | hk <;>
  (go_enter Tryz.func40, Tryz.ntmps40
   go_wp2
   go_ret
   exact ⟨vret_bool hF.out.symm, Up.refl _⟩)
theorem fits_DA (k p v : ByteArray) (w : World) (hp : p.size < 4294967281) (hv : Vars w) (hk : k.toList = [68, 65]) (hv0 : ¬ v.toList = []) :
    Calls Tryz.prog 40 #[.string k, .string p, .string v] w fun e w' => e = .returned (.bool (fitsB k.data.toList p.data.toList v.data.toList)) ∧ Up w w' := by
  have hF : Hid (fitsB k.data.toList p.data.toList v.data.toList = fitsDateB p.data.toList v.data.toList) := by
    unfold Hid fitsB; rw [← Lib.toList_data k, ← Lib.toList_data v, hk, if_neg (by decide), if_neg (by decide), if_neg hv0, if_pos rfl]
  have hie : v.toList.isEmpty = false := by simpa using hv0
  go_enter Tryz.func40, Tryz.ntmps40
  go_wp2_with (go_at_call 71; refine (fitsDate_any _ _ _ hp hv).mono ?_; rintro e w' ⟨rfl, hup⟩)
  go_ret
  exact ⟨vret_bool hF.out.symm, hup⟩
theorem fits_TM (k p v : ByteArray) (w : World) (hp : p.size < 4294967281) (hvs : v.size < 4294967281) (hv : Vars w) (hk : k.toList = [84, 77]) (hv0 : ¬ v.toList = []) :
    Calls Tryz.prog 40 #[.string k, .string p, .string v] w fun e w' => e = .returned (.bool (fitsB k.data.toList p.data.toList v.data.toList)) ∧ Up w w' := by
  have hF : Hid (fitsB k.data.toList p.data.toList v.data.toList = fitsTimeB p.data.toList v.data.toList) := by
    unfold Hid fitsB; rw [← Lib.toList_data k, ← Lib.toList_data v, hk, if_neg (by decide), if_neg (by decide), if_neg hv0, if_neg (by decide), if_pos rfl]
  have hie : v.toList.isEmpty = false := by simpa using hv0
  go_enter Tryz.func40, Tryz.ntmps40
  go_wp2_with (go_at_call 72; refine (fitsTime_any _ _ _ hp (by omega) hv).mono ?_; rintro e w' ⟨rfl, hup⟩)
  go_ret
  exact ⟨vret_bool hF.out.symm, hup⟩
theorem fits_IS (k p v : ByteArray) (w : World) (hp : p.size < 4294967281) (hvs : v.size < 4294967281) (hv : Vars w) (hk : k.toList = [73, 83]) (hv0 : ¬ v.toList = []) :
    Calls Tryz.prog 40 #[.string k, .string p, .string v] w fun e w' => e = .returned (.bool (fitsB k.data.toList p.data.toList v.data.toList)) ∧ Up w w' := by
  have hF : Hid (fitsB k.data.toList p.data.toList v.data.toList = sameB p.data.toList v.data.toList) := by
    unfold Hid fitsB; rw [← Lib.toList_data k, ← Lib.toList_data v, hk, if_neg (by decide), if_neg (by decide), if_neg hv0, if_neg (by decide), if_neg (by decide), if_pos rfl]
  have hie : v.toList.isEmpty = false := by simpa using hv0
  go_enter Tryz.func40, Tryz.ntmps40
  go_wp2_with (go_at_call 73; refine (sameNumber_any _ _ _ (by omega) (by omega) hv).mono ?_; rintro e w' ⟨rfl, hup⟩)
  go_ret
  exact ⟨vret_bool hF.out.symm, hup⟩
theorem fits_UI (k p v : ByteArray) (w : World) (hp : p.size < 4294967281) (hv : Vars w) (hk : k.toList = [85, 73]) (hv0 : ¬ v.toList = []) :
    Calls Tryz.prog 40 #[.string k, .string p, .string v] w fun e w' => e = .returned (.bool (fitsB k.data.toList p.data.toList v.data.toList)) ∧ Up w w' := by
  have hF : Hid (fitsB k.data.toList p.data.toList v.data.toList = decide (v.data.toList ∈ spl 92 p.data.toList)) := by
    unfold Hid fitsB; rw [← Lib.toList_data k, ← Lib.toList_data v, hk, if_neg (by decide), if_neg (by decide), if_neg hv0, if_neg (by decide), if_neg (by decide), if_neg (by decide)]
  have hie : v.toList.isEmpty = false := by simpa using hv0
  go_enter Tryz.func40, Tryz.ntmps40
  go_wp2_with fail
  go_at_call 67; refine (alternatives_any _ _ hp hv).mono ?_; rintro e w1 ⟨b, zs, rfl, hz, hzl, hzc, hu1⟩
  go_wp2_with fail
  go_at_call 74; refine (Tryz.slices_Contains_string b 0 zs.length zs.length zs v _ (Nat.le_refl _) (by omega) (fun j hj => ?_)).mono ?_
  · rw [Nat.zero_add, hzc.out j hj, List.getD, List.getElem?_eq_getElem hj]; rfl
  rintro e w2 ⟨rfl, rfl⟩
  go_wp2_with fail
  go_ret
  refine ⟨vret_bool ?_, hu1⟩
  rw [hF.out, Bool.eq_iff_iff, Lib.containsS_iff, decide_eq_true_eq, ← hz.out, List.mem_map]
  exact ⟨fun h => ⟨v, h, rfl⟩, fun ⟨z, h1, h2⟩ => by rw [← WideShapes.bytes_inj h2]; exact h1⟩
theorem fits_any (k p v : ByteArray) (w : World) (hp : p.size < 4294967281) (hvs : v.size < 4294967281) (hv : Vars w) (hk : IsKind k.toList) (ha : k.toList = [80, 78] → Ascii p.data.toList ∧ Ascii v.data.toList) :
    Calls Tryz.prog 40 #[.string k, .string p, .string v] w fun e w' => e = .returned (.bool (fitsB k.data.toList p.data.toList v.data.toList)) ∧ Up w w' := by
  by_cases hv0 : v.toList = []
  · rcases hk with h | h | h | h | h | h | h
    · exact fits_LO k p v w hp hvs (Or.inl h)
    · exact fits_PN k p v w hp hvs h (ha h).1 (ha h).2
    · exact fits_LO k p v w hp hvs (Or.inr h)
    · exact fits_none k p v w (by simp [h]) hv0
    · exact fits_none k p v w (by simp [h]) hv0
    · exact fits_none k p v w (by simp [h]) hv0
    · exact fits_none k p v w (by simp [h]) hv0
  · rcases hk with h | h | h | h | h | h | h
    · exact fits_LO k p v w hp hvs (Or.inl h)
    · exact fits_PN k p v w hp hvs h (ha h).1 (ha h).2
    · exact fits_LO k p v w hp hvs (Or.inr h)
    · exact fits_UI k p v w hp hv h hv0
    · exact fits_DA k p v w hp hv h hv0
    · exact fits_TM k p v w hp hvs hv h hv0
    · exact fits_IS k p v w hp hvs hv h hv0

/- Match. -/
theorem ascii_text (l : Bs) (h : isTextB l = true) : Ascii l := by
  unfold isTextB at h
  rw [Bool.and_eq_true, List.all_eq_true] at h
  intro j b hb
  have := h.2 b (List.mem_of_getElem? hb)
  simp [textC, nb] at this
  omega
theorem kind_of_chk {k l : Bs} (h : chk k l = 0) : IsKind k := by
  unfold chk chkF at h
  unfold IsKind
  by_cases h1 : k = [67, 83]
  · simp [h1]
  by_cases h2 : k = [80, 78]
  · simp [h2]
  by_cases h3 : k = [76, 79]
  · simp [h3]
  by_cases h4 : k = [85, 73]
  · simp [h4]
  by_cases h5 : k = [68, 65]
  · simp [h5]
  by_cases h6 : k = [84, 77]
  · simp [h6]
  by_cases h7 : k = [73, 83]
  · simp [h7]
  simp [h1, h2, h3, h4, h5, h6, h7] at h
theorem ascii_PN {l : Bs} (h : chk [80, 78] l = 0) : Ascii l := by
  by_cases e : l = []
  · subst e; intro j b hb; simp at hb
  · unfold chk at h
    rw [if_neg (fun c => e c.2)] at h
    have : (decide (l.count 94 ≤ 4) && txtB l) = true := by
      by_cases hc : (decide (l.count 94 ≤ 4) && txtB l) = true
      · exact hc
      · simp only [chkF] at h
        rw [if_neg (by decide), if_pos trivial, if_neg hc] at h
        cases h
    rw [Bool.and_eq_true] at this
    have h2 := this.2
    unfold txtB at h2
    simp only [Bool.and_eq_true] at h2
    exact ascii_text l h2.1.2
theorem Match_any (k p v : ByteArray) (w : World) (hp : p.size < 4294967281) (hvs : v.size < 4294967281) (hv : Vars w) :
    Calls Tryz.prog 12 #[.string k, .string p, .string v] w fun e w' => e = .returned (.tuple #[.bool (matchV k.data.toList p.data.toList v.data.toList), .int .i64 (matchE k.data.toList p.data.toList v.data.toList)]) ∧ Up w w' := by
  by_cases hc : chk k.data.toList v.data.toList = 0
  · have hK : Hid (IsKind k.toList) := by unfold Hid; rw [Lib.toList_data]; exact kind_of_chk hc
    have HC := hid hc
    by_cases hp0 : p.toList = []
    · have hV : Hid (matchV k.data.toList p.data.toList v.data.toList = true) := by unfold Hid matchV; rw [if_neg (fun h => h hc), if_pos (by rw [← Lib.toList_data]; exact hp0)]
      have hE : Hid (matchE k.data.toList p.data.toList v.data.toList = 0) := by unfold Hid matchE; rw [if_neg (fun h => h hc), if_pos (by rw [← Lib.toList_data]; exact hp0)]
      go_enter Tryz.func12, Tryz.ntmps12
      go_wp2_with (go_at_call 13; refine (Check_any _ _ _ (by omega) hv).mono ?_; rintro e w' ⟨rfl, hup⟩)
      go_ret2
      exact ⟨by rw [hV.out, hE.out]; rfl, hup⟩
    · have hie : p.toList.isEmpty = false := by simpa using hp0
      cases hi : isPatB k.data.toList p.data.toList
      · have hV : Hid (matchV k.data.toList p.data.toList v.data.toList = false) := by unfold Hid matchV; rw [if_neg (fun h => h hc), if_neg (by rw [← Lib.toList_data]; exact hp0), hi]; rfl
        have hE : Hid (matchE k.data.toList p.data.toList v.data.toList = 12) := by unfold Hid matchE; rw [if_neg (fun h => h hc), if_neg (by rw [← Lib.toList_data]; exact hp0), hi]; rfl
        go_enter Tryz.func12, Tryz.ntmps12
        go_wp2_with fail
        go_at_call 13; refine (Check_any _ _ _ (by omega) hv).mono ?_; rintro e w1 ⟨rfl, hu1⟩
        go_wp2_with fail
        go_at_call 39; refine (isPattern_any _ _ _ hp (hv.up hu1) hK.out).mono ?_; rintro e w2 ⟨rfl, hu2⟩
        go_wp2_with fail
        go_ret2
        exact ⟨by rw [hV.out, hE.out]; rfl, hu1.trans hu2⟩
      · have hV : Hid (matchV k.data.toList p.data.toList v.data.toList = fitsB k.data.toList p.data.toList v.data.toList) := by unfold Hid matchV; rw [if_neg (fun h => h hc), if_neg (by rw [← Lib.toList_data]; exact hp0), hi]; rfl
        have hE : Hid (matchE k.data.toList p.data.toList v.data.toList = 0) := by unfold Hid matchE; rw [if_neg (fun h => h hc), if_neg (by rw [← Lib.toList_data]; exact hp0), hi]; rfl
        have hA : Hid (k.toList = [80, 78] → Ascii p.data.toList ∧ Ascii v.data.toList) := by
          intro hk
          rw [Lib.toList_data] at hk
          rw [hk] at hc hi
          exact ⟨ascii_text _ hi, ascii_PN hc⟩
        go_enter Tryz.func12, Tryz.ntmps12
        go_wp2_with fail
        go_at_call 13; refine (Check_any _ _ _ (by omega) hv).mono ?_; rintro e w1 ⟨rfl, hu1⟩
        go_wp2_with fail
        go_at_call 39; refine (isPattern_any _ _ _ hp (hv.up hu1) hK.out).mono ?_; rintro e w2 ⟨rfl, hu2⟩
        go_wp2_with fail
        go_at_call 40; refine (fits_any _ _ _ _ hp hvs ((hv.up hu1).up hu2) hK.out hA.out).mono ?_; rintro e w3 ⟨rfl, hu3⟩
        go_wp2_with fail
        go_ret2
        exact ⟨by rw [hV.out, hE.out]; rfl, (hu1.trans hu2).trans hu3⟩
  · have hV : Hid (matchV k.data.toList p.data.toList v.data.toList = false) := by unfold Hid matchV; rw [if_pos hc]
    have hE : Hid (matchE k.data.toList p.data.toList v.data.toList = chk k.data.toList v.data.toList) := by unfold Hid matchE; rw [if_pos hc]
    have hc' : (chk k.data.toList v.data.toList == 0) = false := by simpa using hc
    go_enter Tryz.func12, Tryz.ntmps12
    go_wp2_with (go_at_call 13; refine (Check_any _ _ _ (by omega) hv).mono ?_; rintro e w' ⟨rfl, hup⟩)
    go_ret2
    exact ⟨by rw [hV.out, hE.out]; rfl, hup⟩
end Go.Proofs.YtaokifbpakbgdaaGreatDoor

/- What the statements' frames share: the listed variables give what the walks ask; an input that fits; the number that a raw number picks. -/
namespace Go.Proofs.YtaokifbpakbgdaaGreatDoor
open Go.ChangeShapes Go.WideShapes Go.ChangeAt Go.RowKit

def vpk (k n : Int) : Int := (if k < 0 then -(k + 1) else k) % n
theorem vpick_any (k n : Int) (w : World) (h1 : -9223372036854775808 ≤ k) (h2 : k ≤ 9223372036854775807) (h3 : 0 < n) (h4 : n ≤ 9223372036854775807) :
    Calls Tryz.prog 24 #[.int .i64 k, .int .i64 n] w fun e w' => e = .returned (.int .i64 (vpk k n)) ∧ w' = w := by
  by_cases h : k < 0
  · have e : Hid (vpk k n = -(k + 1) % n) := by unfold Hid vpk; rw [if_pos h]
    go_enter Tryz.func24, Tryz.ntmps24
    go_wp2
    go_ret
    refine ⟨vret_int ?_, rfl⟩
    rw [e.out, ← Int.neg_tmod, Int.tmod_eq_emod_of_nonneg (by omega)]
  · have e : Hid (vpk k n = k % n) := by unfold Hid vpk; rw [if_neg h]
    go_enter Tryz.func24, Tryz.ntmps24
    go_wp2
    go_ret
    exact ⟨vret_int e.out.symm, rfl⟩
theorem vpk_bd (k n : Int) (h : 0 < n) : 0 ≤ vpk k n ∧ vpk k n < n := ⟨Int.emod_nonneg _ (by omega), Int.emod_lt_of_pos _ h⟩

theorem own : ownKnob Tryz.prog.godebug = none := by kernel_rfl
theorem g_syntax : Tryz.prog.globalNamed "strconv.ErrSyntax" = some 7 := by kernel_rfl
theorem g_range : Tryz.prog.globalNamed "strconv.ErrRange" = some 8 := by kernel_rfl
theorem t_syntax : (Tryz.prog.globals[7]?).map (·.type) = some 165 := by kernel_rfl
theorem t_range : (Tryz.prog.globals[8]?).map (·.type) = some 165 := by kernel_rfl
theorem iface_cell {W : World} {n : String} {g : Nat} {cs : Array Value} {fuel : Nat} {nm : String} {d : DataW Unit} {p : List MemPlace} (hg : Tryz.prog.globalNamed n = some g)
    (hv : W.var? Tryz.prog n = some cs) (hd : DataW.trod (fun _ => ()) Tryz.prog W 0 (fun _ => true) false fuel 165 cs.toList = some (.iface nm d, p)) :
    ∃ ev, W.cell? ⟨g, 0, none⟩ = some ev ∧ (ev = .nilIface ∨ ∃ te pe, ev = .iface te pe) := by
  obtain ⟨l⟩ := cs
  obtain ⟨f1, u, v, rfl, _, _⟩ := iface_of_trod Tryz.underlying165 hd
  exact ⟨.iface u v, by simpa using World.var?_cell hg hv 0, Or.inr ⟨u, v, rfl⟩⟩
/-- THERE IS AN INPUT THAT FITS, at a world in which the listed variables are laid. -/
theorem witness_laid {H : Type} {enc : TypeId × Value → H} {os : Os} {f : FuncId} {fn : Func} {s : OpenSpec} {conds : List PathCond} {apart : Bool} {laid : List (String × DataW Unit)} (w0 : World) (args : Array Value) (hos : w0.os = os)
    (hsh : (w0.forCall (fun _ _ => 0) ⟨#[], args, []⟩).Shaped Tryz.checked.prog)
    (hok : Input.okWideB Tryz.checked.prog (w0.forCall (fun _ _ => 0) ⟨#[], args, []⟩) f ⟨#[], args, []⟩ = true)
    (hrow : s.preRow enc Tryz.checked.prog fn conds apart laid (w0.forCall (fun _ _ => 0) ⟨#[], args, []⟩).memory args) :
    ∃ (w : World) (tape : Tape) (i : Input), w.os = os ∧ (w.forCall tape i).Shaped Tryz.checked.prog ∧ i.vars = [] ∧ Input.okWide Tryz.checked.prog (w.forCall tape i) .any w.heap.size f i ∧
      s.preRow enc Tryz.checked.prog fn conds apart laid (w.forCall tape i).memory i.args ∧ ({} : Assume).holds Tryz.checked.prog (lone (Frame.enter Tryz.checked.prog f i.args .normal) [] (w.forCall tape i)) :=
  ⟨w0, fun _ _ => 0, ⟨#[], args, []⟩, hos, hsh, (Input.okWide_of_okWideB (base := 0) hok).1, (Input.okWide_of_okWideB hok).2, hrow, by
    simp only [Assume.holds]
    exact ⟨by simp, by simp, fun _ => Modest.zero, by simp, by simp⟩⟩
/-- string([]byte{z}): the text of one byte. -/
def oneB (z : Int) : ByteArray := ⟨#[UInt8.ofNat z.toNat]⟩
theorem one_data (z : Int) : (oneB z).data.toList = [UInt8.ofNat z.toNat] := rfl
theorem one_size (z : Int) : (oneB z).size = 1 := rfl
theorem conv_one (w : World) (z : Int) (h0 : 0 ≤ z) (h1 : z ≤ 255) :
    (convert 49 9 (.slice (some ⟨w.heap.size, 0, none⟩) 1 1)).run Tryz.prog (w.alloc (.cells #[.int .u8 z] 5)) = .ok (.string (oneB z)) (w.alloc (.cells #[.int .u8 z] 5)) := by
  refine run_convert_bytes_back (P := Tryz.prog) _ 49 9 5 ⟨w.heap.size, 0, none⟩ 1 [UInt8.ofNat z.toNat] Tryz.underlying49 Tryz.underlying5 Tryz.underlying9 (fun j hj => ?_)
  obtain rfl : j = 0 := by simpa using hj
  have e : (UInt8.ofNat z.toNat).toNat = z.toNat := by rw [UInt8.toNat_ofNat']; omega
  have e2 : ((⟨w.heap.size, 0, none⟩ : Addr).add 0) = ⟨w.heap.size, 0, none⟩ := rfl
  rw [e2, World.cell?_alloc_new]
  simp [e]
  omega
theorem int_bd {k : Int} (wk : (Lit.int .i64 k).wf = true) : -9223372036854775808 ≤ k ∧ k ≤ 9223372036854775807 := by
  simp [Lit.wf] at wk
  exact wk
end Go.Proofs.YtaokifbpakbgdaaGreatDoor

/- Data sets as trees, as bytes, and what is wrong with them (no program): the bytes of a data set by lengths or by marks; a reader of such bytes; the first thing that is wrong. -/
namespace Go.Proofs.YtaokifbpakbgdaaGreatDoor

abbrev By := List UInt8
/-- An element, known down to a depth; nothing is known of one at depth 0. -/
def El : Nat → Type
  | 0 => Unit
  | n + 1 => Int × By × By × List (List (El n))
abbrev Its (n : Nat) := List (List (El n))
def mkE : (n : Nat) → Int → By → By → Its (n - 1) → El n
  | 0, _, _, _, _ => ()
  | _ + 1, t, k, v, its => (t, k, v, its)

abbrev SQ : By := [83, 81]
abbrev UI : By := [85, 73]
def padB (k : By) : UInt8 := if k = UI then 0 else 32
def kinds : List By := [[85, 73], [67, 83], [76, 79], [80, 78], [68, 65], [84, 77], [73, 83], [83, 81]]
def isK (k : By) : Bool := kinds.contains k

/-- The number that bytes are, the lowest first; a number as so many bytes. -/
def le : By → Nat
  | [] => 0
  | c :: l => c.toNat + 256 * le l
def lows : Nat → Nat → By
  | 0, _ => []
  | k + 1, n => UInt8.ofNat (n % 256) :: lows k (n / 256)
theorem lows_length : ∀ k n, (lows k n).length = k
  | 0, _ => rfl
  | k + 1, n => by simp [lows, lows_length k]
theorem le_lows : ∀ k n, le (lows k n) = n % 256 ^ k
  | 0, n => by simp [le, lows, Nat.mod_one]
  | k + 1, n => by
    have e : (UInt8.ofNat (n % 256)).toNat = n % 256 := by rw [UInt8.toNat_ofNat']; omega
    rw [lows, le, le_lows k, e, Nat.pow_succ, Nat.mul_comm (256 ^ k) 256, Nat.mod_mul]
theorem le_lt : ∀ l : By, le l < 256 ^ l.length
  | [] => by simp [le]
  | c :: l => by
    have := le_lt l
    have hc := c.toNat_lt
    rw [le, List.length_cons, Nat.pow_succ]
    omega

/- A reader of bytes: none: something is wrong. -/
def tk (k : Nat) (s : By) : Option (By × By) := if k ≤ s.length then some (s.take k, s.drop k) else none
def nu (k : Nat) (s : By) : Option (Nat × By) := match tk k s with
  | none => none
  | some (a, r) => some (le a, r)
def tg (s : By) : Option (Nat × By) := match nu 2 s with
  | none => none
  | some (u, r) => match nu 2 r with
    | none => none
    | some (l, r) => some (65536 * u + l, r)
def ze (k : Nat) (s : By) : Option By := match nu k s with
  | none => none
  | some (n, r) => if n = 0 then some r else none
def trimB (p : UInt8) (v : By) : By := (v.reverse.dropWhile (· == p)).reverse
def va (k : By) (s : By) : Option (By × By) := match nu 2 s with
  | none => none
  | some (n, r) => if n % 2 = 0 then match tk n r with
      | none => none
      | some (v, r) => some (trimB (padB k) v, r)
    else none
/-- Things up to the end. -/
def toEnd {α : Type} (f : Nat → By → Option (α × By)) : Nat → By → Option (List α)
  | 0, s => if s = [] then some [] else none
  | k + 1, s => if s = [] then some [] else match tg s with
    | none => none
    | some (t, r) => match f t r with
      | none => none
      | some (x, r) => match toEnd f k r with
        | none => none
        | some l => some (x :: l)
/-- Things up to a mark. -/
def toMark {α : Type} (m : Nat) (f : Nat → By → Option (α × By)) : Nat → By → Option (List α × By)
  | 0, _ => none
  | k + 1, s => match tg s with
    | none => none
    | some (t, r) => if t = m then match ze 4 r with
        | none => none
        | some r => some ([], r)
      else match f t r with
      | none => none
      | some (x, r) => match toMark m f k r with
        | none => none
        | some (l, r) => some (x :: l, r)
/-- Things behind their length, or up to a mark. -/
def lg {α : Type} (m : Nat) (f : Nat → By → Option (α × By)) (s : By) : Option (List α × By) := match nu 4 s with
  | none => none
  | some (n, r) => if n = 4294967295 then toMark m f r.length r else match tk n r with
    | none => none
    | some (a, r) => match toEnd f a.length a with
      | none => none
      | some l => some (l, r)
def itP {α : Type} (f : Nat → By → Option (α × By)) (t : Nat) (s : By) : Option (List α × By) := if t = 4294893568 then lg 4294893581 f s else none
def elP : Nat → (n : Nat) → Nat → By → Option (El n × By)
  | 0, _, _, _ => none
  | m + 1, n, t, s => if t / 65536 = 65534 then none else match tk 2 s with
    | none => none
    | some (k, r) => if k = SQ then match ze 2 r with
        | none => none
        | some r => match lg 4294893789 (itP (elP m (n - 1))) r with
          | none => none
          | some (its, r) => some (mkE n t k [] its, r)
      else match va k r with
      | none => none
      | some (v, r) => some (mkE n t k v [], r)
def parse (n : Nat) (s : By) : Option (List (El n)) := toEnd (elP (s.length + 1) n) s.length s

/- What is wrong. -/
def errI {α : Type} (f : List α → Int) : List (List α) → Int
  | [] => 0
  | s :: r => if f s = 0 then errI f r else f s
def errL {α : Type} (e : Int → α → Int) (t : α → Int) : Int → List α → Int
  | _, [] => 0
  | b, x :: l => if e b x = 0 then errL e t (t x) l else e b x
def errE {n : Nat} (g : Its n → Int) (d : Nat) (b : Int) (x : El (n + 1)) : Int :=
  if isK x.2.1 = false then 2
  else if x.1 < 0 ∨ 4294967295 < x.1 ∨ x.1 / 65536 = 65534 ∨ x.1 ≤ b then 3
  else if 64 < x.2.2.1.length ∨ x.2.2.1.getLast? = some (padB x.2.1) then 4
  else if (x.2.1 = SQ ∧ x.2.2.1 ≠ []) ∨ (x.2.1 ≠ SQ ∧ x.2.2.2 ≠ []) then 1
  else if 8 < x.2.2.2.length then 4
  else if x.2.1 = SQ ∧ 2 ≤ d then 5
  else g x.2.2.2
def errS : (n : Nat) → Nat → List (El n) → Int
  | 0, _, l => if 24 < l.length then 4 else 0
  | n + 1, d, l => if 24 < l.length then 4 else errL (errE (errI (errS n (d + 1))) d) (fun x => x.1) (-1) l

/- The bytes. -/
def sizeB (o : Bool) (s : By) : By := if o then [255, 255, 255, 255] else lows 4 s.length
def wrV (p : Nat) (k v : By) : By := (if v.length % 2 = 1 then v ++ [padB k] else v) ++ List.replicate (2 * p) (padB k)
def wrI {α : Type} (f : List α → By) (o : Bool) (s : List α) : By := [254, 255, 0, 224] ++ sizeB o (f s) ++ f s ++ (if o then [254, 255, 13, 224, 0, 0, 0, 0] else [])
def wrT (t : Int) : By := lows 2 (t / 65536).toNat ++ lows 2 (t % 65536).toNat
def wrQ (o : Bool) (a : By) : By := [0, 0] ++ sizeB o a ++ a ++ (if o then [254, 255, 221, 224, 0, 0, 0, 0] else [])
def wrE {n : Nat} (f : List (El n) → By) (o : Bool) (p : Nat) (x : El (n + 1)) : By :=
  wrT x.1 ++ x.2.1 ++ (if x.2.1 = SQ then wrQ o (x.2.2.2.map (wrI f o)).flatten else lows 2 (wrV p x.2.1 x.2.2.1).length ++ wrV p x.2.1 x.2.2.1)
def wrS (o : Bool) (p : Nat) : (n : Nat) → List (El n) → By
  | 0, _ => []
  | n + 1, l => (l.map (wrE (wrS o p n) o p)).flatten
end Go.Proofs.YtaokifbpakbgdaaGreatDoor

/- An archive as a list of data sets, the one that was laid in last at its end: the kinds of the tags, names, what is wrong with a description, what is laid in, taken out and counted (no program). -/
namespace Go.Proofs.YtaokifbpakbgdaaGreatDoor

abbrev LO : By := [76, 79]
def findE {n : Nat} (l : List (El (n + 1))) (t : Int) : Option (El (n + 1)) := l.find? (fun x => decide (x.1 = t))
def textE {n : Nat} (l : List (El (n + 1))) (t : Int) : By := match findE l t with
  | some x => x.2.2.1
  | none => []
/-- The kind of a tag of the table; empty: it is none. -/
def kindT (t : Int) : By :=
  if t = 524312 ∨ t = 2097165 ∨ t = 2097166 then [85, 73]
  else if t = 524320 ∨ t = 1048624 then [68, 65]
  else if t = 524336 then [84, 77]
  else if t = 524368 ∨ t = 1048608 then [76, 79]
  else if t = 524370 ∨ t = 524384 then [67, 83]
  else if t = 1048592 then [80, 78]
  else if t = 2097169 ∨ t = 2097171 ∨ t = 2101760 ∨ t = 2101766 ∨ t = 2101769 then [73, 83]
  else if t = 533016 then [83, 81]
  else []
def isWord (t : Int) : Bool := t == 524544 || t == 524548
def isKept (t : Int) : Bool := if t = 524370 ∨ t = 2101760 ∨ t = 2101766 ∨ t = 2101769 then false else decide (kindT t ≠ [])
/-- Word and Meaning in items: is something wrong with the kinds, and with the values? -/
def badY {n : Nat} (v : Bool) (y : El (n + 1)) : Bool := isWord y.1 && (decide (y.2.1 ≠ LO) || (v && decide (chk LO y.2.2.1 ≠ 0)))
def badI {n : Nat} (v : Bool) (its : Its (n + 1)) : Bool := its.any (fun s => s.any (badY v))
def bad1 {n : Nat} (x : El (n + 2)) : Bool := decide (kindT x.1 ≠ []) && (decide (x.2.1 ≠ kindT x.1) || badI false x.2.2.2)
def bad2 {n : Nat} (x : El (n + 2)) : Bool := decide (kindT x.1 ≠ []) && (if kindT x.1 = SQ then badI true x.2.2.2 else decide (chk (kindT x.1) x.2.2.1 ≠ 0))
/-- The tags of the names; the name of a level. -/
def nameT (i : Nat) : Int := if i = 0 then 1048608 else if i = 1 then 2097165 else if i = 2 then 2097166 else 524312
def nm {n : Nat} (i : Nat) (l : List (El (n + 1))) : By := textE l (nameT i)
/-- What is wrong with a description. -/
def desE {n : Nat} (l : List (El (n + 2))) : Int := if l.any bad1 then 2 else if l.any bad2 then 6 else if nm 0 l = [] ∨ nm 1 l = [] ∨ nm 2 l = [] ∨ nm 3 l = [] then 7 else 0
/-- The descriptions without that of a picture. -/
def outA {n : Nat} (A : List (List (El (n + 1)))) (s : By) : List (List (El (n + 1))) := A.filter (fun o => decide (nm 3 o ≠ s))
def clash {n : Nat} (l o : List (El (n + 1))) : Bool := (decide (nm 2 o = nm 2 l) && decide (nm 1 o ≠ nm 1 l)) || (decide (nm 1 o = nm 1 l) && decide (nm 0 o ≠ nm 0 l))
/-- What laying in answers, and what lies there behind it. -/
def layE {n : Nat} (A : List (List (El (n + 2)))) (l : List (El (n + 2))) : Int := if desE l ≠ 0 then desE l else if (outA A (nm 3 l)).any (clash l) then 8 else if 48 ≤ (outA A (nm 3 l)).length then 9 else 0
def layA {n : Nat} (A : List (List (El (n + 2)))) (l : List (El (n + 2))) : List (List (El (n + 2))) := if layE A l = 0 then outA A (nm 3 l) ++ [l] else A
/-- The names of a level, each once. -/
def seenA {n : Nat} (i : Nat) : List (List (El (n + 1))) → List By → List By
  | [], s => s
  | o :: A, s => seenA i A (if s.contains (nm i o) then s else s ++ [nm i o])
def cntA {n : Nat} (A : List (List (El (n + 1)))) (i : Nat) : Nat := (seenA i A []).length
theorem seenA_nodup {n : Nat} (i : Nat) : ∀ (A : List (List (El (n + 1)))) (s : List By), s.Nodup → (seenA i A s).Nodup
  | [], s, h => h
  | o :: A, s, h => by
    rw [seenA]
    refine seenA_nodup i A _ ?_
    by_cases hc : s.contains (nm i o) = true
    · rw [if_pos hc]; exact h
    · rw [if_neg hc]
      refine List.nodup_append.2 ⟨h, List.nodup_cons.2 ⟨by simp, List.nodup_nil⟩, fun a ha b hb e => ?_⟩
      simp only [List.mem_singleton] at hb
      subst hb
      subst e
      exact hc (by simpa using ha)
theorem seenA_mem {n : Nat} (i : Nat) (x : By) : ∀ (A : List (List (El (n + 1)))) (s : List By), x ∈ seenA i A s ↔ x ∈ s ∨ ∃ o ∈ A, nm i o = x
  | [], s => by simp [seenA]
  | o :: A, s => by
    rw [seenA, seenA_mem i x A]
    by_cases hc : s.contains (nm i o) = true
    · rw [if_pos hc]
      constructor
      · rintro (h | ⟨p, hp, e⟩)
        · exact Or.inl h
        · exact Or.inr ⟨p, List.mem_cons_of_mem _ hp, e⟩
      · rintro (h | ⟨p, hp, e⟩)
        · exact Or.inl h
        · rcases List.mem_cons.1 hp with rfl | hp
          · exact Or.inl (by rw [← e]; simpa using hc)
          · exact Or.inr ⟨p, hp, e⟩
    · rw [if_neg hc]
      constructor
      · rintro (h | ⟨p, hp, e⟩)
        · rcases List.mem_append.1 h with h | h
          · exact Or.inl h
          · exact Or.inr ⟨o, List.mem_cons_self, (List.mem_singleton.1 h).symm⟩
        · exact Or.inr ⟨p, List.mem_cons_of_mem _ hp, e⟩
      · rintro (h | ⟨p, hp, e⟩)
        · exact Or.inl (List.mem_append_left _ h)
        · rcases List.mem_cons.1 hp with rfl | hp
          · exact Or.inl (List.mem_append_right _ (List.mem_singleton.2 e.symm))
          · exact Or.inr ⟨p, hp, e⟩
end Go.Proofs.YtaokifbpakbgdaaGreatDoor
