/-
  What within, filled, fitsDate, fitsTime, sameNumber, isSpan and allFilled of package value answer.
-/
import Derived.Test.YtaokifbpakbgdaaGreatDoorFits
namespace Go.Proofs.YtaokifbpakbgdaaGreatDoor
open Go.RowKit

theorem mk_data (l : Bs) : (⟨l.toArray⟩ : ByteArray).data.toList = l := by simp
theorem mk_size (l : Bs) : (⟨l.toArray⟩ : ByteArray).size = l.length := by rw [← len_list, mk_data]

theorem isEmpty_dec (l : Bs) : l.isEmpty = decide (l = []) := by cases l <;> rfl
theorem data_append (a b : ByteArray) : (a ++ b).data.toList = a.data.toList ++ b.data.toList := by simp
theorem within_any (a b c : ByteArray) (w : World) :
    Calls Tryz.prog 132 #[.string a, .string b, .string c] w fun e w' => e = .returned (.bool (withinB a.data.toList b.data.toList c.data.toList)) ∧ w' = w := by
  go_enter Tryz.func132, Tryz.ntmps132
  go_wp2
  all_goals go_ret
  all_goals refine ⟨vret_bool ?_, rfl⟩
  all_goals simp only [withinB, leB, ← Lib.toList_data, ← isEmpty_dec]
  all_goals simp_all

theorem filled_any (t m : ByteArray) (w : World) (hm : m.size = 2) (ht : t.size ≤ 9223372036854775806) :
    Calls Tryz.prog 134 #[.string t, .string m] w fun e w' => (∃ x : ByteArray, e = .returned (.string x) ∧ Hid (x.data.toList = filledB t.data.toList m.data.toList)) ∧ w' = w := by
  go_enter Tryz.func134, Tryz.ntmps134
  go_wp2
  go_loop [0] (fun a => ∃ (x : ByteArray) (n : Nat), a = .string x ∧ Hid (fillB m.data.toList n x.data.toList = filledB t.data.toList m.data.toList ∧ (x.data.toList = [] ∨ 6 ≤ x.size + n)) ∧ x.size ≤ 9223372036854775806) (fun a => match a with | .string x => 6 - x.size | _ => 0)
  case atStart => exact ⟨t, 6, rfl, ⟨rfl, Or.inr (by omega)⟩, ht⟩
  case round =>
    obtain ⟨x, n, rfl, hx, hl⟩ := hrel
    by_cases h0 : x.toList = []
    · go_wp2
      go_ret
      refine ⟨⟨x, rfl, ?_⟩, rfl⟩
      unfold Hid
      rw [← hx.out.1, fill_stop _ _ _ (fun e => e.1 (by rw [← Lib.toList_data]; exact h0))]
    · by_cases h6 : x.size < 6
      · have hie : x.toList.isEmpty = false := by simpa using h0
        go_wp2
        go_round
        case rel =>
          have hne : x.data.toList ≠ [] := fun e => h0 (by rw [Lib.toList_data]; exact e)
          obtain ⟨n', rfl⟩ : ∃ n', n = n' + 1 := ⟨n - 1, by rcases hx.out.2 with h | h <;> first | exact absurd h hne | omega⟩
          refine ⟨x ++ m, n', rfl, ⟨?_, Or.inr ?_⟩, by rw [ByteArray.size_append]; omega⟩
          · rw [← hx.out.1, fill_go _ _ _ ⟨hne, by rw [len_list]; exact h6⟩, data_append]
          · have := hx.out.2.resolve_left hne
            rw [ByteArray.size_append]; omega
        case measure =>
          show 6 - (x ++ m).size < 6 - x.size
          rw [ByteArray.size_append]; omega
      · have hie : x.toList.isEmpty = false := by simpa using h0
        go_wp2
        go_ret
        refine ⟨⟨x, rfl, ?_⟩, rfl⟩
        unfold Hid
        rw [← hx.out.1, fill_stop _ _ _ (fun e => by have := e.2; rw [len_list] at this; omega)]

theorem cut_len (l : Bs) : (cutB l).1.length ≤ l.length ∧ (cutB l).2.1.length ≤ l.length := by
  unfold cutB Lib.cut
  split
  · simp; omega
  · simp
theorem cut_one (s : ByteArray) (w : World) (hs : s.size < 4294967281) (hv : Vars w) :
    Calls Tryz.prog 124 #[.string s, .string ⟨#[45]⟩] w fun e w' => ∃ f t : ByteArray, e = .returned (.tuple #[.string f, .string t, .bool (cutB s.data.toList).2.2]) ∧
      Hid (f.data.toList = (cutB s.data.toList).1) ∧ Hid (t.data.toList = (cutB s.data.toList).2.1) ∧ f.size < 4294967281 ∧ t.size < 4294967281 ∧ Up w w' := by
  obtain ⟨⟨m, hm⟩, _⟩ := hv
  have hc := cut_len s.data.toList
  rw [len_list] at hc
  refine (Tryz.strings_Cut s ⟨#[45]⟩ m w hs hm).mono ?_
  rintro e w' ⟨rfl, n, rfl⟩
  exact ⟨⟨(cutB s.data.toList).1.toArray⟩, ⟨(cutB s.data.toList).2.1.toArray⟩, rfl, mk_data _, mk_data _, by rw [mk_size]; omega, by rw [mk_size]; omega, Up.drewN (Up.refl _) _⟩

theorem fitsDate_any (p v : ByteArray) (w : World) (hp : p.size < 4294967281) (hv : Vars w) :
    Calls Tryz.prog 71 #[.string p, .string v] w fun e w' => e = .returned (.bool (fitsDateB p.data.toList v.data.toList)) ∧ Up w w' := by
  cases hc : (cutB p.data.toList).2.2
  · have hF : Hid (fitsDateB p.data.toList v.data.toList = (v.data.toList == (cutB p.data.toList).1)) := by unfold Hid fitsDateB; rw [hc]; rfl
    go_enter Tryz.func71, Tryz.ntmps71
    go_wp2_with (go_at_call 124; refine (cut_one _ _ hp hv).mono ?_; rintro e w' ⟨f, t, rfl, hf, ht, _, _, hup⟩)
    go_ret
    exact ⟨vret_bool (by rw [hF.out, ← hf.out, Lib.toList_data, Lib.toList_data]), hup⟩
  · have hF : Hid (fitsDateB p.data.toList v.data.toList = withinB (cutB p.data.toList).1 (cutB p.data.toList).2.1 v.data.toList) := by unfold Hid fitsDateB; rw [hc]; rfl
    go_enter Tryz.func71, Tryz.ntmps71
    go_wp2_with (first
      | (go_at_call 124; refine (cut_one _ _ hp hv).mono ?_; rintro e w' ⟨f, t, rfl, hf, ht, _, _, hup⟩)
      | (go_at_call 132; refine (within_any _ _ _ _).mono ?_; rintro e w' ⟨rfl, rfl⟩))
    go_ret
    exact ⟨vret_bool (by rw [hF.out, ← hf.out, ← ht.out]), hup⟩

theorem fitsTime_any (p v : ByteArray) (w : World) (hp : p.size < 4294967281) (hvs : v.size ≤ 9223372036854775806) (hv : Vars w) :
    Calls Tryz.prog 72 #[.string p, .string v] w fun e w' => e = .returned (.bool (fitsTimeB p.data.toList v.data.toList)) ∧ Up w w' := by
  cases hc : (cutB p.data.toList).2.2
  · have hF : Hid (fitsTimeB p.data.toList v.data.toList = (Lib.hasPrefix v.data.toList (cutB p.data.toList).1 || Lib.hasPrefix (cutB p.data.toList).1 v.data.toList)) := by unfold Hid fitsTimeB; rw [hc]; rfl
    go_enter Tryz.func72, Tryz.ntmps72
    go_wp2_with (first
      | (go_at_call 124; refine (cut_one _ _ hp hv).mono ?_; rintro e w' ⟨f, t, rfl, hf, ht, _, _, hup⟩)
      | (go_at_call 133; refine (Tryz.strings_HasPrefix _ _ _).mono ?_; rintro e w' ⟨rfl, rfl⟩))
    all_goals go_ret
    all_goals refine ⟨vret_bool ?_, hup⟩
    all_goals rw [hF.out, ← hf.out]
    all_goals simp_all
  · have hF : Hid (fitsTimeB p.data.toList v.data.toList = withinB (filledB (cutB p.data.toList).1 [48, 48]) (filledB (cutB p.data.toList).2.1 [53, 57]) (filledB v.data.toList [48, 48])) := by unfold Hid fitsTimeB; rw [hc]; rfl
    go_enter Tryz.func72, Tryz.ntmps72
    go_wp2_with (go_at_call 124; refine (cut_one _ _ hp hv).mono ?_; rintro e w' ⟨f, t, rfl, hf, ht, hfs, hts, hup⟩)
    go_at_call 134; refine (filled_any _ _ _ rfl (by omega)).mono ?_; rintro e w1 ⟨⟨x1, rfl, hx1⟩, rfl⟩
    go_wp2_with fail
    go_at_call 134; refine (filled_any _ _ _ rfl (by omega)).mono ?_; rintro e w1 ⟨⟨x2, rfl, hx2⟩, rfl⟩
    go_wp2_with fail
    go_at_call 134; refine (filled_any _ _ _ rfl (by omega)).mono ?_; rintro e w1 ⟨⟨x3, rfl, hx3⟩, rfl⟩
    go_wp2_with (go_at_call 132; refine (within_any _ _ _ _).mono ?_; rintro e w' ⟨rfl, rfl⟩)
    go_ret
    exact ⟨vret_bool (by rw [hF.out, ← hf.out, ← ht.out, hx1.out, hx2.out, hx3.out]), hup⟩

theorem sameNumber_any (p v : ByteArray) (w : World) (hp : p.size ≤ 9223372036854775806) (hvs : v.size ≤ 9223372036854775806) (hv : Vars w) :
    Calls Tryz.prog 73 #[.string p, .string v] w fun e w' => e = .returned (.bool (sameB p.data.toList v.data.toList)) ∧ Up w w' := by
  go_enter Tryz.func73, Tryz.ntmps73
  go_wp2_with fail
  go_at_call 81; refine (vnumber_any _ _ hp hv).mono ?_; rintro e w1 ⟨rfl, hu1⟩
  go_wp2_with fail
  go_at_call 81; refine (vnumber_any _ _ hvs (hv.up hu1)).mono ?_; rintro e w2 ⟨rfl, hu2⟩
  go_wp2_with fail
  go_ret
  exact ⟨vret_bool rfl, hu1.trans hu2⟩

theorem isSpan_any (k p : ByteArray) (w : World) (hp : p.size < 4294967281) (hv : Vars w) :
    Calls Tryz.prog 68 #[.string k, .string p] w fun e w' => e = .returned (.bool (spanB k.data.toList p.data.toList)) ∧ Up w w' := by
  cases hc : (cutB p.data.toList).2.2
  · have hF : Hid (spanB k.data.toList p.data.toList = decide (chkF k.data.toList (cutB p.data.toList).1 = 0)) := by unfold Hid spanB; rw [hc]; rfl
    go_enter Tryz.func68, Tryz.ntmps68
    go_wp2_with fail
    go_at_call 124; refine (cut_one _ _ hp hv).mono ?_; rintro e w1 ⟨f, t, rfl, hf, ht, hfs, hts, hu1⟩
    rw [hc]
    go_wp2_with fail
    go_at_call 41; refine (checkFilled_any _ _ _ (by omega) (hv.up hu1)).mono ?_; rintro e w2 ⟨rfl, hu2⟩
    go_wp2_with fail
    go_ret
    exact ⟨vret_bool (by rw [hF.out, ← hf.out]; rfl), hu1.trans hu2⟩
  · by_cases h45 : p.toList = [45]
    · have hF : Hid (spanB k.data.toList p.data.toList = false) := by
        unfold Hid spanB; rw [hc, ← Lib.toList_data p, h45]; rfl
      go_enter Tryz.func68, Tryz.ntmps68
      go_wp2_with fail
      go_at_call 124; refine (cut_one _ _ hp hv).mono ?_; rintro e w1 ⟨f, t, rfl, hf, ht, hfs, hts, hu1⟩
      rw [hc]
      go_wp2_with fail
      go_ret
      exact ⟨vret_bool hF.out.symm, hu1⟩
    · have hF : Hid (spanB k.data.toList p.data.toList = (decide (chk k.data.toList (cutB p.data.toList).1 = 0) && decide (chk k.data.toList (cutB p.data.toList).2.1 = 0))) := by
        unfold Hid spanB; rw [hc, ← Lib.toList_data p, decide_eq_false h45]; rfl
      have h45' : (p.toList == [45]) = false := by simpa using h45
      by_cases hk : chk k.data.toList (cutB p.data.toList).1 = 0
      · have HK : Hid (chk k.data.toList (cutB p.data.toList).1 = 0) := hk
        clear hk
        go_enter Tryz.func68, Tryz.ntmps68
        go_wp2_with fail
        go_at_call 124; refine (cut_one _ _ hp hv).mono ?_; rintro e w1 ⟨f, t, rfl, hf, ht, hfs, hts, hu1⟩
        rw [hc]
        go_wp2_with fail
        go_at_call 13; refine (Check_any _ _ _ (by omega) (hv.up hu1)).mono ?_; rintro e w2 ⟨rfl, hu2⟩
        rw [hf.out, HK.out]
        go_wp2_with fail
        go_at_call 13; refine (Check_any _ _ _ (by omega) ((hv.up hu1).up hu2)).mono ?_; rintro e w3 ⟨rfl, hu3⟩
        go_wp2_with fail
        go_ret
        exact ⟨vret_bool (by rw [hF.out, HK.out, ← ht.out]; rfl), (hu1.trans hu2).trans hu3⟩
      · have HK : Hid ((chk k.data.toList (cutB p.data.toList).1 == 0) = false) := by unfold Hid; simpa using hk
        have HD : Hid (decide (chk k.data.toList (cutB p.data.toList).1 = 0) = false) := decide_eq_false hk
        clear hk
        go_enter Tryz.func68, Tryz.ntmps68
        go_wp2_with fail
        go_at_call 124; refine (cut_one _ _ hp hv).mono ?_; rintro e w1 ⟨f, t, rfl, hf, ht, hfs, hts, hu1⟩
        rw [hc]
        go_wp2_with fail
        go_at_call 13; refine (Check_any _ _ _ (by omega) (hv.up hu1)).mono ?_; rintro e w2 ⟨rfl, hu2⟩
        rw [hf.out]
        have hk := HK.out
        go_wp2_with fail
        go_ret
        exact ⟨vret_bool (by rw [hF.out, HD.out]; rfl), hu1.trans hu2⟩

theorem alternatives_any (s : ByteArray) (w : World) (hs : s.size < 4294967281) (hv : Vars w) :
    Calls Tryz.prog 67 #[.string s] w fun e w' => ∃ (b : Nat) (zs : List ByteArray), e = .returned (.slice (some ⟨b, 0, none⟩) zs.length zs.length) ∧
      Hid (zs.map (·.data.toList) = spl 92 s.data.toList) ∧ zs.length ≤ s.size + 1 ∧ Hid (∀ (j : Nat) (h : j < zs.length), w'.cell? ⟨b, j, none⟩ = some (.string zs[j])) ∧ Up w w' := by
  go_enter Tryz.func67, Tryz.ntmps67
  go_wp2_with fail
  go_at_call 123; refine (split_one s 92 _ hs hv).mono ?_; rintro e w' ⟨b, zs, rfl, hz0, hzl, hzc0, hup⟩
  have hz := hid hz0
  have hzc := hid hzc0
  clear hz0 hzc0
  go_wp2_with fail
  go_ret
  exact ⟨b, zs, rfl, hz, hzl, hzc, hup⟩

theorem allFilled_any (k : ByteArray) (b : Nat) (zs : List ByteArray) (w : World) (hv : Vars w) (hn : zs.length ≤ 9223372036854775806) (hsz : Hid (∀ z ∈ zs, z.size ≤ 9223372036854775806))
    (hc : Hid (∀ (j : Nat) (h : j < zs.length), w.cell? ⟨b, j, none⟩ = some (.string zs[j]))) :
    Calls Tryz.prog 66 #[.string k, .slice (some ⟨b, 0, none⟩) zs.length zs.length] w fun e w' => e = .returned (.bool (zs.all fun z => decide (chkF k.data.toList z.data.toList = 0))) ∧ Up w w' := by
  have hF : ∃ q : Bool, Hid ((zs.all fun z => decide (chkF k.data.toList z.data.toList = 0)) = q) := ⟨_, rfl⟩
  obtain ⟨q, hq⟩ := hF
  rw [hq.out]
  go_enter Tryz.func66, Tryz.ntmps66
  go_wp2
  go_loopw [9] (fun i wr => ∃ i' : Nat, i' ≤ zs.length ∧ i = .int .i64 i' ∧ Hid ((zs.take i').all (fun z => decide (chkF k.data.toList z.data.toList = 0)) = true) ∧ Up w wr) (fun i _ => zs.length - (intOf i).toNat)
  case atStart => exact ⟨0, Nat.zero_le _, rfl, rfl, Up.refl _⟩
  case round =>
    obtain ⟨i, hi, rfl, ha, hup⟩ := hrel
    by_cases hlt : i < zs.length
    · have hci := hup.cell (hc.out i hlt)
      have hzz := hsz.out _ (List.getElem_mem hlt)
      go_wp2_with fail
      go_at_call 41; refine (checkFilled_any _ _ _ hzz (hv.up hup)).mono ?_; rintro e w2 ⟨rfl, hu2⟩
      by_cases h0 : chkF k.data.toList zs[i].data.toList = 0
      · go_wp2_with fail
        go_roundw
        case rel => exact ⟨i + 1, by omega, by go_num, takeAll_next hlt ha.out (decide_eq_true h0), hup.trans hu2⟩
        case measure => simp [intOf]; omega
      · go_wp2_with fail
        go_ret
        exact ⟨vret_bool (by rw [← hq.out, takeAll_fail hlt (decide_eq_false h0)]), hup.trans hu2⟩
    · go_wp2
      go_ret
      exact ⟨vret_bool (by rw [← hq.out, takeAll_end (by omega) ha.out]), hup⟩
end Go.Proofs.YtaokifbpakbgdaaGreatDoor
