/-
  Several texts in one; what each one has stands at its head.
-/
import Derived.Test.YtaokifbpakbgdaaGreatDoorPut2
import Derived.Test.YtaokifbpakbgdaaGreatDoorCards
import Derived.Test.YtaokifbpakbgdaaGreatDoorTie
import Derived.ProofKit
import Derived.OpenShut
import Derived.Deep.DeepHandedRow
import Derived.LaidLaws
import Derived.Lay
import Derived.Laws.IdiomStrings
/- What fitsText of package value answers. -/
namespace Go.Proofs.YtaokifbpakbgdaaGreatDoor
open Go.RowKit

theorem len_list (s : ByteArray) : s.data.toList.length = s.size := by simp
theorem byte_eq {c : UInt8} (n : UInt8) : c = n ↔ (c.toNat : Int) = (n.toNat : Int) := by
  rw [← UInt8.toNat_inj]; omega
def leftOf (P V : Bs) (a b d : Value) : Nat := leftG P V (intOf a).toNat (intOf b).toNat (intOf d).toNat

theorem to_nat1 (k : Nat) : ((k : Int) + 1).toNat = k + 1 := by omega
theorem fitsText_any (pat v : ByteArray) (w : World) (hp : pat.size ≤ 9223372036854775806) (hv : v.size ≤ 9223372036854775806) :
    Calls Tryz.prog 69 #[.string pat, .string v] w fun e w' => e = .returned (.bool (glob pat.data.toList v.data.toList)) ∧ Up w w' := by
  have hP : Hid (pat.data.toList.length = pat.size) := len_list pat
  have hV : Hid (v.data.toList.length = v.size) := len_list v
  go_enter Tryz.func69, Tryz.ntmps69
  go_wp2
  go_loopw [5, 6, 7, 8] (fun a b c d wr => ∃ (i j st n : Nat) (s : Int), a = .int .i64 i ∧ b = .int .i64 j ∧ c = .int .i64 s ∧ d = .int .i64 st ∧ Hid (Inv pat.data.toList v.data.toList i j s st) ∧ wr = w.drewN n) (fun a b _ d _ => leftOf pat.data.toList v.data.toList a b d)
  case atStart => exact ⟨0, 0, 0, 0, -1, rfl, rfl, rfl, rfl, inv_start _ _, rfl⟩
  case round =>
    obtain ⟨i, j, st, n, s, rfl, rfl, rfl, rfl, hI, rfl⟩ := hrel
    obtain ⟨b1, b2, b3, b4, b5⟩ := inv_bounds hI.out
    rw [hP.out] at b1 b5
    rw [hV.out] at b2
    by_cases hj : j < v.size
    · by_cases hi : i < pat.size
      · by_cases h42 : (pat[i].toNat : Int) = 42
        · go_wp2
          go_roundw
          case rel => exact ⟨i + 1, j, j, n, _, by go_num, rfl, by go_num, rfl, inv_star hI.out (by rw [hP.out]; exact hi) ((byte_eq 42).2 h42), rfl⟩
          case measure => simp only [leftOf, intOf, to_nat1]; exact left_star (by rw [hP.out]; exact hi) b3
        · by_cases h63 : (pat[i].toNat : Int) = 63
          · go_wp2
            go_quiet (fail)
            go_wp2
            go_roundw
            case rel => exact ⟨i + 1, j + 1, st, _, s, by go_num, by go_num, rfl, rfl, inv_char hI.out (by rw [hP.out]; exact hi) (by rw [hV.out]; exact hj) (fun e => h42 ((byte_eq 42).1 e)) (Or.inl ((byte_eq 63).2 h63)), rfl⟩
            case measure => simp only [leftOf, intOf, to_nat1]; exact left_char (by rw [hP.out]; exact hi)
          · have g63 : ((pat[i].toNat : Int) == 63) = false := by simpa using h63
            by_cases hq : (pat[i].toNat : Int) = (v[j].toNat : Int)
            · have gq : ((pat[i].toNat : Int) == (v[j].toNat : Int)) = true := by simpa using hq
              have HQ : Hid ((pat[i].toNat : Int) = (v[j].toNat : Int)) := hq
              clear hq
              go_wp2
              go_quiet (fail)
              go_wp2
              go_roundw
              case rel => exact ⟨i + 1, j + 1, st, _, s, by go_num, by go_num, rfl, rfl, inv_char hI.out (by rw [hP.out]; exact hi) (by rw [hV.out]; exact hj) (fun e => h42 ((byte_eq 42).1 e)) (Or.inr ((byte_eq _).2 HQ.out)), rfl⟩
              case measure => simp only [leftOf, intOf, to_nat1]; exact left_char (by rw [hP.out]; exact hi)
            · have gq : ((pat[i].toNat : Int) == (v[j].toNat : Int)) = false := by simpa using hq
              by_cases hs0 : 0 ≤ s
              · obtain ⟨a, rfl⟩ : ∃ a : Nat, s = a := ⟨s.toNat, by omega⟩
                go_wp2
                go_quiet (fail)
                go_wp2
                go_roundw
                case rel => exact ⟨a, st + 1, st + 1, _, _, rfl, by go_num, rfl, by go_num, inv_retry hI.out (stuck_char (by rw [hP.out]; exact hi) (by rw [hV.out]; exact hj) (fun e => h42 ((byte_eq 42).1 e)) (fun e => e.elim (fun e => h63 ((byte_eq 63).1 e)) (fun e => hq ((byte_eq _).1 e)))) (by rw [hV.out]; exact hj), rfl⟩
                case measure => simp only [leftOf, intOf, to_nat1]; exact left_retry (by rw [hV.out]; omega)
              · go_wp2
                go_quiet (fail)
                go_wp2
                go_ret
                exact ⟨vret_bool (inv_dead hI.out (stuck_char (by rw [hP.out]; exact hi) (by rw [hV.out]; exact hj) (fun e => h42 ((byte_eq 42).1 e)) (fun e => e.elim (fun e => h63 ((byte_eq 63).1 e)) (fun e => hq ((byte_eq _).1 e)))) (by omega)).symm, Up.drewN (Up.refl _) _⟩
      · have gi : decide ((i : Int) < (pat.size : Int)) = false := by simp; omega
        by_cases hs0 : 0 ≤ s
        · obtain ⟨a, rfl⟩ : ∃ a : Nat, s = a := ⟨s.toNat, by omega⟩
          go_wp2
          go_quiet (fail)
          go_wp2
          go_roundw
          case rel => exact ⟨a, st + 1, st + 1, _, _, rfl, by go_num, rfl, by go_num, inv_retry hI.out (stuck_end (by rw [hP.out]; omega) (by rw [hV.out]; exact hj)) (by rw [hV.out]; exact hj), rfl⟩
          case measure => simp only [leftOf, intOf, to_nat1]; exact left_retry (by rw [hV.out]; omega)
        · go_wp2
          go_quiet (fail)
          go_wp2
          go_ret
          exact ⟨vret_bool (inv_dead hI.out (stuck_end (by rw [hP.out]; omega) (by rw [hV.out]; exact hj)) (by omega)).symm, Up.drewN (Up.refl _) _⟩
    · go_wp2_with (go_at_call 125; refine (Tryz.strings_Trim_one _ 42 (by decide) _ (by simp; omega)).mono ?_; rintro e w' ⟨rfl, hw⟩)
      go_ret
      refine ⟨vret_bool ?_, ?_⟩
      · rw [inv_end hI.out (by rw [hV.out]; omega), List.take_of_length_le (by rw [List.length_drop, hP.out]; omega), Bool.eq_iff_iff, List.isEmpty_iff, trim_all]
      · rcases hw with rfl | rfl
        · exact Up.drewN (Up.refl _) _
        · exact Up.drew (Up.drewN (Up.refl _) _)
end Go.Proofs.YtaokifbpakbgdaaGreatDoor

/- What within, filled, fitsDate, fitsTime, sameNumber, isSpan and allFilled of package value answer. -/
namespace Go.Proofs.YtaokifbpakbgdaaGreatDoor
open Go.RowKit

theorem mk_data (l : Bs) : (⟨l.toArray⟩ : ByteArray).data.toList = l := by simp
theorem mk_size (l : Bs) : (⟨l.toArray⟩ : ByteArray).size = l.length := by rw [← len_list, mk_data]

theorem isEmpty_dec (l : Bs) : l.isEmpty = decide (l = []) := by cases l <;> rfl
theorem data_append (a b : ByteArray) : (a ++ b).data.toList = a.data.toList ++ b.data.toList := by simp
theorem within_any (a b c : ByteArray) (w : World) :
    Calls Tryz.prog 132 #[.string a, .string b, .string c] w fun e w' => e = .returned (.bool (withinB a.data.toList b.data.toList c.data.toList)) ∧ w' = w := by
  go_enter Tryz.func132, Tryz.ntmps132
  go_wp2
  all_goals go_ret
  all_goals refine ⟨vret_bool ?_, rfl⟩
  all_goals simp only [withinB, leB, ← Lib.toList_data, ← isEmpty_dec]
  all_goals simp_all

theorem filled_any (t m : ByteArray) (w : World) (hm : m.size = 2) (ht : t.size ≤ 9223372036854775806) :
    Calls Tryz.prog 134 #[.string t, .string m] w fun e w' => (∃ x : ByteArray, e = .returned (.string x) ∧ Hid (x.data.toList = filledB t.data.toList m.data.toList)) ∧ w' = w := by
  go_enter Tryz.func134, Tryz.ntmps134
  go_wp2
  go_loop [0] (fun a => ∃ (x : ByteArray) (n : Nat), a = .string x ∧ Hid (fillB m.data.toList n x.data.toList = filledB t.data.toList m.data.toList ∧ (x.data.toList = [] ∨ 6 ≤ x.size + n)) ∧ x.size ≤ 9223372036854775806) (fun a => match a with | .string x => 6 - x.size | _ => 0)
  case atStart => exact ⟨t, 6, rfl, ⟨rfl, Or.inr (by omega)⟩, ht⟩
  case round =>
    obtain ⟨x, n, rfl, hx, hl⟩ := hrel
    by_cases h0 : x.toList = []
    · go_wp2
      go_ret
      refine ⟨⟨x, rfl, ?_⟩, rfl⟩
      unfold Hid
      rw [← hx.out.1, fill_stop _ _ _ (fun e => e.1 (by rw [← Lib.toList_data]; exact h0))]
    · by_cases h6 : x.size < 6
      · have hie : x.toList.isEmpty = false := by simpa using h0
        go_wp2
        go_round
        case rel =>
          have hne : x.data.toList ≠ [] := fun e => h0 (by rw [Lib.toList_data]; exact e)
          obtain ⟨n', rfl⟩ : ∃ n', n = n' + 1 := ⟨n - 1, by rcases hx.out.2 with h | h <;> first | exact absurd h hne | omega⟩
          refine ⟨x ++ m, n', rfl, ⟨?_, Or.inr ?_⟩, by rw [ByteArray.size_append]; omega⟩
          · rw [← hx.out.1, fill_go _ _ _ ⟨hne, by rw [len_list]; exact h6⟩, data_append]
          · have := hx.out.2.resolve_left hne
            rw [ByteArray.size_append]; omega
        case measure =>
          show 6 - (x ++ m).size < 6 - x.size
          rw [ByteArray.size_append]; omega
      · have hie : x.toList.isEmpty = false := by simpa using h0
        go_wp2
        go_ret
        refine ⟨⟨x, rfl, ?_⟩, rfl⟩
        unfold Hid
        rw [← hx.out.1, fill_stop _ _ _ (fun e => by have := e.2; rw [len_list] at this; omega)]

theorem cut_len (l : Bs) : (cutB l).1.length ≤ l.length ∧ (cutB l).2.1.length ≤ l.length := by
  unfold cutB Lib.cut
  split
  · simp; omega
  · simp
theorem cut_one (s : ByteArray) (w : World) (hs : s.size < 4294967281) (hv : Vars w) :
    Calls Tryz.prog 124 #[.string s, .string ⟨#[45]⟩] w fun e w' => ∃ f t : ByteArray, e = .returned (.tuple #[.string f, .string t, .bool (cutB s.data.toList).2.2]) ∧
      Hid (f.data.toList = (cutB s.data.toList).1) ∧ Hid (t.data.toList = (cutB s.data.toList).2.1) ∧ f.size < 4294967281 ∧ t.size < 4294967281 ∧ Up w w' := by
  obtain ⟨⟨m, hm⟩, _⟩ := hv
  have hc := cut_len s.data.toList
  rw [len_list] at hc
  refine (Tryz.strings_Cut s ⟨#[45]⟩ m w hs hm).mono ?_
  rintro e w' ⟨rfl, n, rfl⟩
  exact ⟨⟨(cutB s.data.toList).1.toArray⟩, ⟨(cutB s.data.toList).2.1.toArray⟩, rfl, mk_data _, mk_data _, by rw [mk_size]; omega, by rw [mk_size]; omega, Up.drewN (Up.refl _) _⟩

theorem fitsDate_any (p v : ByteArray) (w : World) (hp : p.size < 4294967281) (hv : Vars w) :
    Calls Tryz.prog 71 #[.string p, .string v] w fun e w' => e = .returned (.bool (fitsDateB p.data.toList v.data.toList)) ∧ Up w w' := by
  cases hc : (cutB p.data.toList).2.2
  · have hF : Hid (fitsDateB p.data.toList v.data.toList = (v.data.toList == (cutB p.data.toList).1)) := by unfold Hid fitsDateB; rw [hc]; rfl
    go_enter Tryz.func71, Tryz.ntmps71
    go_wp2_with (go_at_call 124; refine (cut_one _ _ hp hv).mono ?_; rintro e w' ⟨f, t, rfl, hf, ht, _, _, hup⟩)
    go_ret
    exact ⟨vret_bool (by rw [hF.out, ← hf.out, Lib.toList_data, Lib.toList_data]), hup⟩
  · have hF : Hid (fitsDateB p.data.toList v.data.toList = withinB (cutB p.data.toList).1 (cutB p.data.toList).2.1 v.data.toList) := by unfold Hid fitsDateB; rw [hc]; rfl
    go_enter Tryz.func71, Tryz.ntmps71
    go_wp2_with (first
      | (go_at_call 124; refine (cut_one _ _ hp hv).mono ?_; rintro e w' ⟨f, t, rfl, hf, ht, _, _, hup⟩)
      | (go_at_call 132; refine (within_any _ _ _ _).mono ?_; rintro e w' ⟨rfl, rfl⟩))
    go_ret
    exact ⟨vret_bool (by rw [hF.out, ← hf.out, ← ht.out]), hup⟩

theorem fitsTime_any (p v : ByteArray) (w : World) (hp : p.size < 4294967281) (hvs : v.size ≤ 9223372036854775806) (hv : Vars w) :
    Calls Tryz.prog 72 #[.string p, .string v] w fun e w' => e = .returned (.bool (fitsTimeB p.data.toList v.data.toList)) ∧ Up w w' := by
  cases hc : (cutB p.data.toList).2.2
  · have hF : Hid (fitsTimeB p.data.toList v.data.toList = (Lib.hasPrefix v.data.toList (cutB p.data.toList).1 || Lib.hasPrefix (cutB p.data.toList).1 v.data.toList)) := by unfold Hid fitsTimeB; rw [hc]; rfl
    go_enter Tryz.func72, Tryz.ntmps72
    go_wp2_with (first
      | (go_at_call 124; refine (cut_one _ _ hp hv).mono ?_; rintro e w' ⟨f, t, rfl, hf, ht, _, _, hup⟩)
      | (go_at_call 133; refine (Tryz.strings_HasPrefix _ _ _).mono ?_; rintro e w' ⟨rfl, rfl⟩))
    all_goals go_ret
    all_goals refine ⟨vret_bool ?_, hup⟩
    all_goals rw [hF.out, ← hf.out]
    all_goals simp_all
  · have hF : Hid (fitsTimeB p.data.toList v.data.toList = withinB (filledB (cutB p.data.toList).1 [48, 48]) (filledB (cutB p.data.toList).2.1 [53, 57]) (filledB v.data.toList [48, 48])) := by unfold Hid fitsTimeB; rw [hc]; rfl
    go_enter Tryz.func72, Tryz.ntmps72
    go_wp2_with (go_at_call 124; refine (cut_one _ _ hp hv).mono ?_; rintro e w' ⟨f, t, rfl, hf, ht, hfs, hts, hup⟩)
    go_at_call 134; refine (filled_any _ _ _ rfl (by omega)).mono ?_; rintro e w1 ⟨⟨x1, rfl, hx1⟩, rfl⟩
    go_wp2_with fail
    go_at_call 134; refine (filled_any _ _ _ rfl (by omega)).mono ?_; rintro e w1 ⟨⟨x2, rfl, hx2⟩, rfl⟩
    go_wp2_with fail
    go_at_call 134; refine (filled_any _ _ _ rfl (by omega)).mono ?_; rintro e w1 ⟨⟨x3, rfl, hx3⟩, rfl⟩
    go_wp2_with (go_at_call 132; refine (within_any _ _ _ _).mono ?_; rintro e w' ⟨rfl, rfl⟩)
    go_ret
    exact ⟨vret_bool (by rw [hF.out, ← hf.out, ← ht.out, hx1.out, hx2.out, hx3.out]), hup⟩

theorem sameNumber_any (p v : ByteArray) (w : World) (hp : p.size ≤ 9223372036854775806) (hvs : v.size ≤ 9223372036854775806) (hv : Vars w) :
    Calls Tryz.prog 73 #[.string p, .string v] w fun e w' => e = .returned (.bool (sameB p.data.toList v.data.toList)) ∧ Up w w' := by
  go_enter Tryz.func73, Tryz.ntmps73
  go_wp2_with fail
  go_at_call 81; refine (vnumber_any _ _ hp hv).mono ?_; rintro e w1 ⟨rfl, hu1⟩
  go_wp2_with fail
  go_at_call 81; refine (vnumber_any _ _ hvs (hv.up hu1)).mono ?_; rintro e w2 ⟨rfl, hu2⟩
  go_wp2_with fail
  go_ret
  exact ⟨vret_bool rfl, hu1.trans hu2⟩

theorem isSpan_any (k p : ByteArray) (w : World) (hp : p.size < 4294967281) (hv : Vars w) :
    Calls Tryz.prog 68 #[.string k, .string p] w fun e w' => e = .returned (.bool (spanB k.data.toList p.data.toList)) ∧ Up w w' := by
  cases hc : (cutB p.data.toList).2.2
  · have hF : Hid (spanB k.data.toList p.data.toList = decide (chkF k.data.toList (cutB p.data.toList).1 = 0)) := by unfold Hid spanB; rw [hc]; rfl
    go_enter Tryz.func68, Tryz.ntmps68
    go_wp2_with fail
    go_at_call 124; refine (cut_one _ _ hp hv).mono ?_; rintro e w1 ⟨f, t, rfl, hf, ht, hfs, hts, hu1⟩
    rw [hc]
    go_wp2_with fail
    go_at_call 41; refine (checkFilled_any _ _ _ (by omega) (hv.up hu1)).mono ?_; rintro e w2 ⟨rfl, hu2⟩
    go_wp2_with fail
    go_ret
    exact ⟨vret_bool (by rw [hF.out, ← hf.out]; rfl), hu1.trans hu2⟩
  · by_cases h45 : p.toList = [45]
    · have hF : Hid (spanB k.data.toList p.data.toList = false) := by
        unfold Hid spanB; rw [hc, ← Lib.toList_data p, h45]; rfl
      go_enter Tryz.func68, Tryz.ntmps68
      go_wp2_with fail
      go_at_call 124; refine (cut_one _ _ hp hv).mono ?_; rintro e w1 ⟨f, t, rfl, hf, ht, hfs, hts, hu1⟩
      rw [hc]
      go_wp2_with fail
      go_ret
      exact ⟨vret_bool hF.out.symm, hu1⟩
    · have hF : Hid (spanB k.data.toList p.data.toList = (decide (chk k.data.toList (cutB p.data.toList).1 = 0) && decide (chk k.data.toList (cutB p.data.toList).2.1 = 0))) := by
        unfold Hid spanB; rw [hc, ← Lib.toList_data p, decide_eq_false h45]; rfl
      have h45' : (p.toList == [45]) = false := by simpa using h45
      by_cases hk : chk k.data.toList (cutB p.data.toList).1 = 0
      · have HK : Hid (chk k.data.toList (cutB p.data.toList).1 = 0) := hk
        clear hk
        go_enter Tryz.func68, Tryz.ntmps68
        go_wp2_with fail
        go_at_call 124; refine (cut_one _ _ hp hv).mono ?_; rintro e w1 ⟨f, t, rfl, hf, ht, hfs, hts, hu1⟩
        rw [hc]
        go_wp2_with fail
        go_at_call 13; refine (Check_any _ _ _ (by omega) (hv.up hu1)).mono ?_; rintro e w2 ⟨rfl, hu2⟩
        rw [hf.out, HK.out]
        go_wp2_with fail
        go_at_call 13; refine (Check_any _ _ _ (by omega) ((hv.up hu1).up hu2)).mono ?_; rintro e w3 ⟨rfl, hu3⟩
        go_wp2_with fail
        go_ret
        exact ⟨vret_bool (by rw [hF.out, HK.out, ← ht.out]; rfl), (hu1.trans hu2).trans hu3⟩
      · have HK : Hid ((chk k.data.toList (cutB p.data.toList).1 == 0) = false) := by unfold Hid; simpa using hk
        have HD : Hid (decide (chk k.data.toList (cutB p.data.toList).1 = 0) = false) := decide_eq_false hk
        clear hk
        go_enter Tryz.func68, Tryz.ntmps68
        go_wp2_with fail
        go_at_call 124; refine (cut_one _ _ hp hv).mono ?_; rintro e w1 ⟨f, t, rfl, hf, ht, hfs, hts, hu1⟩
        rw [hc]
        go_wp2_with fail
        go_at_call 13; refine (Check_any _ _ _ (by omega) (hv.up hu1)).mono ?_; rintro e w2 ⟨rfl, hu2⟩
        rw [hf.out]
        have hk := HK.out
        go_wp2_with fail
        go_ret
        exact ⟨vret_bool (by rw [hF.out, HD.out]; rfl), hu1.trans hu2⟩

theorem alternatives_any (s : ByteArray) (w : World) (hs : s.size < 4294967281) (hv : Vars w) :
    Calls Tryz.prog 67 #[.string s] w fun e w' => ∃ (b : Nat) (zs : List ByteArray), e = .returned (.slice (some ⟨b, 0, none⟩) zs.length zs.length) ∧
      Hid (zs.map (·.data.toList) = spl 92 s.data.toList) ∧ zs.length ≤ s.size + 1 ∧ Hid (∀ (j : Nat) (h : j < zs.length), w'.cell? ⟨b, j, none⟩ = some (.string zs[j])) ∧ Up w w' := by
  go_enter Tryz.func67, Tryz.ntmps67
  go_wp2_with fail
  go_at_call 123; refine (split_one s 92 _ hs hv).mono ?_; rintro e w' ⟨b, zs, rfl, hz0, hzl, hzc0, hup⟩
  have hz := hid hz0
  have hzc := hid hzc0
  clear hz0 hzc0
  go_wp2_with fail
  go_ret
  exact ⟨b, zs, rfl, hz, hzl, hzc, hup⟩

theorem allFilled_any (k : ByteArray) (b : Nat) (zs : List ByteArray) (w : World) (hv : Vars w) (hn : zs.length ≤ 9223372036854775806) (hsz : Hid (∀ z ∈ zs, z.size ≤ 9223372036854775806))
    (hc : Hid (∀ (j : Nat) (h : j < zs.length), w.cell? ⟨b, j, none⟩ = some (.string zs[j]))) :
    Calls Tryz.prog 66 #[.string k, .slice (some ⟨b, 0, none⟩) zs.length zs.length] w fun e w' => e = .returned (.bool (zs.all fun z => decide (chkF k.data.toList z.data.toList = 0))) ∧ Up w w' := by
  have hF : ∃ q : Bool, Hid ((zs.all fun z => decide (chkF k.data.toList z.data.toList = 0)) = q) := ⟨_, rfl⟩
  obtain ⟨q, hq⟩ := hF
  rw [hq.out]
  go_enter Tryz.func66, Tryz.ntmps66
  go_wp2
  go_loopw [9] (fun i wr => ∃ i' : Nat, i' ≤ zs.length ∧ i = .int .i64 i' ∧ Hid ((zs.take i').all (fun z => decide (chkF k.data.toList z.data.toList = 0)) = true) ∧ Up w wr) (fun i _ => zs.length - (intOf i).toNat)
  case atStart => exact ⟨0, Nat.zero_le _, rfl, rfl, Up.refl _⟩
  case round =>
    obtain ⟨i, hi, rfl, ha, hup⟩ := hrel
    by_cases hlt : i < zs.length
    · have hci := hup.cell (hc.out i hlt)
      have hzz := hsz.out _ (List.getElem_mem hlt)
      go_wp2_with fail
      go_at_call 41; refine (checkFilled_any _ _ _ hzz (hv.up hup)).mono ?_; rintro e w2 ⟨rfl, hu2⟩
      by_cases h0 : chkF k.data.toList zs[i].data.toList = 0
      · go_wp2_with fail
        go_roundw
        case rel => exact ⟨i + 1, by omega, by go_num, takeAll_next hlt ha.out (decide_eq_true h0), hup.trans hu2⟩
        case measure => simp [intOf]; omega
      · go_wp2_with fail
        go_ret
        exact ⟨vret_bool (by rw [← hq.out, takeAll_fail hlt (decide_eq_false h0)]), hup.trans hu2⟩
    · go_wp2
      go_ret
      exact ⟨vret_bool (by rw [← hq.out, takeAll_end (by omega) ha.out]), hup⟩
end Go.Proofs.YtaokifbpakbgdaaGreatDoor

/- What isPattern, fits and Match of package value answer. -/
namespace Go.Proofs.YtaokifbpakbgdaaGreatDoor
open Go.RowKit

theorem ip_text (k p : ByteArray) (w : World) (hp : p.size < 4294967281) (hk : k.toList = [76, 79] ∨ k.toList = [80, 78] ∨ k.toList = [67, 83]) :
    Calls Tryz.prog 39 #[.string k, .string p] w fun e w' => e = .returned (.bool (isPatB k.data.toList p.data.toList)) ∧ Up w w' := by
  have hF : Hid (isPatB k.data.toList p.data.toList = isTextB p.data.toList) := by
    unfold Hid isPatB; rw [← Lib.toList_data k, if_pos hk]
  rcases hk with hk | hk | hk <;>
  (go_enter Tryz.func39, Tryz.ntmps39
   go_wp2_with (go_at_call 65; refine (isText_any _ _ (by omega)).mono ?_; rintro e w' ⟨rfl, rfl⟩)
   go_ret
   exact ⟨vret_bool hF.out.symm, Up.refl _⟩)
theorem ip_name (k p : ByteArray) (w : World) (hp : p.size < 4294967281) (hv : Vars w) (hk : k.toList = [85, 73]) :
    Calls Tryz.prog 39 #[.string k, .string p] w fun e w' => e = .returned (.bool (isPatB k.data.toList p.data.toList)) ∧ Up w w' := by
  have hF : Hid (isPatB k.data.toList p.data.toList = (spl 92 p.data.toList).all fun x => decide (chkF k.data.toList x = 0)) := by
    unfold Hid isPatB; rw [← Lib.toList_data k, hk]; rfl
  go_enter Tryz.func39, Tryz.ntmps39
  go_wp2_with fail
  go_at_call 67; refine (alternatives_any _ _ hp hv).mono ?_; rintro e w1 ⟨b, zs, rfl, hz, hzl, hzc, hu1⟩
  go_wp2_with fail
  go_at_call 66; refine (allFilled_any k b zs _ (hv.up hu1) (by omega) (hid fun z hz' => ?_) hzc).mono ?_
  · obtain ⟨j, hj, rfl⟩ := List.getElem_of_mem hz'
    have := part_size hz.out hj
    rw [len_list] at this; omega
  rintro e w2 ⟨rfl, hu2⟩
  go_wp2_with fail
  go_ret
  exact ⟨vret_bool (by rw [hF.out, of_parts hz.out]), hu1.trans hu2⟩
theorem ip_span (k p : ByteArray) (w : World) (hp : p.size < 4294967281) (hv : Vars w) (hk : k.toList = [68, 65] ∨ k.toList = [84, 77]) :
    Calls Tryz.prog 39 #[.string k, .string p] w fun e w' => e = .returned (.bool (isPatB k.data.toList p.data.toList)) ∧ Up w w' := by
  have hF : Hid (isPatB k.data.toList p.data.toList = spanB k.data.toList p.data.toList) := by
    unfold Hid isPatB; rw [← Lib.toList_data k]; rcases hk with hk | hk <;> rw [hk] <;> rfl
  rcases hk with hk | hk <;>
  (go_enter Tryz.func39, Tryz.ntmps39
   go_wp2_with (go_at_call 68; refine (isSpan_any _ _ _ hp hv).mono ?_; rintro e w' ⟨rfl, hup⟩)
   go_ret
   exact ⟨vret_bool hF.out.symm, hup⟩)
theorem ip_num (k p : ByteArray) (w : World) (hp : p.size < 4294967281) (hv : Vars w) (hk : k.toList = [73, 83]) :
    Calls Tryz.prog 39 #[.string k, .string p] w fun e w' => e = .returned (.bool (isPatB k.data.toList p.data.toList)) ∧ Up w w' := by
  have hF : Hid (isPatB k.data.toList p.data.toList = decide (chkF k.data.toList p.data.toList = 0)) := by
    unfold Hid isPatB; rw [← Lib.toList_data k, hk]; rfl
  go_enter Tryz.func39, Tryz.ntmps39
  go_wp2_with (go_at_call 41; refine (checkFilled_any _ _ _ (by omega) hv).mono ?_; rintro e w' ⟨rfl, hup⟩)
  go_ret
  exact ⟨vret_bool (by rw [hF.out]; rfl), hup⟩
/-- The kinds. -/
def IsKind (k : Bs) : Prop := k = [76, 79] ∨ k = [80, 78] ∨ k = [67, 83] ∨ k = [85, 73] ∨ k = [68, 65] ∨ k = [84, 77] ∨ k = [73, 83]
theorem isPattern_any (k p : ByteArray) (w : World) (hp : p.size < 4294967281) (hv : Vars w) (hk : IsKind k.toList) :
    Calls Tryz.prog 39 #[.string k, .string p] w fun e w' => e = .returned (.bool (isPatB k.data.toList p.data.toList)) ∧ Up w w' := by
  rcases hk with h | h | h | h | h | h | h
  · exact ip_text k p w hp (Or.inl h)
  · exact ip_text k p w hp (Or.inr (Or.inl h))
  · exact ip_text k p w hp (Or.inr (Or.inr h))
  · exact ip_name k p w hp hv h
  · exact ip_span k p w hp hv (Or.inl h)
  · exact ip_span k p w hp hv (Or.inr h)
  · exact ip_num k p w hp hv h

/-- Bytes below 128. -/
def Ascii (l : Bs) : Prop := ∀ (j : Nat) (b : UInt8), l[j]? = some b → b.toNat < 128
theorem fits_PN (k p v : ByteArray) (w : World) (hp : p.size < 4294967281) (hvs : v.size < 4294967281) (hk : k.toList = [80, 78]) (ap : Ascii p.data.toList) (av : Ascii v.data.toList) :
    Calls Tryz.prog 40 #[.string k, .string p, .string v] w fun e w' => e = .returned (.bool (fitsB k.data.toList p.data.toList v.data.toList)) ∧ Up w w' := by
  have hF : Hid (fitsB k.data.toList p.data.toList v.data.toList = glob (Lib.toLowerA p.data.toList) (Lib.toLowerA v.data.toList)) := by
    unfold Hid fitsB; rw [← Lib.toList_data k, hk]; rfl
  have AP := hid ap
  have AV := hid av
  clear ap av
  have l1 : (⟨(Lib.toLowerA p.data.toList).toArray⟩ : ByteArray).size ≤ 9223372036854775806 := by rw [mk_size]; simp [Lib.toLowerA]; omega
  have l2 : (⟨(Lib.toLowerA v.data.toList).toArray⟩ : ByteArray).size ≤ 9223372036854775806 := by rw [mk_size]; simp [Lib.toLowerA]; omega
  have c := fun w => fitsText_any ⟨(Lib.toLowerA p.data.toList).toArray⟩ ⟨(Lib.toLowerA v.data.toList).toArray⟩ w l1 l2
  simp only at c
  have C := hid c
  clear c l1 l2
  go_enter Tryz.func40, Tryz.ntmps40
  go_wp2_with fail
  go_at_call 70; refine (Tryz.strings_ToLower_ascii p _ (by omega) AP.out).mono ?_; rintro e w1 ⟨rfl, hu1⟩
  go_wp2_with fail
  go_at_call 70; refine (Tryz.strings_ToLower_ascii v _ (by omega) AV.out).mono ?_; rintro e w2 ⟨rfl, hu2⟩
  go_wp2_with fail
  go_at_call 69; refine (C.out _).mono ?_; rintro e w3 ⟨rfl, hu3⟩
  go_wp2_with fail
  go_ret
  exact ⟨vret_bool hF.out.symm, (Up.trans hu1 hu2).trans hu3⟩
theorem fits_LO (k p v : ByteArray) (w : World) (hp : p.size < 4294967281) (hvs : v.size < 4294967281) (hk : k.toList = [76, 79] ∨ k.toList = [67, 83]) :
    Calls Tryz.prog 40 #[.string k, .string p, .string v] w fun e w' => e = .returned (.bool (fitsB k.data.toList p.data.toList v.data.toList)) ∧ Up w w' := by
  have hF : Hid (fitsB k.data.toList p.data.toList v.data.toList = glob p.data.toList v.data.toList) := by
    unfold Hid fitsB; rw [← Lib.toList_data k]; rcases hk with hk | hk <;> rw [hk] <;> rfl
  rcases hk with hk | hk <;>
  (go_enter Tryz.func40, Tryz.ntmps40
   go_wp2_with (go_at_call 69; refine (fitsText_any _ _ _ (by omega) (by omega)).mono ?_; rintro e w' ⟨rfl, hup⟩)
   go_ret
   exact ⟨vret_bool hF.out.symm, hup⟩)
theorem fits_none (k p v : ByteArray) (w : World) (hk : k.toList = [68, 65] ∨ k.toList = [84, 77] ∨ k.toList = [73, 83] ∨ k.toList = [85, 73]) (hv0 : v.toList = []) :
    Calls Tryz.prog 40 #[.string k, .string p, .string v] w fun e w' => e = .returned (.bool (fitsB k.data.toList p.data.toList v.data.toList)) ∧ Up w w' := by
  have hF : Hid (fitsB k.data.toList p.data.toList v.data.toList = false) := by
    unfold Hid fitsB; rw [← Lib.toList_data k, ← Lib.toList_data v, hv0]; rcases hk with hk | hk | hk | hk <;> rw [hk] <;> rfl
  rcases hk with hk | hk | hk | hk <;>
  (go_enter Tryz.func40, Tryz.ntmps40
   go_wp2
   go_ret
   exact ⟨vret_bool hF.out.symm, Up.refl _⟩)
theorem fits_DA (k p v : ByteArray) (w : World) (hp : p.size < 4294967281) (hv : Vars w) (hk : k.toList = [68, 65]) (hv0 : ¬ v.toList = []) :
    Calls Tryz.prog 40 #[.string k, .string p, .string v] w fun e w' => e = .returned (.bool (fitsB k.data.toList p.data.toList v.data.toList)) ∧ Up w w' := by
  have hF : Hid (fitsB k.data.toList p.data.toList v.data.toList = fitsDateB p.data.toList v.data.toList) := by
    unfold Hid fitsB; rw [← Lib.toList_data k, ← Lib.toList_data v, hk, if_neg (by decide), if_neg (by decide), if_neg hv0, if_pos rfl]
  have hie : v.toList.isEmpty = false := by simpa using hv0
  go_enter Tryz.func40, Tryz.ntmps40
  go_wp2_with (go_at_call 71; refine (fitsDate_any _ _ _ hp hv).mono ?_; rintro e w' ⟨rfl, hup⟩)
  go_ret
  exact ⟨vret_bool hF.out.symm, hup⟩
theorem fits_TM (k p v : ByteArray) (w : World) (hp : p.size < 4294967281) (hvs : v.size < 4294967281) (hv : Vars w) (hk : k.toList = [84, 77]) (hv0 : ¬ v.toList = []) :
    Calls Tryz.prog 40 #[.string k, .string p, .string v] w fun e w' => e = .returned (.bool (fitsB k.data.toList p.data.toList v.data.toList)) ∧ Up w w' := by
  have hF : Hid (fitsB k.data.toList p.data.toList v.data.toList = fitsTimeB p.data.toList v.data.toList) := by
    unfold Hid fitsB; rw [← Lib.toList_data k, ← Lib.toList_data v, hk, if_neg (by decide), if_neg (by decide), if_neg hv0, if_neg (by decide), if_pos rfl]
  have hie : v.toList.isEmpty = false := by simpa using hv0
  go_enter Tryz.func40, Tryz.ntmps40
  go_wp2_with (go_at_call 72; refine (fitsTime_any _ _ _ hp (by omega) hv).mono ?_; rintro e w' ⟨rfl, hup⟩)
  go_ret
  exact ⟨vret_bool hF.out.symm, hup⟩
theorem fits_IS (k p v : ByteArray) (w : World) (hp : p.size < 4294967281) (hvs : v.size < 4294967281) (hv : Vars w) (hk : k.toList = [73, 83]) (hv0 : ¬ v.toList = []) :
    Calls Tryz.prog 40 #[.string k, .string p, .string v] w fun e w' => e = .returned (.bool (fitsB k.data.toList p.data.toList v.data.toList)) ∧ Up w w' := by
  have hF : Hid (fitsB k.data.toList p.data.toList v.data.toList = sameB p.data.toList v.data.toList) := by
    unfold Hid fitsB; rw [← Lib.toList_data k, ← Lib.toList_data v, hk, if_neg (by decide), if_neg (by decide), if_neg hv0, if_neg (by decide), if_neg (by decide), if_pos rfl]
  have hie : v.toList.isEmpty = false := by simpa using hv0
  go_enter Tryz.func40, Tryz.ntmps40
  go_wp2_with (go_at_call 73; refine (sameNumber_any _ _ _ (by omega) (by omega) hv).mono ?_; rintro e w' ⟨rfl, hup⟩)
  go_ret
  exact ⟨vret_bool hF.out.symm, hup⟩
theorem fits_UI (k p v : ByteArray) (w : World) (hp : p.size < 4294967281) (hv : Vars w) (hk : k.toList = [85, 73]) (hv0 : ¬ v.toList = []) :
    Calls Tryz.prog 40 #[.string k, .string p, .string v] w fun e w' => e = .returned (.bool (fitsB k.data.toList p.data.toList v.data.toList)) ∧ Up w w' := by
  have hF : Hid (fitsB k.data.toList p.data.toList v.data.toList = decide (v.data.toList ∈ spl 92 p.data.toList)) := by
    unfold Hid fitsB; rw [← Lib.toList_data k, ← Lib.toList_data v, hk, if_neg (by decide), if_neg (by decide), if_neg hv0, if_neg (by decide), if_neg (by decide), if_neg (by decide)]
  have hie : v.toList.isEmpty = false := by simpa using hv0
  go_enter Tryz.func40, Tryz.ntmps40
  go_wp2_with fail
  go_at_call 67; refine (alternatives_any _ _ hp hv).mono ?_; rintro e w1 ⟨b, zs, rfl, hz, hzl, hzc, hu1⟩
  go_wp2_with fail
  go_at_call 74; refine (Tryz.slices_Contains_string b 0 zs.length zs.length zs v _ (Nat.le_refl _) (by omega) (fun j hj => ?_)).mono ?_
  · rw [Nat.zero_add, hzc.out j hj, List.getD, List.getElem?_eq_getElem hj]; rfl
  rintro e w2 ⟨rfl, rfl⟩
  go_wp2_with fail
  go_ret
  refine ⟨vret_bool ?_, hu1⟩
  rw [hF.out, Bool.eq_iff_iff, Lib.containsS_iff, decide_eq_true_eq, ← hz.out, List.mem_map]
  exact ⟨fun h => ⟨v, h, rfl⟩, fun ⟨z, h1, h2⟩ => by rw [← WideShapes.bytes_inj h2]; exact h1⟩
theorem fits_any (k p v : ByteArray) (w : World) (hp : p.size < 4294967281) (hvs : v.size < 4294967281) (hv : Vars w) (hk : IsKind k.toList) (ha : k.toList = [80, 78] → Ascii p.data.toList ∧ Ascii v.data.toList) :
    Calls Tryz.prog 40 #[.string k, .string p, .string v] w fun e w' => e = .returned (.bool (fitsB k.data.toList p.data.toList v.data.toList)) ∧ Up w w' := by
  by_cases hv0 : v.toList = []
  · rcases hk with h | h | h | h | h | h | h
    · exact fits_LO k p v w hp hvs (Or.inl h)
    · exact fits_PN k p v w hp hvs h (ha h).1 (ha h).2
    · exact fits_LO k p v w hp hvs (Or.inr h)
    · exact fits_none k p v w (by simp [h]) hv0
    · exact fits_none k p v w (by simp [h]) hv0
    · exact fits_none k p v w (by simp [h]) hv0
    · exact fits_none k p v w (by simp [h]) hv0
  · rcases hk with h | h | h | h | h | h | h
    · exact fits_LO k p v w hp hvs (Or.inl h)
    · exact fits_PN k p v w hp hvs h (ha h).1 (ha h).2
    · exact fits_LO k p v w hp hvs (Or.inr h)
    · exact fits_UI k p v w hp hv h hv0
    · exact fits_DA k p v w hp hv h hv0
    · exact fits_TM k p v w hp hvs hv h hv0
    · exact fits_IS k p v w hp hvs hv h hv0

/- Match. -/
theorem ascii_text (l : Bs) (h : isTextB l = true) : Ascii l := by
  unfold isTextB at h
  rw [Bool.and_eq_true, List.all_eq_true] at h
  intro j b hb
  have := h.2 b (List.mem_of_getElem? hb)
  simp [textC, nb] at this
  omega
theorem kind_of_chk {k l : Bs} (h : chk k l = 0) : IsKind k := by
  unfold chk chkF at h
  unfold IsKind
  by_cases h1 : k = [67, 83]
  · simp [h1]
  by_cases h2 : k = [80, 78]
  · simp [h2]
  by_cases h3 : k = [76, 79]
  · simp [h3]
  by_cases h4 : k = [85, 73]
  · simp [h4]
  by_cases h5 : k = [68, 65]
  · simp [h5]
  by_cases h6 : k = [84, 77]
  · simp [h6]
  by_cases h7 : k = [73, 83]
  · simp [h7]
  simp [h1, h2, h3, h4, h5, h6, h7] at h
theorem ascii_PN {l : Bs} (h : chk [80, 78] l = 0) : Ascii l := by
  by_cases e : l = []
  · subst e; intro j b hb; simp at hb
  · unfold chk at h
    rw [if_neg (fun c => e c.2)] at h
    have : (decide (l.count 94 ≤ 4) && txtB l) = true := by
      by_cases hc : (decide (l.count 94 ≤ 4) && txtB l) = true
      · exact hc
      · simp only [chkF] at h
        rw [if_neg (by decide), if_pos trivial, if_neg hc] at h
        cases h
    rw [Bool.and_eq_true] at this
    have h2 := this.2
    unfold txtB at h2
    simp only [Bool.and_eq_true] at h2
    exact ascii_text l h2.1.2
theorem Match_any (k p v : ByteArray) (w : World) (hp : p.size < 4294967281) (hvs : v.size < 4294967281) (hv : Vars w) :
    Calls Tryz.prog 12 #[.string k, .string p, .string v] w fun e w' => e = .returned (.tuple #[.bool (matchV k.data.toList p.data.toList v.data.toList), .int .i64 (matchE k.data.toList p.data.toList v.data.toList)]) ∧ Up w w' := by
  by_cases hc : chk k.data.toList v.data.toList = 0
  · have hK : Hid (IsKind k.toList) := by unfold Hid; rw [Lib.toList_data]; exact kind_of_chk hc
    have HC := hid hc
    by_cases hp0 : p.toList = []
    · have hV : Hid (matchV k.data.toList p.data.toList v.data.toList = true) := by unfold Hid matchV; rw [if_neg (fun h => h hc), if_pos (by rw [← Lib.toList_data]; exact hp0)]
      have hE : Hid (matchE k.data.toList p.data.toList v.data.toList = 0) := by unfold Hid matchE; rw [if_neg (fun h => h hc), if_pos (by rw [← Lib.toList_data]; exact hp0)]
      go_enter Tryz.func12, Tryz.ntmps12
      go_wp2_with (go_at_call 13; refine (Check_any _ _ _ (by omega) hv).mono ?_; rintro e w' ⟨rfl, hup⟩)
      go_ret2
      exact ⟨by rw [hV.out, hE.out]; rfl, hup⟩
    · have hie : p.toList.isEmpty = false := by simpa using hp0
      cases hi : isPatB k.data.toList p.data.toList
      · have hV : Hid (matchV k.data.toList p.data.toList v.data.toList = false) := by unfold Hid matchV; rw [if_neg (fun h => h hc), if_neg (by rw [← Lib.toList_data]; exact hp0), hi]; rfl
        have hE : Hid (matchE k.data.toList p.data.toList v.data.toList = 12) := by unfold Hid matchE; rw [if_neg (fun h => h hc), if_neg (by rw [← Lib.toList_data]; exact hp0), hi]; rfl
        go_enter Tryz.func12, Tryz.ntmps12
        go_wp2_with fail
        go_at_call 13; refine (Check_any _ _ _ (by omega) hv).mono ?_; rintro e w1 ⟨rfl, hu1⟩
        go_wp2_with fail
        go_at_call 39; refine (isPattern_any _ _ _ hp (hv.up hu1) hK.out).mono ?_; rintro e w2 ⟨rfl, hu2⟩
        go_wp2_with fail
        go_ret2
        exact ⟨by rw [hV.out, hE.out]; rfl, hu1.trans hu2⟩
      · have hV : Hid (matchV k.data.toList p.data.toList v.data.toList = fitsB k.data.toList p.data.toList v.data.toList) := by unfold Hid matchV; rw [if_neg (fun h => h hc), if_neg (by rw [← Lib.toList_data]; exact hp0), hi]; rfl
        have hE : Hid (matchE k.data.toList p.data.toList v.data.toList = 0) := by unfold Hid matchE; rw [if_neg (fun h => h hc), if_neg (by rw [← Lib.toList_data]; exact hp0), hi]; rfl
        have hA : Hid (k.toList = [80, 78] → Ascii p.data.toList ∧ Ascii v.data.toList) := by
          intro hk
          rw [Lib.toList_data] at hk
          rw [hk] at hc hi
          exact ⟨ascii_text _ hi, ascii_PN hc⟩
        go_enter Tryz.func12, Tryz.ntmps12
        go_wp2_with fail
        go_at_call 13; refine (Check_any _ _ _ (by omega) hv).mono ?_; rintro e w1 ⟨rfl, hu1⟩
        go_wp2_with fail
        go_at_call 39; refine (isPattern_any _ _ _ hp (hv.up hu1) hK.out).mono ?_; rintro e w2 ⟨rfl, hu2⟩
        go_wp2_with fail
        go_at_call 40; refine (fits_any _ _ _ _ hp hvs ((hv.up hu1).up hu2) hK.out hA.out).mono ?_; rintro e w3 ⟨rfl, hu3⟩
        go_wp2_with fail
        go_ret2
        exact ⟨by rw [hV.out, hE.out]; rfl, (hu1.trans hu2).trans hu3⟩
  · have hV : Hid (matchV k.data.toList p.data.toList v.data.toList = false) := by unfold Hid matchV; rw [if_pos hc]
    have hE : Hid (matchE k.data.toList p.data.toList v.data.toList = chk k.data.toList v.data.toList) := by unfold Hid matchE; rw [if_pos hc]
    have hc' : (chk k.data.toList v.data.toList == 0) = false := by simpa using hc
    go_enter Tryz.func12, Tryz.ntmps12
    go_wp2_with (go_at_call 13; refine (Check_any _ _ _ (by omega) hv).mono ?_; rintro e w' ⟨rfl, hup⟩)
    go_ret2
    exact ⟨by rw [hV.out, hE.out]; rfl, hup⟩
end Go.Proofs.YtaokifbpakbgdaaGreatDoor

/- What the statements' frames share: the listed variables give what the walks ask; an input that fits; the number that a raw number picks. -/
namespace Go.Proofs.YtaokifbpakbgdaaGreatDoor
open Go.ChangeShapes Go.WideShapes Go.ChangeAt Go.RowKit

def vpk (k n : Int) : Int := (if k < 0 then -(k + 1) else k) % n
theorem own : ownKnob Tryz.prog.godebug = none := by kernel_rfl
theorem g_syntax : Tryz.prog.globalNamed "strconv.ErrSyntax" = some 7 := by kernel_rfl
theorem g_range : Tryz.prog.globalNamed "strconv.ErrRange" = some 8 := by kernel_rfl
theorem t_syntax : (Tryz.prog.globals[7]?).map (·.type) = some 165 := by kernel_rfl
theorem t_range : (Tryz.prog.globals[8]?).map (·.type) = some 165 := by kernel_rfl
theorem iface_cell {W : World} {n : String} {g : Nat} {cs : Array Value} {fuel : Nat} {nm : String} {d : DataW Unit} {p : List MemPlace} (hg : Tryz.prog.globalNamed n = some g)
    (hv : W.var? Tryz.prog n = some cs) (hd : DataW.trod (fun _ => ()) Tryz.prog W 0 (fun _ => true) false fuel 165 cs.toList = some (.iface nm d, p)) :
    ∃ ev, W.cell? ⟨g, 0, none⟩ = some ev ∧ (ev = .nilIface ∨ ∃ te pe, ev = .iface te pe) := by
  obtain ⟨l⟩ := cs
  obtain ⟨f1, u, v, rfl, _, _⟩ := iface_of_trod Tryz.underlying165 hd
  exact ⟨.iface u v, by simpa using World.var?_cell hg hv 0, Or.inr ⟨u, v, rfl⟩⟩
/-- THERE IS AN INPUT THAT FITS, at a world in which the listed variables are laid. -/
theorem witness_laid {H : Type} {enc : TypeId × Value → H} {os : Os} {f : FuncId} {fn : Func} {s : OpenSpec} {conds : List PathCond} {apart : Bool} {laid : List (String × DataW Unit)} (w0 : World) (args : Array Value) (hos : w0.os = os)
    (hsh : (w0.forCall (fun _ _ => 0) ⟨#[], args, []⟩).Shaped Tryz.checked.prog)
    (hok : Input.okWideB Tryz.checked.prog (w0.forCall (fun _ _ => 0) ⟨#[], args, []⟩) f ⟨#[], args, []⟩ = true)
    (hrow : s.preRow enc Tryz.checked.prog fn conds apart laid (w0.forCall (fun _ _ => 0) ⟨#[], args, []⟩).memory args) :
    ∃ (w : World) (tape : Tape) (i : Input), w.os = os ∧ (w.forCall tape i).Shaped Tryz.checked.prog ∧ i.vars = [] ∧ Input.okWide Tryz.checked.prog (w.forCall tape i) .any w.heap.size f i ∧
      s.preRow enc Tryz.checked.prog fn conds apart laid (w.forCall tape i).memory i.args ∧ ({} : Assume).holds Tryz.checked.prog (lone (Frame.enter Tryz.checked.prog f i.args .normal) [] (w.forCall tape i)) :=
  ⟨w0, fun _ _ => 0, ⟨#[], args, []⟩, hos, hsh, (Input.okWide_of_okWideB (base := 0) hok).1, (Input.okWide_of_okWideB hok).2, hrow, by
    simp only [Assume.holds]
    exact ⟨by simp, by simp, fun _ => Modest.zero, by simp, by simp⟩⟩
/-- string([]byte{z}): the text of one byte. -/
def oneB (z : Int) : ByteArray := ⟨#[UInt8.ofNat z.toNat]⟩
theorem int_bd {k : Int} (wk : (Lit.int .i64 k).wf = true) : -9223372036854775808 ≤ k ∧ k ≤ 9223372036854775807 := by
  simp [Lit.wf] at wk
  exact wk
end Go.Proofs.YtaokifbpakbgdaaGreatDoor
