/-
  The document's answer (package folioref), fourth part: textOK, number, valueOK, Check.
-/
import Derived.Test.YtaokifbpakbgdaaGreatDoorRef3
namespace Go.Proofs.YtaokifbpakbgdaaGreatDoor
open Go.RowKit

def codesB (l : Bs) : Bool := l.all codeC
def hatsB (l : Bs) : Bool := decide (l.count 94 ≤ 4)
/-- A text of the kinds LO, PN, CS. -/
def rtext (k l : Bs) : Bool := txtB l && (!decide (k = [80, 78]) || hatsB l) && (!decide (k = [67, 83]) || (codesB l && decide (l.length ≤ 16)))
theorem last_of {s : ByteArray} (h : 0 < s.size) : s.data.toList.getLast? = some (s[s.size - 1]'(by omega)) := by
  rw [List.getLast?_eq_getElem?, List.getElem?_eq_getElem (by simp; omega)]
  simp
  rfl
theorem rtext_bad_line {k : Bs} {s : ByteArray} (h : isTextB s.data.toList = false) : rtext k s.data.toList = false := by unfold rtext txtB; rw [h]; simp
theorem rtext_bad_last {k : Bs} {s : ByteArray} (h0 : 0 < s.size) (h : ((s[s.size - 1]'(by omega)).toNat : Int) = 32) : rtext k s.data.toList = false := by
  unfold rtext txtB
  rw [last_of h0, (byte_eq 32).2 h]; simp
theorem txt_good {s : ByteArray} (h0 : 0 < s.size) (ht : isTextB s.data.toList = true) (h : ¬ ((s[s.size - 1]'(by omega)).toNat : Int) = 32) : txtB s.data.toList = true := by
  have hne : ¬ s.data.toList = [] := fun e => by
    have h1 : s.data.toList.length = 0 := by rw [e]; rfl
    rw [len_list] at h1; omega
  unfold txtB
  rw [last_of h0, ht, decide_eq_false hne, decide_eq_false (fun e => h ((byte_eq 32).1 (Option.some.inj e)))]; rfl
theorem beq_dec (a b : Bs) : (a == b) = decide (a = b) := by rw [Bool.eq_iff_iff]; simp
theorem code_of (c : UInt8) : codeC c = (dgI (c.toNat : Int) || (decide (65 ≤ (c.toNat : Int)) && decide ((c.toNat : Int) ≤ 90)) || decide ((c.toNat : Int) = 32) || decide ((c.toNat : Int) = 95)) := rfl
set_option maxHeartbeats 4000000 in
theorem rtext_at (P C : Bool) (k s : ByteArray) (w : World) (hs : s.size < 4294967281) (h0 : 0 < s.size) (hP : (k.toList == [80, 78]) = P) (hC : (k.toList == [67, 83]) = C)
    (ht : isTextB s.data.toList = true) (h32 : ¬ ((s[s.size - 1]'(by omega)).toNat : Int) = 32)
    (R : Hid (rtext k.data.toList s.data.toList = ((!P || hatsB s.data.toList) && (!C || (codesB s.data.toList && decide (s.size ≤ 16)))))) :
    Calls Tryz.prog 86 #[.string k, .string s] w fun e w' => e = .returned (.bool (rtext k.data.toList s.data.toList)) ∧ Up w w' := by
  have d32 : (((s[s.size - 1]'(by omega)).toNat : Int) == 32) = false := by simpa using h32
  rw [R.out]
  cases P
  · cases C
    · go_enter Tryz.func86, Tryz.ntmps86
      go_wp2_with (go_at_call 90; refine (line_any _ _ (by omega)).mono ?_; rintro e w' ⟨rfl, rfl⟩)
      go_at_call 87; refine (parts_any s 94 _ _ rfl hs).mono ?_; rintro e w1 ⟨b, cap, zs, rfl, hz, hzl, hcell, hup⟩
      have U := hid hup
      clear hup
      go_wp2_with fail
      go_loop [7] (fun i => i = .int .i64 0) (fun _ => 0)
      case atStart => rfl
      case round =>
        subst hrel
        go_wp2
        go_ret
        exact ⟨rfl, U.out⟩
    · go_enter Tryz.func86, Tryz.ntmps86
      go_wp2_with (go_at_call 90; refine (line_any _ _ (by omega)).mono ?_; rintro e w' ⟨rfl, rfl⟩)
      go_at_call 87; refine (parts_any s 94 _ _ rfl hs).mono ?_; rintro e w1 ⟨b, cap, zs, rfl, hz, hzl, hcell, hup⟩
      have U := hid hup
      clear hup
      go_wp2_with fail
      go_loop [7] (fun i => ∃ m : Nat, m ≤ s.size ∧ i = .int .i64 m ∧ Hid ((s.data.toList.take m).all codeC = true)) (fun i => s.size - (intOf i).toNat)
      case atStart => exact ⟨0, Nat.zero_le _, rfl, rfl⟩
      case round =>
        obtain ⟨m, hm, rfl, ha⟩ := hrel
        by_cases hlt : m < s.size
        · go_each [(s[m].toNat : Int) < 48, (57 : Int) < s[m].toNat, (s[m].toNat : Int) < 65, (90 : Int) < s[m].toNat, (s[m].toNat : Int) = 32, (s[m].toNat : Int) = 95] =>
            (go_wp2
             all_goals first
              | (exfalso; rename_i hh; simp at hh; omega)
              | (exfalso; simp_all; done)
              | (go_round
                 case rel => exact ⟨m + 1, by omega, by go_num, all_next hlt ha.out (by rw [code_of]; first | (simp [dgI]; omega) | (simp [dgI]; done) | (simp [dgI, *]; done))⟩
                 case measure => simp [intOf]; omega)
              | (go_ret
                 refine ⟨vret_bool ?_, U.out⟩
                 rw [show codesB s.data.toList = false from all_fail (p := codeC) hlt (by rw [code_of]; first | (simp [dgI]; omega) | (simp [dgI]; done) | (simp [dgI, *]; done))]; rfl))
        · have hA : Hid (codesB s.data.toList = true) := all_end (p := codeC) (by omega) ha.out
          go_wp2
          go_ret
          refine ⟨vret_bool ?_, U.out⟩
          rw [hA.out]
          simp
          omega
  · have hcnt : Hid (∀ zs : List ByteArray, zs.map (·.data.toList) = spl 94 s.data.toList → zs.length = s.data.toList.count 94 + 1) := fun zs h => by
      rw [← spl_length, ← h, List.length_map]
    cases C
    · by_cases h4 : s.data.toList.count 94 ≤ 4
      · go_enter Tryz.func86, Tryz.ntmps86
        go_wp2_with (go_at_call 90; refine (line_any _ _ (by omega)).mono ?_; rintro e w' ⟨rfl, rfl⟩)
        go_at_call 87; refine (parts_any s 94 _ _ rfl hs).mono ?_; rintro e w1 ⟨b, cap, zs, rfl, hz, hzl, hcell, hup⟩
        have U := hid hup
        have hn := hcnt.out zs hz.out
        have hn5 : zs.length ≤ 5 := by omega
        clear hup hn
        go_wp2_with fail
        go_loop [7] (fun i => i = .int .i64 0) (fun _ => 0)
        case atStart => rfl
        case round =>
          subst hrel
          go_wp2
          go_ret
          refine ⟨vret_bool ?_, U.out⟩
          rw [show hatsB s.data.toList = true from decide_eq_true h4]
      · go_enter Tryz.func86, Tryz.ntmps86
        go_wp2_with (go_at_call 90; refine (line_any _ _ (by omega)).mono ?_; rintro e w' ⟨rfl, rfl⟩)
        go_at_call 87; refine (parts_any s 94 _ _ rfl hs).mono ?_; rintro e w1 ⟨b, cap, zs, rfl, hz, hzl, hcell, hup⟩
        have U := hid hup
        have hn := hcnt.out zs hz.out
        have hn5 : 5 < zs.length := by omega
        clear hup hn
        go_wp2
        go_ret
        refine ⟨vret_bool ?_, U.out⟩
        rw [show hatsB s.data.toList = false from decide_eq_false h4]; rfl
    · exfalso
      rw [beq_iff_eq] at hP hC
      rw [hP] at hC
      cases hC
theorem rtext_any (k s : ByteArray) (w : World) (hs : s.size < 4294967281) (h0 : 0 < s.size) :
    Calls Tryz.prog 86 #[.string k, .string s] w fun e w' => e = .returned (.bool (rtext k.data.toList s.data.toList)) ∧ Up w w' := by
  have hl : Hid (s.data.toList.length = s.size) := len_list s
  cases ht : isTextB s.data.toList
  · go_enter Tryz.func86, Tryz.ntmps86
    go_wp2_with (go_at_call 90; refine (line_any _ _ (by omega)).mono ?_; rintro e w' ⟨rfl, rfl⟩)
    go_ret
    exact ⟨vret_bool (rtext_bad_line ht).symm, Up.refl _⟩
  · by_cases h32 : ((s[s.size - 1]'(by omega)).toNat : Int) = 32
    · have d32 : (((s[s.size - 1]'(by omega)).toNat : Int) == 32) = true := by simpa using h32
      have H32 := hid h32
      clear h32
      go_enter Tryz.func86, Tryz.ntmps86
      go_wp2_with (go_at_call 90; refine (line_any _ _ (by omega)).mono ?_; rintro e w' ⟨rfl, rfl⟩)
      go_ret
      exact ⟨vret_bool (rtext_bad_last h0 H32.out).symm, Up.refl _⟩
    · refine rtext_at _ _ k s w hs h0 rfl rfl ht h32 ?_
      unfold Hid rtext
      rw [txt_good h0 ht h32, Bool.true_and, hl.out, Lib.toList_data, beq_dec, beq_dec]
end Go.Proofs.YtaokifbpakbgdaaGreatDoor
