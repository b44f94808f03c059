/-
  The document's answer (package folioref), second part: nameOK, textOK, dateOK, timeOK, number, valueOK, Check.
-/
import Derived.Test.YtaokifbpakbgdaaGreatDoorRef1
namespace Go.Proofs.YtaokifbpakbgdaaGreatDoor
open Go.RowKit

theorem digitsB_all {z : ByteArray} {m : Nat} (h : z.size ≤ m) (ha : digitsB (z.data.toList.take m) = true) : digitsB z.data.toList = true := all_end (p := dg) h ha
set_option maxHeartbeats 1000000 in
theorem rname_any (s : ByteArray) (w : World) (hs : s.size < 4294967281) :
    Calls Tryz.prog 82 #[.string s] w fun e w' => e = .returned (.bool (nameB s.data.toList)) ∧ Up w w' := by
  have hl : Hid (s.data.toList.length = s.size) := len_list s
  go_enter Tryz.func82, Tryz.ntmps82
  go_wp2_with fail
  go_at_call 87; refine (parts_any s 46 _ _ rfl hs).mono ?_; rintro e w1 ⟨b, cap, zs, rfl, hz, hzl, hcell, hup⟩
  have U := hid hup
  clear hup
  go_wp2_with fail
  go_loop [4] (fun i => ∃ k : Nat, k ≤ zs.length ∧ i = .int .i64 k ∧ Hid ((zs.take k).all (fun z => partB z.data.toList) = true)) (fun i => zs.length - (intOf i).toNat)
  case atStart => exact ⟨0, Nat.zero_le _, rfl, rfl⟩
  case round =>
    obtain ⟨k, hk, rfl, ha⟩ := hrel
    by_cases hlt : k < zs.length
    · have hc := hcell.out k hlt
      generalize hzk : zs[k] = z at hc
      have hsz : z.size ≤ 4294967281 := by have := part_size hz.out hlt; rw [hzk, hl.out] at this; omega
      have HZ : Hid (zs[k] = z) := hzk
      clear hzk
      have bad : Hid (partB z.data.toList = false → false = nameB s.data.toList) := fun h => by
        unfold nameB; rw [of_parts hz.out, takeAll_fail (p := fun z => partB z.data.toList) hlt (by rw [HZ.out]; exact h), Bool.and_false]
      by_cases he : z.toList = []
      · go_wp2
        go_ret
        exact ⟨vret_bool (bad.out (part_empty he)), U.out⟩
      · have h0 : 0 < z.size := by
          rcases Nat.eq_zero_or_pos z.size with h | h
          · exact absurd (by rw [Lib.toList_data]; exact List.eq_nil_of_length_eq_zero (by simpa using h)) he
          · exact h
        have hie : z.toList.isEmpty = false := by simpa using he
        by_cases hq : (z[0].toNat : Int) = 48 ∧ ¬ z.toList = [48]
        · obtain ⟨h48, hne⟩ := hq
          have hq' : (z.toList == [48]) = false := by simpa using hne
          go_wp2
          go_ret
          exact ⟨vret_bool (bad.out (part_zero h0 h48 hne)), U.out⟩
        · have hgo : Hid (digitsB z.data.toList = true → partB z.data.toList = true) := fun hd => by
            by_cases h48 : (z[0].toNat : Int) = 48
            · exact part_one (Classical.byContradiction fun h => hq ⟨h48, h⟩)
            · exact part_ok h0 hd h48
          have hway : (¬ (z[0].toNat : Int) = 48) ∨ ((z[0].toNat : Int) = 48 ∧ z.toList = [48]) := by
            by_cases h48 : (z[0].toNat : Int) = 48
            · exact Or.inr ⟨h48, Classical.byContradiction fun h => hq ⟨h48, h⟩⟩
            · exact Or.inl h48
          clear hq
          rcases hway with h48 | ⟨h48, hone⟩
          all_goals
            go_wp2
            go_loop [5] (fun i => ∃ m : Nat, m ≤ z.size ∧ i = .int .i64 m ∧ Hid (digitsB (z.data.toList.take m) = true)) (fun i => z.size - (intOf i).toNat)
            case atStart => exact ⟨0, Nat.zero_le _, rfl, rfl⟩
            case round =>
              obtain ⟨m, hm, rfl, hd⟩ := hrel
              by_cases hlt2 : m < z.size
              · by_cases c1 : (z[m].toNat : Int) < 48
                · go_wp2
                  go_ret
                  exact ⟨vret_bool (bad.out (part_dig (digitsB_fail hlt2 (by simp [dg, dgI, nb]; omega)))), U.out⟩
                · by_cases c2 : (57 : Int) < (z[m].toNat : Int)
                  · have d2 : decide ((57 : Int) < (z[m].toNat : Int)) = true := decide_eq_true c2
                    go_wp2
                    go_ret
                    exact ⟨vret_bool (bad.out (part_dig (digitsB_fail hlt2 (by simp [dg, dgI, nb]; omega)))), U.out⟩
                  · have d2 : decide ((57 : Int) < (z[m].toNat : Int)) = false := decide_eq_false c2
                    go_wp2
                    go_round
                    case rel => exact ⟨m + 1, by omega, by go_num, all_next (p := dg) hlt2 hd.out (by simp [dg, dgI, nb]; omega)⟩
                    case measure => simp [intOf]; omega
              · have hpart := hid (hgo.out (digitsB_all (by omega) hd.out))
                go_wp2
                go_round
                case rel => exact ⟨k + 1, by omega, by go_num, takeAll_next hlt ha.out (by rw [HZ.out]; exact hpart.out)⟩
                case measure => simp [intOf]; omega
    · have hA : Hid ((spl 46 s.data.toList).all partB = true) := by unfold Hid; rw [of_parts hz.out]; exact takeAll_end (by omega) ha.out
      go_wp2
      go_ret
      exact ⟨vret_bool (by unfold nameB; rw [hA.out, hl.out, Bool.and_true]; exact decide_eq_decide.2 (by omega)), U.out⟩
end Go.Proofs.YtaokifbpakbgdaaGreatDoor
