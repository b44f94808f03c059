/-
  Several texts in one; what each one has stands at its head.
-/
import Derived.Test.YtaokifbpakbgdaaGreatDoorPut3
import Derived.Test.YtaokifbpakbgdaaGreatDoorPut12
import Derived.OwnWalk
/- The document's answer (package folioref), first part: parts, digits, nameOK, line. -/
namespace Go.Proofs.YtaokifbpakbgdaaGreatDoor
open Go.RowKit

theorem info_string : (Tryz.prog.info? 9).map (fun i => (i.zero, i.size, i.bytes)) = some (some (.string ByteArray.empty), 1, 16) := by kernel_rfl
/-- Between f and k no sign stands. -/
def Free (c : UInt8) (l : Bs) (f k : Nat) : Prop := c ∉ (l.drop f).take (k - f)
theorem free_next {c : UInt8} {s : ByteArray} {f k : Nat} (h : Free c s.data.toList f k) (hf : f ≤ k) (hk : k < s.size) (hc : s[k] ≠ c) : Free c s.data.toList f (k + 1) := by
  unfold Free at h ⊢
  have hlt : k - f < (s.data.toList.drop f).length := by simp; omega
  rw [show k + 1 - f = k - f + 1 by omega, List.take_succ_eq_append_getElem hlt, List.mem_append, List.mem_singleton, List.getElem_drop]
  rintro (h' | h')
  · exact h h'
  · apply hc
    have : f + (k - f) = k := by omega
    simp only [this] at h'
    exact h'.symm
theorem free_hit {c : UInt8} {s : ByteArray} {f k : Nat} (h : Free c s.data.toList f k) (hf : f ≤ k) (hk : k < s.size) (hc : s[k] = c) :
    spl c (s.data.toList.drop f) = (s.extract f k).data.toList :: spl c (s.data.toList.drop (k + 1)) := by
  unfold Free at h
  have e : s.data.toList.drop f = (s.data.toList.drop f).take (k - f) ++ c :: s.data.toList.drop (k + 1) := by
    conv => lhs; rw [← List.take_append_drop (k - f) (s.data.toList.drop f)]
    rw [List.drop_drop, show f + (k - f) = k by omega]
    congr 1
    rw [List.drop_eq_getElem_cons (by simpa using hk)]
    congr 1
  rw [e, spl_hit c _ _ h, sub_data]
theorem free_end {c : UInt8} {s : ByteArray} {f : Nat} (h : Free c s.data.toList f s.size) : spl c (s.data.toList.drop f) = [(s.extract f s.size).data.toList] := by
  unfold Free at h
  rw [List.take_of_length_le (by simp)] at h
  rw [spl_none c _ h, sub_data, List.take_of_length_le (by simp)]
theorem one_cells (w : World) (z : Value) (t : TypeId) : ∀ (j : Nat) (u : Value), [z][j]? = some u → (w.alloc (.cells #[z] t)).cell? ((⟨w.heap.size, 0, none⟩ : Addr).add j) = some u := by
  intro j u hj
  match j, hj with
  | 0, hj => simp at hj; subst hj; simp [Addr.add]
theorem up_append {w wr w2 : World} {e : TypeId} {v : Value} {n : Nat} {xs : List Value} (hU : Up w wr) (hown : wr.ownsRow w.heap.size e 1 v n xs) (o : Obj) (hg : (wr.alloc o).grownBy w2 v.ownBlock) : Up w w2 :=
  Below.grown (Up.alloc hU o) hg (Nat.le_trans hU.size (by simp)) (fun k hk => ((hown.alloc o).lt k hk).1)
theorem own_cells {w' : World} {base : Nat} {e : TypeId} {v : Value} {zs : List ByteArray} (h : w'.ownsRow base e 1 v zs.length (zs.map Value.string)) (hn : ¬ v = .slice none 0 0) :
    ∃ b cap : Nat, v = .slice (some ⟨b, 0, none⟩) zs.length cap ∧ Hid (∀ (j : Nat) (h : j < zs.length), w'.cell? ⟨b, j, none⟩ = some (.string zs[j])) := by
  rcases h.2 with ⟨h0, _⟩ | ⟨g, cap, cur, rfl, _, _, _, _, _, _⟩
  · exact absurd h0 hn
  · refine ⟨g, cap, rfl, fun j hj => ?_⟩
    rw [h.cellAt j (by omega), List.getElem?_map, List.getElem?_eq_getElem hj]; rfl
set_option maxRecDepth 20000 in
theorem parts_any (s : ByteArray) (c : UInt8) (z : Int) (w : World) (hz : Hid (z = (c.toNat : Int))) (hs : s.size < 4294967281) :
    Calls Tryz.prog 87 #[.string s, .int .u8 z] w fun e w' => ∃ (b cap : Nat) (zs : List ByteArray), e = .returned (.slice (some ⟨b, 0, none⟩) zs.length cap) ∧
      Hid (zs.map (·.data.toList) = spl c s.data.toList) ∧ zs.length ≤ s.size + 1 ∧ Hid (∀ (j : Nat) (h : j < zs.length), w'.cell? ⟨b, j, none⟩ = some (.string zs[j])) ∧ Up w w' := by
  obtain ⟨i0, hi0, hz0, hz1, hz2⟩ := info_parts info_string
  have HI := hid hi0
  clear hi0
  go_enter Tryz.func87, Tryz.ntmps87
  go_wp2
  go_loopw [5, 6, 7] (fun a b d wr => ∃ (zs : List ByteArray) (f k : Nat), b = .int .i64 f ∧ d = .int .i64 k ∧ f ≤ k ∧ k ≤ s.size ∧ zs.length ≤ f ∧ Hid (wr.ownsRow w.heap.size 9 1 a zs.length (zs.map Value.string)) ∧
      Hid (zs.map (·.data.toList) ++ spl c (s.data.toList.drop f) = spl c s.data.toList) ∧ Hid (Free c s.data.toList f k) ∧ Hid (Up w wr)) (fun _ _ d _ => s.size - (intOf d).toNat)
  case atStart => exact ⟨[], 0, 0, rfl, rfl, by omega, by omega, by simp, World.ownsRow_nil _ _ _ _, rfl, by unfold Hid Free; simp, Up.refl _⟩
  case round =>
    obtain ⟨zs, f, k, rfl, rfl, hf, hk, hzl, hown, hsp, hfr, hU⟩ := hrel
    by_cases hlt : k < s.size
    · by_cases hc : (s[k].toNat : Int) = z
      · have HC : Hid (s[k] = c) := UInt8.toNat_inj.1 (by have := hz.out; omega)
        have hcb : ((s[k].toNat : Int) == z) = true := by simpa using hc
        clear hc
        go_wp2_with (at_builtin; refine wpList_append_own _ rfl _ _ 70 rfl w.heap.size 9 i0 (.string ByteArray.empty) 1 16 Tryz.underlying70 HI.out hz0 hz1 hz2 rfl (by decide) _ _ _ rfl (hown.out.alloc _) ⟨wr.heap.size, 0, none⟩ 1 1 [.string (s.extract f k)] rfl rfl (one_cells _ _ _) (by intro u hu; simp at hu; subst hu; rfl) (by unfold maxLen; omega) (by omega) (by have := hU.out.size; simp; omega) ?_)
        intro v' w2 hown' hg hne
        have U2 := hid (up_append hU.out hown.out _ hg)
        have O2 := hid hown'
        clear hown' hg
        go_wp2
        go_roundw
        case rel =>
          refine ⟨zs ++ [s.extract f k], k + 1, k + 1, by go_num, by go_num, Nat.le_refl _, by omega, by simp; omega, ?_, ?_, by unfold Hid Free; simp, U2⟩
          · unfold Hid
            rw [List.length_append, List.map_append]
            exact O2.out
          · unfold Hid
            rw [← hsp.out, free_hit hfr.out hf hlt HC.out]
            simp
        case measure => simp [intOf]; omega
      · have HC : Hid (s[k] ≠ c) := fun e => hc (by rw [e]; exact hz.out.symm)
        have hcb : ((s[k].toNat : Int) == z) = false := by simpa using hc
        clear hc
        go_wp2
        go_roundw
        case rel => exact ⟨zs, f, k + 1, rfl, by go_num, by omega, by omega, hzl, hown, hsp, free_next hfr.out hf hlt HC.out, hU⟩
        case measure => simp [intOf]; omega
    · obtain rfl : k = s.size := by omega
      go_wp2_with (at_builtin; refine wpList_append_own _ rfl _ _ 70 rfl w.heap.size 9 i0 (.string ByteArray.empty) 1 16 Tryz.underlying70 HI.out hz0 hz1 hz2 rfl (by decide) _ _ _ rfl (hown.out.alloc _) ⟨wr.heap.size, 0, none⟩ 1 1 [.string (s.extract f s.size)] rfl rfl (one_cells _ _ _) (by intro u hu; simp at hu; subst hu; rfl) (by unfold maxLen; omega) (by omega) (by have := hU.out.size; simp; omega) ?_)
      intro v' w2 hown' hg hne
      have U2 := hid (up_append hU.out hown.out _ hg)
      have e : zs.length + 1 = (zs ++ [s.extract f s.size]).length := by simp
      rw [e, show List.map Value.string zs ++ [Value.string (s.extract f s.size)] = (zs ++ [s.extract f s.size]).map Value.string by simp] at hown'
      obtain ⟨b, cap, rfl, hcells⟩ := own_cells hown' hne
      clear hown' hg e hne
      go_wp2
      go_ret
      refine ⟨b, cap, zs ++ [s.extract f s.size], rfl, ?_, by simp; omega, hcells, U2.out⟩
      unfold Hid
      rw [← hsp.out, free_end hfr.out]
      simp

theorem digit_of (c : UInt8) : dg c = true ↔ 48 ≤ (c.toNat : Int) ∧ (c.toNat : Int) ≤ 57 := dg_iff c
theorem digitsB_fail {s : ByteArray} {k : Nat} (h : k < s.size) (hp : dg s[k] = false) : digitsB s.data.toList = false := all_fail (p := dg) h hp
theorem rdigits_any (s : ByteArray) (w : World) (hs : s.size ≤ 9223372036854775807) :
    Calls Tryz.prog 145 #[.string s] w fun e w' => e = .returned (.int .i64 (rdig s.data.toList)) ∧ w' = w := by
  have hl : Hid (s.data.toList.length = s.size) := len_list s
  by_cases h1 : s.size < 1
  · have hR : Hid (rdig s.data.toList = -1) := by unfold Hid rdig; rw [if_neg (by rw [hl.out]; omega)]
    go_enter Tryz.func145, Tryz.ntmps145
    go_wp2
    go_ret
    exact ⟨vret_int hR.out.symm, rfl⟩
  · by_cases h12 : 12 < s.size
    · have hR : Hid (rdig s.data.toList = -1) := by unfold Hid rdig; rw [if_neg (by rw [hl.out]; omega)]
      have hd : decide ((12 : Int) < s.size) = true := by simp; omega
      go_enter Tryz.func145, Tryz.ntmps145
      go_wp2
      go_ret
      exact ⟨vret_int hR.out.symm, rfl⟩
    · have hd : decide ((12 : Int) < s.size) = false := by simp; omega
      go_enter Tryz.func145, Tryz.ntmps145
      go_wp2
      go_loop [3, 4] (fun n i => ∃ k : Nat, k ≤ s.size ∧ i = .int .i64 k ∧ n = .int .i64 (num (s.data.toList.take k)) ∧ Hid (digitsB (s.data.toList.take k) = true)) (fun _ i => s.size - (intOf i).toNat)
      case atStart => exact ⟨0, Nat.zero_le _, rfl, rfl, rfl⟩
      case round =>
        obtain ⟨k, hk, rfl, rfl, hdg⟩ := hrel
        by_cases hlt : k < s.size
        · have hb := num_lt (s.data.toList.take k) hdg.out 12 (by simp; omega) 1000000000000 rfl
          have HS : Hid (num (s.data.toList.take (k + 1)) = 10 * num (s.data.toList.take k) + (nb s[k] - 48)) := by rw [take_snoc s k hlt]; exact num_snoc _ _
          by_cases hc : 48 ≤ (s[k].toNat : Int) ∧ (s[k].toNat : Int) ≤ 57
          · have HD : Hid (digitsB (s.data.toList.take (k + 1)) = true) := all_next (p := dg) hlt hdg.out ((digit_of _).2 hc)
            obtain ⟨c1, c2⟩ := hc
            have c2' : decide ((57 : Int) < (s[k].toNat : Int)) = false := by simp; omega
            go_wp2
            go_round
            case rel => exact ⟨k + 1, by omega, by go_num, by rw [HS.out]; unfold nb; go_num, HD⟩
            case measure => simp [intOf]; omega
          · have hR : Hid (rdig s.data.toList = -1) := by
              unfold Hid rdig
              rw [if_neg (fun h => by rw [digitsB_fail hlt (by rw [Bool.eq_false_iff]; exact fun e => hc ((digit_of _).1 e))] at h; exact absurd h.2.2 (by decide))]
            have hcc : (s[k].toNat : Int) < 48 ∨ 57 < (s[k].toNat : Int) := by omega
            clear hc
            rcases hcc with hcc | hcc
            · go_wp2
              go_ret
              exact ⟨vret_int hR.out.symm, rfl⟩
            · have c2' : decide ((57 : Int) < (s[k].toNat : Int)) = true := by simp; omega
              go_wp2
              go_ret
              exact ⟨vret_int hR.out.symm, rfl⟩
        · have hR : Hid (rdig s.data.toList = num (s.data.toList.take k)) := by
            unfold Hid rdig
            have e : s.data.toList.take k = s.data.toList := List.take_of_length_le (by rw [hl.out]; omega)
            have hd := hdg.out
            rw [e] at hd ⊢
            rw [if_pos ⟨by rw [hl.out]; omega, by rw [hl.out]; omega, hd⟩]
          go_wp2
          go_ret
          exact ⟨vret_int hR.out.symm, rfl⟩

theorem line_any (s : ByteArray) (w : World) (hs : s.size ≤ 9223372036854775807) :
    Calls Tryz.prog 90 #[.string s] w fun e w' => e = .returned (.bool (isTextB s.data.toList)) ∧ w' = w := by
  have hl : Hid (s.data.toList.length = s.size) := len_list s
  go_enter Tryz.func90, Tryz.ntmps90
  go_wp2
  go_loop [3] (fun i => ∃ k : Nat, k ≤ s.size ∧ i = .int .i64 k ∧ Hid ((s.data.toList.take k).all textC = true)) (fun i => s.size - (intOf i).toNat)
  case atStart => exact ⟨0, Nat.zero_le _, rfl, rfl⟩
  case round =>
    obtain ⟨k, hk, rfl, ha⟩ := hrel
    by_cases hlt : k < s.size
    · by_cases h32 : (s[k].toNat : Int) < 32
      · go_wp2
        go_ret
        exact ⟨vret_bool (by unfold isTextB; rw [all_fail (p := textC) hlt (by simp [textC, nb]; omega), Bool.and_false]), rfl⟩
      · by_cases h126 : (126 : Int) < (s[k].toNat : Int)
        · have d1 : decide ((126 : Int) < (s[k].toNat : Int)) = true := decide_eq_true h126
          go_wp2
          go_ret
          exact ⟨vret_bool (by unfold isTextB; rw [all_fail (p := textC) hlt (by simp [textC, nb]; omega), Bool.and_false]), rfl⟩
        · have d1 : decide ((126 : Int) < (s[k].toNat : Int)) = false := decide_eq_false h126
          by_cases h92 : (s[k].toNat : Int) = 92
          · have d2 : ((s[k].toNat : Int) == 92) = true := by simpa using h92
            have H92 := hid h92
            clear h92
            go_wp2
            go_ret
            exact ⟨vret_bool (by unfold isTextB; rw [all_fail (p := textC) hlt (by simp [textC, nb, H92.out]), Bool.and_false]), rfl⟩
          · have d2 : ((s[k].toNat : Int) == 92) = false := by simpa using h92
            go_wp2
            go_round
            case rel => exact ⟨k + 1, by omega, by go_num, all_next hlt ha.out (by simp [textC, nb]; omega)⟩
            case measure => simp [intOf]; omega
    · have hA : Hid (s.data.toList.all textC = true) := all_end (p := textC) (by omega) ha.out
      go_wp2
      go_ret
      exact ⟨vret_bool (by unfold isTextB; rw [hA.out, hl.out, Bool.and_true]; exact decide_eq_decide.2 (by omega)), rfl⟩
end Go.Proofs.YtaokifbpakbgdaaGreatDoor

/- The document's answer (package folioref), second part: nameOK, textOK, dateOK, timeOK, number, valueOK, Check. -/
namespace Go.Proofs.YtaokifbpakbgdaaGreatDoor
open Go.RowKit

theorem digitsB_all {z : ByteArray} {m : Nat} (h : z.size ≤ m) (ha : digitsB (z.data.toList.take m) = true) : digitsB z.data.toList = true := all_end (p := dg) h ha
set_option maxHeartbeats 1000000 in
theorem rname_any (s : ByteArray) (w : World) (hs : s.size < 4294967281) :
    Calls Tryz.prog 82 #[.string s] w fun e w' => e = .returned (.bool (nameB s.data.toList)) ∧ Up w w' := by
  have hl : Hid (s.data.toList.length = s.size) := len_list s
  go_enter Tryz.func82, Tryz.ntmps82
  go_wp2_with fail
  go_at_call 87; refine (parts_any s 46 _ _ rfl hs).mono ?_; rintro e w1 ⟨b, cap, zs, rfl, hz, hzl, hcell, hup⟩
  have U := hid hup
  clear hup
  go_wp2_with fail
  go_loop [4] (fun i => ∃ k : Nat, k ≤ zs.length ∧ i = .int .i64 k ∧ Hid ((zs.take k).all (fun z => partB z.data.toList) = true)) (fun i => zs.length - (intOf i).toNat)
  case atStart => exact ⟨0, Nat.zero_le _, rfl, rfl⟩
  case round =>
    obtain ⟨k, hk, rfl, ha⟩ := hrel
    by_cases hlt : k < zs.length
    · have hc := hcell.out k hlt
      generalize hzk : zs[k] = z at hc
      have hsz : z.size ≤ 4294967281 := by have := part_size hz.out hlt; rw [hzk, hl.out] at this; omega
      have HZ : Hid (zs[k] = z) := hzk
      clear hzk
      have bad : Hid (partB z.data.toList = false → false = nameB s.data.toList) := fun h => by
        unfold nameB; rw [of_parts hz.out, takeAll_fail (p := fun z => partB z.data.toList) hlt (by rw [HZ.out]; exact h), Bool.and_false]
      by_cases he : z.toList = []
      · go_wp2
        go_ret
        exact ⟨vret_bool (bad.out (part_empty he)), U.out⟩
      · have h0 : 0 < z.size := by
          rcases Nat.eq_zero_or_pos z.size with h | h
          · exact absurd (by rw [Lib.toList_data]; exact List.eq_nil_of_length_eq_zero (by simpa using h)) he
          · exact h
        have hie : z.toList.isEmpty = false := by simpa using he
        by_cases hq : (z[0].toNat : Int) = 48 ∧ ¬ z.toList = [48]
        · obtain ⟨h48, hne⟩ := hq
          have hq' : (z.toList == [48]) = false := by simpa using hne
          go_wp2
          go_ret
          exact ⟨vret_bool (bad.out (part_zero h0 h48 hne)), U.out⟩
        · have hgo : Hid (digitsB z.data.toList = true → partB z.data.toList = true) := fun hd => by
            by_cases h48 : (z[0].toNat : Int) = 48
            · exact part_one (Classical.byContradiction fun h => hq ⟨h48, h⟩)
            · exact part_ok h0 hd h48
          have hway : (¬ (z[0].toNat : Int) = 48) ∨ ((z[0].toNat : Int) = 48 ∧ z.toList = [48]) := by
            by_cases h48 : (z[0].toNat : Int) = 48
            · exact Or.inr ⟨h48, Classical.byContradiction fun h => hq ⟨h48, h⟩⟩
            · exact Or.inl h48
          clear hq
          rcases hway with h48 | ⟨h48, hone⟩
          all_goals
            go_wp2
            go_loop [5] (fun i => ∃ m : Nat, m ≤ z.size ∧ i = .int .i64 m ∧ Hid (digitsB (z.data.toList.take m) = true)) (fun i => z.size - (intOf i).toNat)
            case atStart => exact ⟨0, Nat.zero_le _, rfl, rfl⟩
            case round =>
              obtain ⟨m, hm, rfl, hd⟩ := hrel
              by_cases hlt2 : m < z.size
              · by_cases c1 : (z[m].toNat : Int) < 48
                · go_wp2
                  go_ret
                  exact ⟨vret_bool (bad.out (part_dig (digitsB_fail hlt2 (by simp [dg, dgI, nb]; omega)))), U.out⟩
                · by_cases c2 : (57 : Int) < (z[m].toNat : Int)
                  · have d2 : decide ((57 : Int) < (z[m].toNat : Int)) = true := decide_eq_true c2
                    go_wp2
                    go_ret
                    exact ⟨vret_bool (bad.out (part_dig (digitsB_fail hlt2 (by simp [dg, dgI, nb]; omega)))), U.out⟩
                  · have d2 : decide ((57 : Int) < (z[m].toNat : Int)) = false := decide_eq_false c2
                    go_wp2
                    go_round
                    case rel => exact ⟨m + 1, by omega, by go_num, all_next (p := dg) hlt2 hd.out (by simp [dg, dgI, nb]; omega)⟩
                    case measure => simp [intOf]; omega
              · have hpart := hid (hgo.out (digitsB_all (by omega) hd.out))
                go_wp2
                go_round
                case rel => exact ⟨k + 1, by omega, by go_num, takeAll_next hlt ha.out (by rw [HZ.out]; exact hpart.out)⟩
                case measure => simp [intOf]; omega
    · have hA : Hid ((spl 46 s.data.toList).all partB = true) := by unfold Hid; rw [of_parts hz.out]; exact takeAll_end (by omega) ha.out
      go_wp2
      go_ret
      exact ⟨vret_bool (by unfold nameB; rw [hA.out, hl.out, Bool.and_true]; exact decide_eq_decide.2 (by omega)), U.out⟩
end Go.Proofs.YtaokifbpakbgdaaGreatDoor

/- The document's answer (package folioref), third part: dateOK, timeOK. -/
namespace Go.Proofs.YtaokifbpakbgdaaGreatDoor
open Go.RowKit

theorem rleap_any (y : Int) (w : World) (h0 : 0 ≤ y) (h1 : y ≤ 9999) :
    Calls Tryz.prog 146 #[.int .i64 y] w fun e w' => e = .returned (.bool (leap y)) ∧ w' = w := by
  go_enter Tryz.func146, Tryz.ntmps146
  go_wp2
  all_goals go_ret
  all_goals (refine ⟨vret_bool ?_, rfl⟩)
  all_goals (rw [Bool.eq_iff_iff]; simp [leap]; omega)
theorem rdig_cases (l : Bs) (h1 : 1 ≤ l.length) (h2 : l.length ≤ 12) : (digitsB l = true ∧ rdig l = num l) ∨ (digitsB l = false ∧ rdig l = -1) := by
  cases h : digitsB l
  · exact Or.inr ⟨rfl, by unfold rdig; rw [if_neg (by rw [h]; simp)]⟩
  · exact Or.inl ⟨rfl, by unfold rdig; rw [if_pos ⟨h1, h2, h⟩]⟩
theorem rsub (s : ByteArray) (a b : Nat) (w : World) (hs : s.size ≤ 9223372036854775807) :
    Calls Tryz.prog 145 #[.string (s.extract a b)] w fun e w' => e = .returned (.int .i64 (rdig ((s.data.toList.drop a).take (b - a)))) ∧ w' = w := by
  rw [← sub_data]
  exact rdigits_any _ w (by simp; omega)
theorem date_parts (l : Bs) (h : l.length = 8) : digitsB l = (digitsB (l.take 4) && digitsB ((l.drop 4).take 2) && digitsB ((l.drop 6).take 2)) := by
  have e : l = l.take 4 ++ ((l.drop 4).take 2 ++ (l.drop 6).take 2) := by
    conv => lhs; rw [← List.take_append_drop 4 l, ← List.take_append_drop 2 (l.drop 4), List.drop_drop]
    congr 2
    rw [List.take_of_length_le (by simp; omega)]
  conv => lhs; rw [e]
  simp [digitsB, Bool.and_assoc]
/-- The days of a month, the 29th of February aside. -/
def tab (m : Int) : Int := if m = 2 then 28 else daysOf 1 m
theorem days_tab (m : Int) (h1 : 1 ≤ m) (h2 : m ≤ 12) : ([Value.int .i64 31, .int .i64 28, .int .i64 31, .int .i64 30, .int .i64 31, .int .i64 30, .int .i64 31, .int .i64 31, .int .i64 30, .int .i64 31, .int .i64 30, .int .i64 31] : List Value)[m.toNat - 1]? = some (.int .i64 (tab m)) := by
  have h12 : m = 1 ∨ m = 2 ∨ m = 3 ∨ m = 4 ∨ m = 5 ∨ m = 6 ∨ m = 7 ∨ m = 8 ∨ m = 9 ∨ m = 10 ∨ m = 11 ∨ m = 12 := by omega
  rcases h12 with rfl | rfl | rfl | rfl | rfl | rfl | rfl | rfl | rfl | rfl | rfl | rfl <;> rfl
theorem tab_days (y m : Int) : daysOf y m = if m = 2 then (if leap y then 29 else 28) else daysOf 1 m := by
  unfold daysOf
  by_cases h : m = 2
  · subst h; simp
  · simp [h]
theorem rdate_no (s : ByteArray) (w : World) (h : ¬ s.size = 8) :
    Calls Tryz.prog 83 #[.string s] w fun e w' => e = .returned (.bool (dateB s.data.toList)) ∧ Up w w' := by
  have hl : Hid (s.data.toList.length = s.size) := len_list s
  have hB : Hid (dateB s.data.toList = false) := by unfold Hid dateB; rw [hl.out, decide_eq_false h]; simp
  go_enter Tryz.func83, Tryz.ntmps83
  go_wp2
  go_ret
  exact ⟨vret_bool hB.out.symm, Up.refl _⟩
set_option maxHeartbeats 2000000 in
theorem rdate_good (s : ByteArray) (w : World) (h8 : s.size = 8) (y m d : Int) (Hy : Hid (rdig (s.data.toList.take 4) = y)) (Hm : Hid (rdig ((s.data.toList.drop 4).take 2) = m)) (Hd : Hid (rdig ((s.data.toList.drop 6).take 2) = d))
    (hy0 : 0 ≤ y) (hy1 : y ≤ 9999) (hm1 : 1 ≤ m) (hm2 : m ≤ 12) (hB : Hid (dateB s.data.toList = (decide (1 ≤ d) && decide (d ≤ daysOf y m)))) :
    Calls Tryz.prog 83 #[.string s] w fun e w' => e = .returned (.bool (dateB s.data.toList)) ∧ Up w w' := by
  have ht := days_tab m hm1 hm2
  have hT : Hid (daysOf y m = if m = 2 then (if leap y then 29 else 28) else tab m) := by
    unfold Hid tab; rw [tab_days]; split <;> rfl
  have hno : (decide (y < 0)) = false := by simp; omega
  have hno2 : (decide (m < 1)) = false := by simp; omega
  have hno3 : (decide (12 < m)) = false := by simp; omega
  have h28 : Hid (¬ m = 2 ∨ tab m = 28) := by by_cases h : m = 2
                                              · exact Or.inr (by unfold tab; rw [if_pos h])
                                              · exact Or.inl h
  generalize tab m = tm at ht hT h28
  go_enter Tryz.func83, Tryz.ntmps83
  go_wp2_with fail
  go_at_call 145; refine (rsub s _ _ _ (by omega)).mono ?_; rintro e w1 ⟨rfl, rfl⟩
  rw [show List.take (4 - 0) (List.drop 0 s.data.toList) = s.data.toList.take 4 from rfl, Hy.out]
  go_wp2_with fail
  go_at_call 145; refine (rsub s _ _ _ (by omega)).mono ?_; rintro e w1 ⟨rfl, rfl⟩
  rw [show List.take (6 - 4) (List.drop 4 s.data.toList) = (s.data.toList.drop 4).take 2 from rfl, Hm.out]
  go_wp2_with fail
  go_at_call 145; refine (rsub s _ _ _ (by omega)).mono ?_; rintro e w1 ⟨rfl, rfl⟩
  rw [show List.take (8 - 6) (List.drop 6 s.data.toList) = (s.data.toList.drop 6).take 2 from rfl, Hd.out]
  go_wp2_with fail
  go_at_call 146; refine (rleap_any _ _ hy0 hy1).mono ?_; rintro e w2 ⟨rfl, rfl⟩
  cases hlp : leap y
  all_goals
    have HL := hid hlp
    clear hlp
    by_cases hm : m = 2
    all_goals
      by_cases hd1 : 1 ≤ d
      all_goals
        go_wp2
        go_ret
        refine ⟨vret_bool ?_, Up.alloc (Up.refl _) _⟩
        rw [hB.out, hT.out, HL.out]
        have q := h28.out
        simp [hm, hd1] <;> omega
set_option maxHeartbeats 2000000 in
theorem rdate_any (s : ByteArray) (w : World) :
    Calls Tryz.prog 83 #[.string s] w fun e w' => e = .returned (.bool (dateB s.data.toList)) ∧ Up w w' := by
  by_cases h8 : s.size = 8
  · have hl : Hid (s.data.toList.length = 8) := by unfold Hid; rw [len_list, h8]
    have cy := rdig_cases (s.data.toList.take 4) (by simp; omega) (by simp; omega)
    have cm := rdig_cases ((s.data.toList.drop 4).take 2) (by simp; omega) (by simp; omega)
    have cd := rdig_cases ((s.data.toList.drop 6).take 2) (by simp; omega) (by simp; omega)
    have hD : Hid (dateB s.data.toList = (digitsB (s.data.toList.take 4) && digitsB ((s.data.toList.drop 4).take 2) && digitsB ((s.data.toList.drop 6).take 2) && decide (1 ≤ num ((s.data.toList.drop 6).take 2)) && decide (num ((s.data.toList.drop 6).take 2) ≤ daysOf (num (s.data.toList.take 4)) (num ((s.data.toList.drop 4).take 2))))) := by
      unfold Hid dateB
      rw [date_parts _ hl.out, hl.out, List.take_of_length_le (l := s.data.toList.drop 6) (by simp; omega)]; rfl
    have by1 := fun h : digitsB (s.data.toList.take 4) = true => num_lt (s.data.toList.take 4) h 4 (by simp; omega) 10000 rfl
    have bm1 := fun h : digitsB ((s.data.toList.drop 4).take 2) = true => num_lt ((s.data.toList.drop 4).take 2) h 2 (by simp; omega) 100 rfl
    generalize hy : rdig (s.data.toList.take 4) = y at cy
    generalize hm : rdig ((s.data.toList.drop 4).take 2) = m at cm
    generalize hd : rdig ((s.data.toList.drop 6).take 2) = d at cd
    have Hy := hid hy
    have Hm := hid hm
    have Hd := hid hd
    clear hy hm hd
    by_cases hbad : y < 0 ∨ m < 1 ∨ 12 < m
    · have hB : Hid (dateB s.data.toList = false) := by
        unfold Hid
        rw [hD.out]
        rcases cy with ⟨c1, c2⟩ | ⟨c1, c2⟩
        · rcases cm with ⟨d1, d2⟩ | ⟨d1, d2⟩
          · have := by1 c1
            have hmm : m < 1 ∨ 12 < m := by omega
            have h0 := bm1 d1
            have hz : daysOf (num (s.data.toList.take 4)) (num ((s.data.toList.drop 4).take 2)) = 0 := by
              rw [← d2]; unfold daysOf; rw [if_neg (by omega), if_neg (by omega), if_neg (by omega)]
            rw [hz]
            rcases cd with ⟨f1, f2⟩ | ⟨f1, f2⟩
            · by_cases h1 : 1 ≤ num ((s.data.toList.drop 6).take 2)
              · rw [decide_eq_false (by omega : ¬ num ((s.data.toList.drop 6).take 2) ≤ 0), Bool.and_false]
              · rw [decide_eq_false h1, Bool.and_false, Bool.false_and]
            · rw [f1]; simp
          · rw [d1]; simp
        · rw [c1]; simp
      have t1 : (decide (y < 0) || decide (m < 1) || decide (12 < m)) = true := by simp; omega
      have hw : (y < 0) ∨ (0 ≤ y ∧ m < 1) ∨ (0 ≤ y ∧ 1 ≤ m ∧ 12 < m) := by omega
      clear hbad cy cm cd by1 bm1
      rcases hw with h | ⟨h, k⟩ | ⟨h, k, k2⟩
      all_goals
        go_enter Tryz.func83, Tryz.ntmps83
        go_wp2_with fail
        go_at_call 145; refine (rsub s _ _ _ (by omega)).mono ?_; rintro e w1 ⟨rfl, rfl⟩
        rw [show List.take (4 - 0) (List.drop 0 s.data.toList) = s.data.toList.take 4 from rfl, Hy.out]
        go_wp2_with fail
        go_at_call 145; refine (rsub s _ _ _ (by omega)).mono ?_; rintro e w1 ⟨rfl, rfl⟩
        rw [show List.take (6 - 4) (List.drop 4 s.data.toList) = (s.data.toList.drop 4).take 2 from rfl, Hm.out]
        go_wp2_with fail
        go_at_call 145; refine (rsub s _ _ _ (by omega)).mono ?_; rintro e w1 ⟨rfl, rfl⟩
        rw [show List.take (8 - 6) (List.drop 6 s.data.toList) = (s.data.toList.drop 6).take 2 from rfl, Hd.out]
        go_wp2
        go_ret
        exact ⟨vret_bool hB.out.symm, Up.refl _⟩
    · have hy0 : 0 ≤ y := by omega
      have hm1 : 1 ≤ m := by omega
      have hm2 : m ≤ 12 := by omega
      clear hbad
      rcases cy with ⟨c1, c2⟩ | ⟨c1, c2⟩
      · rcases cm with ⟨d1, d2⟩ | ⟨d1, d2⟩
        · have hy1 : y ≤ 9999 := by have := by1 c1; omega
          have hB : Hid (dateB s.data.toList = (decide (1 ≤ d) && decide (d ≤ daysOf y m))) := by
            unfold Hid
            rw [hD.out, c1, d1, ← c2, ← d2]
            rcases cd with ⟨f1, f2⟩ | ⟨f1, f2⟩
            · rw [f1, ← f2]; rfl
            · rw [f1, f2]; rfl
          clear hD cd c1 c2 d1 d2 by1 bm1 hl
          exact rdate_good s w h8 y m d Hy Hm Hd hy0 hy1 hm1 hm2 hB
        · omega
      · omega
  · exact rdate_no s w h8

theorem digits_of_sub {l : Bs} {a n : Nat} (h : digitsB ((l.drop a).take n) = false) : digitsB l = false := by
  cases hl : digitsB l
  · rfl
  · rw [digits_take _ _ (digits_drop _ _ hl)] at h; cases h
theorem pairs_true (l : Bs) (h6 : l.length = 2 ∨ l.length = 4 ∨ l.length = 6)
    (hp : ∀ j, j < l.length → j % 2 = 0 → digitsB ((l.drop j).take 2) = true ∧ num ((l.drop j).take 2) ≤ 59 ∧ (j = 0 → num ((l.drop j).take 2) ≤ 23)) : timeB l = true := by
  have sub : ∀ j, j % 2 = 0 → digitsB ((l.drop j).take 2) = true := fun j hj => by
    by_cases h : j < l.length
    · exact (hp j h hj).1
    · rw [List.drop_eq_nil_of_le (by omega)]; rfl
  have e : l = (l.drop 0).take 2 ++ ((l.drop 2).take 2 ++ (l.drop 4).take 2) := by
    conv => lhs; rw [← List.take_append_drop 2 l, ← List.take_append_drop 2 (l.drop 2), List.drop_drop]
    congr 2
    rw [List.take_of_length_le (by simp; omega)]
  have hd : digitsB l = true := by
    rw [e, digitsB_append, digitsB_append]
    exact ⟨sub 0 rfl, sub 2 rfl, sub 4 rfl⟩
  exact time_true l h6 hd ((hp 0 (by omega) rfl).2.2 rfl) (fun j _ h2 h3 => (hp j h2 h3).2.1)
theorem pairs_false (l : Bs) (j : Nat) (h6 : l.length ≤ 6) (hj : j < l.length) (he : j % 2 = 0) (h : digitsB ((l.drop j).take 2) = false ∨ 59 < num ((l.drop j).take 2) ∨ (j = 0 ∧ 23 < num ((l.drop j).take 2))) : timeB l = false := by
  rcases h with h | h | ⟨rfl, h⟩
  · exact time_dig l (digits_of_sub h)
  · by_cases h0 : j = 0
    · subst h0; exact time_hour l (by rw [List.drop_zero] at h; omega)
    · exact time_rest l j (by omega) (by omega) he h
  · exact time_hour l h
theorem pair_bad {l : Bs} {y : Int} {k : Nat} (h : y < 0 ∨ 59 < y ∨ (k = 0 ∧ 23 < y)) (c : (digitsB l = true ∧ y = num l) ∨ (digitsB l = false ∧ y = -1)) : digitsB l = false ∨ 59 < num l ∨ (k = 0 ∧ 23 < num l) := by
  rcases c with ⟨c1, c2⟩ | ⟨c1, c2⟩
  · have := num_bd l c1
    rcases h with h | h | h
    · omega
    · exact Or.inr (Or.inl (by omega))
    · exact Or.inr (Or.inr ⟨h.1, by omega⟩)
  · exact Or.inl c1
theorem rtime_at (n : Nat) (hn : n = 2 ∨ n = 4 ∨ n = 6) (s : ByteArray) (w : World) (h6 : s.size = n) :
    Calls Tryz.prog 84 #[.string s] w fun e w' => e = .returned (.bool (timeB s.data.toList)) ∧ w' = w := by
  have hl : Hid (s.data.toList.length = n) := by unfold Hid; rw [len_list, h6]
  have H6 := hid hn
  rcases hn with rfl | rfl | rfl <;>
  (go_enter Tryz.func84, Tryz.ntmps84
   go_wp2
   go_loop [3] (fun i => ∃ k : Nat, k % 2 = 0 ∧ k ≤ s.size ∧ i = .int .i64 k ∧ Hid (∀ j, j < k → j % 2 = 0 → digitsB ((s.data.toList.drop j).take 2) = true ∧ num ((s.data.toList.drop j).take 2) ≤ 59 ∧ (j = 0 → num ((s.data.toList.drop j).take 2) ≤ 23))) (fun i => 6 - (intOf i).toNat)
   case atStart => exact ⟨0, rfl, by omega, rfl, fun j h1 h2 => by omega⟩
   case round =>
      obtain ⟨k, hk2, hk, rfl, hp⟩ := hrel
      by_cases hlt : k < s.size
      · have hk2' : k + 2 ≤ s.size := by omega
        have cy := rdig_cases ((s.data.toList.drop k).take 2) (by simp; omega) (by simp; omega)
        generalize hy : rdig ((s.data.toList.drop k).take 2) = y at cy
        have Hy := hid hy
        clear hy
        have CY := hid cy
        clear cy
        have hbad : Hid (y < 0 ∨ 59 < y ∨ (k = 0 ∧ 23 < y) → timeB s.data.toList = false) := fun h =>
          pairs_false _ k (by rw [hl.out]; omega) (by rw [hl.out]; omega) hk2 (pair_bad h CY.out)
        have hgood : Hid (0 ≤ y → y ≤ 59 → (k = 0 → y ≤ 23) → digitsB ((s.data.toList.drop k).take 2) = true ∧ num ((s.data.toList.drop k).take 2) ≤ 59 ∧ (k = 0 → num ((s.data.toList.drop k).take 2) ≤ 23)) := fun h1 h2 h3 => by
          rcases CY.out with ⟨c1, c2⟩ | ⟨c1, c2⟩
          · exact ⟨c1, by omega, fun h => by have := h3 h; omega⟩
          · omega
        go_wp2_with fail
        go_at_call 145; refine (rsub s _ _ _ (by omega)).mono ?_; rintro e w1 ⟨rfl, rfl⟩
        rw [show k + 2 - k = 2 by omega, Hy.out]
        by_cases y0 : y < 0
        · go_wp2
          go_ret
          exact ⟨vret_bool (hbad.out (Or.inl y0)).symm, rfl⟩
        · have d0 : decide (y < 0) = false := decide_eq_false y0
          by_cases y59 : 59 < y
          · have d1 : decide (59 < y) = true := decide_eq_true y59
            go_wp2
            go_ret
            exact ⟨vret_bool (hbad.out (Or.inr (Or.inl y59))).symm, rfl⟩
          · have d1 : decide (59 < y) = false := decide_eq_false y59
            by_cases k0 : k = 0
            · have B23 : Hid (23 < y → timeB s.data.toList = false) := fun h => hbad.out (Or.inr (Or.inr ⟨k0, h⟩))
              have G23 : Hid (y ≤ 23 → ∀ j, j < 2 → j % 2 = 0 → digitsB ((s.data.toList.drop j).take 2) = true ∧ num ((s.data.toList.drop j).take 2) ≤ 59 ∧ (j = 0 → num ((s.data.toList.drop j).take 2) ≤ 23)) := fun h j h1 h2 => by
                have e : j = k := by omega
                subst e
                exact hgood.out (by omega) (by omega) (fun _ => h)
              clear hbad hgood hp
              subst k0
              by_cases y23 : 23 < y
              · have d2 : decide (23 < y) = true := decide_eq_true y23
                go_wp2
                go_ret
                exact ⟨vret_bool (B23.out y23).symm, rfl⟩
              · have d2 : decide (23 < y) = false := decide_eq_false y23
                have G := hid (G23.out (by omega))
                go_wp2
                go_round
                case rel => exact ⟨2, rfl, by omega, rfl, G⟩
                case measure => simp [intOf]
            · have k0' : ((k : Int) == 0) = false := by simp; omega
              go_wp2
              go_round
              case rel => exact ⟨k + 2, by omega, by omega, by go_num, fun j h1 h2 => if e : j = k then by subst e; exact hgood.out (by omega) (by omega) (fun h => absurd h k0) else hp.out j (by omega) h2⟩
              case measure => simp [intOf]; omega
      · go_wp2
        go_ret
        exact ⟨vret_bool (pairs_true _ (by rw [hl.out]; omega) (fun j h1 h2 => hp.out j (by rw [hl.out] at h1; omega) h2)).symm, rfl⟩)
theorem rtime_any (s : ByteArray) (w : World) :
    Calls Tryz.prog 84 #[.string s] w fun e w' => e = .returned (.bool (timeB s.data.toList)) ∧ w' = w := by
  by_cases h6 : s.size = 2 ∨ s.size = 4 ∨ s.size = 6
  · exact rtime_at s.size h6 s w rfl
  · have H6 : Hid (timeB s.data.toList = false) := time_len _ (by rw [len_list]; exact h6)
    have h2 : s.size ≠ 2 := by omega
    have h4 : s.size ≠ 4 := by omega
    have h6 : s.size ≠ 6 := by omega
    have b2 : ((s.size : Int) != 2) = true := by simp; omega
    have b4 : ((s.size : Int) != 4) = true := by simp; omega
    have b6 : ((s.size : Int) != 6) = true := by simp; omega
    go_enter Tryz.func84, Tryz.ntmps84
    go_wp2
    go_ret
    exact ⟨vret_bool H6.out.symm, rfl⟩
end Go.Proofs.YtaokifbpakbgdaaGreatDoor

/- The document's answer (package folioref), fourth part: textOK, number, valueOK, Check. -/
namespace Go.Proofs.YtaokifbpakbgdaaGreatDoor
open Go.RowKit

def codesB (l : Bs) : Bool := l.all codeC
def hatsB (l : Bs) : Bool := decide (l.count 94 ≤ 4)
/-- A text of the kinds LO, PN, CS. -/
def rtext (k l : Bs) : Bool := txtB l && (!decide (k = [80, 78]) || hatsB l) && (!decide (k = [67, 83]) || (codesB l && decide (l.length ≤ 16)))
theorem last_of {s : ByteArray} (h : 0 < s.size) : s.data.toList.getLast? = some (s[s.size - 1]'(by omega)) := by
  rw [List.getLast?_eq_getElem?, List.getElem?_eq_getElem (by simp; omega)]
  simp
  rfl
theorem rtext_bad_line {k : Bs} {s : ByteArray} (h : isTextB s.data.toList = false) : rtext k s.data.toList = false := by unfold rtext txtB; rw [h]; simp
theorem rtext_bad_last {k : Bs} {s : ByteArray} (h0 : 0 < s.size) (h : ((s[s.size - 1]'(by omega)).toNat : Int) = 32) : rtext k s.data.toList = false := by
  unfold rtext txtB
  rw [last_of h0, (byte_eq 32).2 h]; simp
theorem txt_good {s : ByteArray} (h0 : 0 < s.size) (ht : isTextB s.data.toList = true) (h : ¬ ((s[s.size - 1]'(by omega)).toNat : Int) = 32) : txtB s.data.toList = true := by
  have hne : ¬ s.data.toList = [] := fun e => by
    have h1 : s.data.toList.length = 0 := by rw [e]; rfl
    rw [len_list] at h1; omega
  unfold txtB
  rw [last_of h0, ht, decide_eq_false hne, decide_eq_false (fun e => h ((byte_eq 32).1 (Option.some.inj e)))]; rfl
theorem beq_dec (a b : Bs) : (a == b) = decide (a = b) := by rw [Bool.eq_iff_iff]; simp
theorem code_of (c : UInt8) : codeC c = (dgI (c.toNat : Int) || (decide (65 ≤ (c.toNat : Int)) && decide ((c.toNat : Int) ≤ 90)) || decide ((c.toNat : Int) = 32) || decide ((c.toNat : Int) = 95)) := rfl
set_option maxHeartbeats 4000000 in
theorem rtext_at (P C : Bool) (k s : ByteArray) (w : World) (hs : s.size < 4294967281) (h0 : 0 < s.size) (hP : (k.toList == [80, 78]) = P) (hC : (k.toList == [67, 83]) = C)
    (ht : isTextB s.data.toList = true) (h32 : ¬ ((s[s.size - 1]'(by omega)).toNat : Int) = 32)
    (R : Hid (rtext k.data.toList s.data.toList = ((!P || hatsB s.data.toList) && (!C || (codesB s.data.toList && decide (s.size ≤ 16)))))) :
    Calls Tryz.prog 86 #[.string k, .string s] w fun e w' => e = .returned (.bool (rtext k.data.toList s.data.toList)) ∧ Up w w' := by
  have d32 : (((s[s.size - 1]'(by omega)).toNat : Int) == 32) = false := by simpa using h32
  rw [R.out]
  cases P
  · cases C
    · go_enter Tryz.func86, Tryz.ntmps86
      go_wp2_with (go_at_call 90; refine (line_any _ _ (by omega)).mono ?_; rintro e w' ⟨rfl, rfl⟩)
      go_at_call 87; refine (parts_any s 94 _ _ rfl hs).mono ?_; rintro e w1 ⟨b, cap, zs, rfl, hz, hzl, hcell, hup⟩
      have U := hid hup
      clear hup
      go_wp2_with fail
      go_loop [7] (fun i => i = .int .i64 0) (fun _ => 0)
      case atStart => rfl
      case round =>
        subst hrel
        go_wp2
        go_ret
        exact ⟨rfl, U.out⟩
    · go_enter Tryz.func86, Tryz.ntmps86
      go_wp2_with (go_at_call 90; refine (line_any _ _ (by omega)).mono ?_; rintro e w' ⟨rfl, rfl⟩)
      go_at_call 87; refine (parts_any s 94 _ _ rfl hs).mono ?_; rintro e w1 ⟨b, cap, zs, rfl, hz, hzl, hcell, hup⟩
      have U := hid hup
      clear hup
      go_wp2_with fail
      go_loop [7] (fun i => ∃ m : Nat, m ≤ s.size ∧ i = .int .i64 m ∧ Hid ((s.data.toList.take m).all codeC = true)) (fun i => s.size - (intOf i).toNat)
      case atStart => exact ⟨0, Nat.zero_le _, rfl, rfl⟩
      case round =>
        obtain ⟨m, hm, rfl, ha⟩ := hrel
        by_cases hlt : m < s.size
        · go_each [(s[m].toNat : Int) < 48, (57 : Int) < s[m].toNat, (s[m].toNat : Int) < 65, (90 : Int) < s[m].toNat, (s[m].toNat : Int) = 32, (s[m].toNat : Int) = 95] =>
            (go_wp2
             all_goals first
              | (exfalso; rename_i hh; simp at hh; omega)
              | (exfalso; simp_all; done)
              | (go_round
                 case rel => exact ⟨m + 1, by omega, by go_num, all_next hlt ha.out (by rw [code_of]; first | (simp [dgI]; omega) | (simp [dgI]; done) | (simp [dgI, *]; done))⟩
                 case measure => simp [intOf]; omega)
              | (go_ret
                 refine ⟨vret_bool ?_, U.out⟩
                 rw [show codesB s.data.toList = false from all_fail (p := codeC) hlt (by rw [code_of]; first | (simp [dgI]; omega) | (simp [dgI]; done) | (simp [dgI, *]; done))]; rfl))
        · have hA : Hid (codesB s.data.toList = true) := all_end (p := codeC) (by omega) ha.out
          go_wp2
          go_ret
          refine ⟨vret_bool ?_, U.out⟩
          rw [hA.out]
          simp
          omega
  · have hcnt : Hid (∀ zs : List ByteArray, zs.map (·.data.toList) = spl 94 s.data.toList → zs.length = s.data.toList.count 94 + 1) := fun zs h => by
      rw [← spl_length, ← h, List.length_map]
    cases C
    · by_cases h4 : s.data.toList.count 94 ≤ 4
      · go_enter Tryz.func86, Tryz.ntmps86
        go_wp2_with (go_at_call 90; refine (line_any _ _ (by omega)).mono ?_; rintro e w' ⟨rfl, rfl⟩)
        go_at_call 87; refine (parts_any s 94 _ _ rfl hs).mono ?_; rintro e w1 ⟨b, cap, zs, rfl, hz, hzl, hcell, hup⟩
        have U := hid hup
        have hn := hcnt.out zs hz.out
        have hn5 : zs.length ≤ 5 := by omega
        clear hup hn
        go_wp2_with fail
        go_loop [7] (fun i => i = .int .i64 0) (fun _ => 0)
        case atStart => rfl
        case round =>
          subst hrel
          go_wp2
          go_ret
          refine ⟨vret_bool ?_, U.out⟩
          rw [show hatsB s.data.toList = true from decide_eq_true h4]
      · go_enter Tryz.func86, Tryz.ntmps86
        go_wp2_with (go_at_call 90; refine (line_any _ _ (by omega)).mono ?_; rintro e w' ⟨rfl, rfl⟩)
        go_at_call 87; refine (parts_any s 94 _ _ rfl hs).mono ?_; rintro e w1 ⟨b, cap, zs, rfl, hz, hzl, hcell, hup⟩
        have U := hid hup
        have hn := hcnt.out zs hz.out
        have hn5 : 5 < zs.length := by omega
        clear hup hn
        go_wp2
        go_ret
        refine ⟨vret_bool ?_, U.out⟩
        rw [show hatsB s.data.toList = false from decide_eq_false h4]; rfl
    · exfalso
      rw [beq_iff_eq] at hP hC
      rw [hP] at hC
      cases hC
theorem rtext_any (k s : ByteArray) (w : World) (hs : s.size < 4294967281) (h0 : 0 < s.size) :
    Calls Tryz.prog 86 #[.string k, .string s] w fun e w' => e = .returned (.bool (rtext k.data.toList s.data.toList)) ∧ Up w w' := by
  have hl : Hid (s.data.toList.length = s.size) := len_list s
  cases ht : isTextB s.data.toList
  · go_enter Tryz.func86, Tryz.ntmps86
    go_wp2_with (go_at_call 90; refine (line_any _ _ (by omega)).mono ?_; rintro e w' ⟨rfl, rfl⟩)
    go_ret
    exact ⟨vret_bool (rtext_bad_line ht).symm, Up.refl _⟩
  · by_cases h32 : ((s[s.size - 1]'(by omega)).toNat : Int) = 32
    · have d32 : (((s[s.size - 1]'(by omega)).toNat : Int) == 32) = true := by simpa using h32
      have H32 := hid h32
      clear h32
      go_enter Tryz.func86, Tryz.ntmps86
      go_wp2_with (go_at_call 90; refine (line_any _ _ (by omega)).mono ?_; rintro e w' ⟨rfl, rfl⟩)
      go_ret
      exact ⟨vret_bool (rtext_bad_last h0 H32.out).symm, Up.refl _⟩
    · refine rtext_at _ _ k s w hs h0 rfl rfl ht h32 ?_
      unfold Hid rtext
      rw [txt_good h0 ht h32, Bool.true_and, hl.out, Lib.toList_data, beq_dec, beq_dec]
end Go.Proofs.YtaokifbpakbgdaaGreatDoor
