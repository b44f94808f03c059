/-
  The document's answer (package folioref), first part: parts, digits, nameOK, line.
-/
import Derived.Test.YtaokifbpakbgdaaGreatDoorFrame
import Derived.Test.YtaokifbpakbgdaaGreatDoorNums
import Derived.OwnWalk
namespace Go.Proofs.YtaokifbpakbgdaaGreatDoor
open Go.RowKit

theorem info_string : (Tryz.prog.info? 9).map (fun i => (i.zero, i.size, i.bytes)) = some (some (.string ByteArray.empty), 1, 16) := by kernel_rfl
/-- Between f and k no sign stands. -/
def Free (c : UInt8) (l : Bs) (f k : Nat) : Prop := c ∉ (l.drop f).take (k - f)
theorem free_next {c : UInt8} {s : ByteArray} {f k : Nat} (h : Free c s.data.toList f k) (hf : f ≤ k) (hk : k < s.size) (hc : s[k] ≠ c) : Free c s.data.toList f (k + 1) := by
  unfold Free at h ⊢
  have hlt : k - f < (s.data.toList.drop f).length := by simp; omega
  rw [show k + 1 - f = k - f + 1 by omega, List.take_succ_eq_append_getElem hlt, List.mem_append, List.mem_singleton, List.getElem_drop]
  rintro (h' | h')
  · exact h h'
  · apply hc
    have : f + (k - f) = k := by omega
    simp only [this] at h'
    exact h'.symm
theorem free_hit {c : UInt8} {s : ByteArray} {f k : Nat} (h : Free c s.data.toList f k) (hf : f ≤ k) (hk : k < s.size) (hc : s[k] = c) :
    spl c (s.data.toList.drop f) = (s.extract f k).data.toList :: spl c (s.data.toList.drop (k + 1)) := by
  unfold Free at h
  have e : s.data.toList.drop f = (s.data.toList.drop f).take (k - f) ++ c :: s.data.toList.drop (k + 1) := by
    conv => lhs; rw [← List.take_append_drop (k - f) (s.data.toList.drop f)]
    rw [List.drop_drop, show f + (k - f) = k by omega]
    congr 1
    rw [List.drop_eq_getElem_cons (by simpa using hk)]
    congr 1
  rw [e, spl_hit c _ _ h, sub_data]
theorem free_end {c : UInt8} {s : ByteArray} {f : Nat} (h : Free c s.data.toList f s.size) : spl c (s.data.toList.drop f) = [(s.extract f s.size).data.toList] := by
  unfold Free at h
  rw [List.take_of_length_le (by simp)] at h
  rw [spl_none c _ h, sub_data, List.take_of_length_le (by simp)]
theorem one_cells (w : World) (z : Value) (t : TypeId) : ∀ (j : Nat) (u : Value), [z][j]? = some u → (w.alloc (.cells #[z] t)).cell? ((⟨w.heap.size, 0, none⟩ : Addr).add j) = some u := by
  intro j u hj
  match j, hj with
  | 0, hj => simp at hj; subst hj; simp [Addr.add]
theorem up_append {w wr w2 : World} {e : TypeId} {v : Value} {n : Nat} {xs : List Value} (hU : Up w wr) (hown : wr.ownsRow w.heap.size e 1 v n xs) (o : Obj) (hg : (wr.alloc o).grownBy w2 v.ownBlock) : Up w w2 :=
  Below.grown (Up.alloc hU o) hg (Nat.le_trans hU.size (by simp)) (fun k hk => ((hown.alloc o).lt k hk).1)
theorem own_cells {w' : World} {base : Nat} {e : TypeId} {v : Value} {zs : List ByteArray} (h : w'.ownsRow base e 1 v zs.length (zs.map Value.string)) (hn : ¬ v = .slice none 0 0) :
    ∃ b cap : Nat, v = .slice (some ⟨b, 0, none⟩) zs.length cap ∧ Hid (∀ (j : Nat) (h : j < zs.length), w'.cell? ⟨b, j, none⟩ = some (.string zs[j])) := by
  rcases h.2 with ⟨h0, _⟩ | ⟨g, cap, cur, rfl, _, _, _, _, _, _⟩
  · exact absurd h0 hn
  · refine ⟨g, cap, rfl, fun j hj => ?_⟩
    rw [h.cellAt j (by omega), List.getElem?_map, List.getElem?_eq_getElem hj]; rfl
set_option maxRecDepth 20000 in
theorem parts_any (s : ByteArray) (c : UInt8) (z : Int) (w : World) (hz : Hid (z = (c.toNat : Int))) (hs : s.size < 4294967281) :
    Calls Tryz.prog 87 #[.string s, .int .u8 z] w fun e w' => ∃ (b cap : Nat) (zs : List ByteArray), e = .returned (.slice (some ⟨b, 0, none⟩) zs.length cap) ∧
      Hid (zs.map (·.data.toList) = spl c s.data.toList) ∧ zs.length ≤ s.size + 1 ∧ Hid (∀ (j : Nat) (h : j < zs.length), w'.cell? ⟨b, j, none⟩ = some (.string zs[j])) ∧ Up w w' := by
  obtain ⟨i0, hi0, hz0, hz1, hz2⟩ := info_parts info_string
  have HI := hid hi0
  clear hi0
  go_enter Tryz.func87, Tryz.ntmps87
  go_wp2
  go_loopw [5, 6, 7] (fun a b d wr => ∃ (zs : List ByteArray) (f k : Nat), b = .int .i64 f ∧ d = .int .i64 k ∧ f ≤ k ∧ k ≤ s.size ∧ zs.length ≤ f ∧ Hid (wr.ownsRow w.heap.size 9 1 a zs.length (zs.map Value.string)) ∧
      Hid (zs.map (·.data.toList) ++ spl c (s.data.toList.drop f) = spl c s.data.toList) ∧ Hid (Free c s.data.toList f k) ∧ Hid (Up w wr)) (fun _ _ d _ => s.size - (intOf d).toNat)
  case atStart => exact ⟨[], 0, 0, rfl, rfl, by omega, by omega, by simp, World.ownsRow_nil _ _ _ _, rfl, by unfold Hid Free; simp, Up.refl _⟩
  case round =>
    obtain ⟨zs, f, k, rfl, rfl, hf, hk, hzl, hown, hsp, hfr, hU⟩ := hrel
    by_cases hlt : k < s.size
    · by_cases hc : (s[k].toNat : Int) = z
      · have HC : Hid (s[k] = c) := UInt8.toNat_inj.1 (by have := hz.out; omega)
        have hcb : ((s[k].toNat : Int) == z) = true := by simpa using hc
        clear hc
        go_wp2_with (at_builtin; refine wpList_append_own _ rfl _ _ 70 rfl w.heap.size 9 i0 (.string ByteArray.empty) 1 16 Tryz.underlying70 HI.out hz0 hz1 hz2 rfl (by decide) _ _ _ rfl (hown.out.alloc _) ⟨wr.heap.size, 0, none⟩ 1 1 [.string (s.extract f k)] rfl rfl (one_cells _ _ _) (by intro u hu; simp at hu; subst hu; rfl) (by unfold maxLen; omega) (by omega) (by have := hU.out.size; simp; omega) ?_)
        intro v' w2 hown' hg hne
        have U2 := hid (up_append hU.out hown.out _ hg)
        have O2 := hid hown'
        clear hown' hg
        go_wp2
        go_roundw
        case rel =>
          refine ⟨zs ++ [s.extract f k], k + 1, k + 1, by go_num, by go_num, Nat.le_refl _, by omega, by simp; omega, ?_, ?_, by unfold Hid Free; simp, U2⟩
          · unfold Hid
            rw [List.length_append, List.map_append]
            exact O2.out
          · unfold Hid
            rw [← hsp.out, free_hit hfr.out hf hlt HC.out]
            simp
        case measure => simp [intOf]; omega
      · have HC : Hid (s[k] ≠ c) := fun e => hc (by rw [e]; exact hz.out.symm)
        have hcb : ((s[k].toNat : Int) == z) = false := by simpa using hc
        clear hc
        go_wp2
        go_roundw
        case rel => exact ⟨zs, f, k + 1, rfl, by go_num, by omega, by omega, hzl, hown, hsp, free_next hfr.out hf hlt HC.out, hU⟩
        case measure => simp [intOf]; omega
    · obtain rfl : k = s.size := by omega
      go_wp2_with (at_builtin; refine wpList_append_own _ rfl _ _ 70 rfl w.heap.size 9 i0 (.string ByteArray.empty) 1 16 Tryz.underlying70 HI.out hz0 hz1 hz2 rfl (by decide) _ _ _ rfl (hown.out.alloc _) ⟨wr.heap.size, 0, none⟩ 1 1 [.string (s.extract f s.size)] rfl rfl (one_cells _ _ _) (by intro u hu; simp at hu; subst hu; rfl) (by unfold maxLen; omega) (by omega) (by have := hU.out.size; simp; omega) ?_)
      intro v' w2 hown' hg hne
      have U2 := hid (up_append hU.out hown.out _ hg)
      have e : zs.length + 1 = (zs ++ [s.extract f s.size]).length := by simp
      rw [e, show List.map Value.string zs ++ [Value.string (s.extract f s.size)] = (zs ++ [s.extract f s.size]).map Value.string by simp] at hown'
      obtain ⟨b, cap, rfl, hcells⟩ := own_cells hown' hne
      clear hown' hg e hne
      go_wp2
      go_ret
      refine ⟨b, cap, zs ++ [s.extract f s.size], rfl, ?_, by simp; omega, hcells, U2.out⟩
      unfold Hid
      rw [← hsp.out, free_end hfr.out]
      simp

theorem digit_of (c : UInt8) : dg c = true ↔ 48 ≤ (c.toNat : Int) ∧ (c.toNat : Int) ≤ 57 := dg_iff c
theorem digitsB_fail {s : ByteArray} {k : Nat} (h : k < s.size) (hp : dg s[k] = false) : digitsB s.data.toList = false := all_fail (p := dg) h hp
theorem rdigits_any (s : ByteArray) (w : World) (hs : s.size ≤ 9223372036854775807) :
    Calls Tryz.prog 145 #[.string s] w fun e w' => e = .returned (.int .i64 (rdig s.data.toList)) ∧ w' = w := by
  have hl : Hid (s.data.toList.length = s.size) := len_list s
  by_cases h1 : s.size < 1
  · have hR : Hid (rdig s.data.toList = -1) := by unfold Hid rdig; rw [if_neg (by rw [hl.out]; omega)]
    go_enter Tryz.func145, Tryz.ntmps145
    go_wp2
    go_ret
    exact ⟨vret_int hR.out.symm, rfl⟩
  · by_cases h12 : 12 < s.size
    · have hR : Hid (rdig s.data.toList = -1) := by unfold Hid rdig; rw [if_neg (by rw [hl.out]; omega)]
      have hd : decide ((12 : Int) < s.size) = true := by simp; omega
      go_enter Tryz.func145, Tryz.ntmps145
      go_wp2
      go_ret
      exact ⟨vret_int hR.out.symm, rfl⟩
    · have hd : decide ((12 : Int) < s.size) = false := by simp; omega
      go_enter Tryz.func145, Tryz.ntmps145
      go_wp2
      go_loop [3, 4] (fun n i => ∃ k : Nat, k ≤ s.size ∧ i = .int .i64 k ∧ n = .int .i64 (num (s.data.toList.take k)) ∧ Hid (digitsB (s.data.toList.take k) = true)) (fun _ i => s.size - (intOf i).toNat)
      case atStart => exact ⟨0, Nat.zero_le _, rfl, rfl, rfl⟩
      case round =>
        obtain ⟨k, hk, rfl, rfl, hdg⟩ := hrel
        by_cases hlt : k < s.size
        · have hb := num_lt (s.data.toList.take k) hdg.out 12 (by simp; omega) 1000000000000 rfl
          have HS : Hid (num (s.data.toList.take (k + 1)) = 10 * num (s.data.toList.take k) + (nb s[k] - 48)) := by rw [take_snoc s k hlt]; exact num_snoc _ _
          by_cases hc : 48 ≤ (s[k].toNat : Int) ∧ (s[k].toNat : Int) ≤ 57
          · have HD : Hid (digitsB (s.data.toList.take (k + 1)) = true) := all_next (p := dg) hlt hdg.out ((digit_of _).2 hc)
            obtain ⟨c1, c2⟩ := hc
            have c2' : decide ((57 : Int) < (s[k].toNat : Int)) = false := by simp; omega
            go_wp2
            go_round
            case rel => exact ⟨k + 1, by omega, by go_num, by rw [HS.out]; unfold nb; go_num, HD⟩
            case measure => simp [intOf]; omega
          · have hR : Hid (rdig s.data.toList = -1) := by
              unfold Hid rdig
              rw [if_neg (fun h => by rw [digitsB_fail hlt (by rw [Bool.eq_false_iff]; exact fun e => hc ((digit_of _).1 e))] at h; exact absurd h.2.2 (by decide))]
            have hcc : (s[k].toNat : Int) < 48 ∨ 57 < (s[k].toNat : Int) := by omega
            clear hc
            rcases hcc with hcc | hcc
            · go_wp2
              go_ret
              exact ⟨vret_int hR.out.symm, rfl⟩
            · have c2' : decide ((57 : Int) < (s[k].toNat : Int)) = true := by simp; omega
              go_wp2
              go_ret
              exact ⟨vret_int hR.out.symm, rfl⟩
        · have hR : Hid (rdig s.data.toList = num (s.data.toList.take k)) := by
            unfold Hid rdig
            have e : s.data.toList.take k = s.data.toList := List.take_of_length_le (by rw [hl.out]; omega)
            have hd := hdg.out
            rw [e] at hd ⊢
            rw [if_pos ⟨by rw [hl.out]; omega, by rw [hl.out]; omega, hd⟩]
          go_wp2
          go_ret
          exact ⟨vret_int hR.out.symm, rfl⟩

theorem line_any (s : ByteArray) (w : World) (hs : s.size ≤ 9223372036854775807) :
    Calls Tryz.prog 90 #[.string s] w fun e w' => e = .returned (.bool (isTextB s.data.toList)) ∧ w' = w := by
  have hl : Hid (s.data.toList.length = s.size) := len_list s
  go_enter Tryz.func90, Tryz.ntmps90
  go_wp2
  go_loop [3] (fun i => ∃ k : Nat, k ≤ s.size ∧ i = .int .i64 k ∧ Hid ((s.data.toList.take k).all textC = true)) (fun i => s.size - (intOf i).toNat)
  case atStart => exact ⟨0, Nat.zero_le _, rfl, rfl⟩
  case round =>
    obtain ⟨k, hk, rfl, ha⟩ := hrel
    by_cases hlt : k < s.size
    · by_cases h32 : (s[k].toNat : Int) < 32
      · go_wp2
        go_ret
        exact ⟨vret_bool (by unfold isTextB; rw [all_fail (p := textC) hlt (by simp [textC, nb]; omega), Bool.and_false]), rfl⟩
      · by_cases h126 : (126 : Int) < (s[k].toNat : Int)
        · have d1 : decide ((126 : Int) < (s[k].toNat : Int)) = true := decide_eq_true h126
          go_wp2
          go_ret
          exact ⟨vret_bool (by unfold isTextB; rw [all_fail (p := textC) hlt (by simp [textC, nb]; omega), Bool.and_false]), rfl⟩
        · have d1 : decide ((126 : Int) < (s[k].toNat : Int)) = false := decide_eq_false h126
          by_cases h92 : (s[k].toNat : Int) = 92
          · have d2 : ((s[k].toNat : Int) == 92) = true := by simpa using h92
            have H92 := hid h92
            clear h92
            go_wp2
            go_ret
            exact ⟨vret_bool (by unfold isTextB; rw [all_fail (p := textC) hlt (by simp [textC, nb, H92.out]), Bool.and_false]), rfl⟩
          · have d2 : ((s[k].toNat : Int) == 92) = false := by simpa using h92
            go_wp2
            go_round
            case rel => exact ⟨k + 1, by omega, by go_num, all_next hlt ha.out (by simp [textC, nb]; omega)⟩
            case measure => simp [intOf]; omega
    · have hA : Hid (s.data.toList.all textC = true) := all_end (p := textC) (by omega) ha.out
      go_wp2
      go_ret
      exact ⟨vret_bool (by unfold isTextB; rw [hA.out, hl.out, Bool.and_true]; exact decide_eq_decide.2 (by omega)), rfl⟩
end Go.Proofs.YtaokifbpakbgdaaGreatDoor
