/-
  Package dataset's checkSet: the first thing that is wrong with a data set.
-/
import Derived.Test.YtaokifbpakbgdaaGreatDoorRead
import Derived.Deep.QuietTactic
import Derived.BigQuiet
namespace Go.Proofs.YtaokifbpakbgdaaGreatDoor
open Go.RowKit

theorem isKind_any (w : World) (k : By) : Calls Tryz.prog 189 #[.string (bs k)] w fun e w' => e = .returned (.bool (isK k)) ∧ w' = w := by
  have hk := bs_toList k
  go_enter Tryz.func189, Tryz.ntmps189
  go_wp2
  all_goals go_ret
  all_goals refine ⟨ret_bool ?_, rfl⟩
  all_goals simp_all [isK, kinds]
theorem isTag_any (w : World) (t : Int) : Calls Tryz.prog 190 #[.int .i64 t] w fun e w' => e = .returned (.bool (decide (¬ (t < 0 ∨ 4294967295 < t ∨ t / 65536 = 65534)))) ∧ w' = w := by
  by_cases h : 0 ≤ t ∧ t ≤ 4294967295
  · obtain ⟨t, rfl⟩ := Int.eq_ofNat_of_zero_le h.1
    obtain ⟨_, h2⟩ := h
    go_enter Tryz.func190, Tryz.ntmps190
    go_wp2_with (go_at_call 241; refine (reserved_any w t (by omega)).mono ?_; rintro e w1 ⟨rfl, rfl⟩)
    go_ret
    refine ⟨ret_bool ?_, rfl⟩
    rw [Bool.eq_iff_iff]
    simp
    omega
  · have e : decide (¬ (t < 0 ∨ 4294967295 < t ∨ t / 65536 = 65534)) = false := by simp; omega
    rw [e]
    go_enter Tryz.func190, Tryz.ntmps190
    go_wp2_with fail
    all_goals go_ret
    all_goals exact ⟨rfl, rfl⟩
theorem hasSuf_one (u : By) (p : UInt8) : Lib.hasSuffix u [p] = decide (u.getLast? = some p) := by
  unfold Lib.hasSuffix
  rw [Bool.eq_iff_iff, List.isSuffixOf_iff_suffix, decide_eq_true_eq, List.getLast?_eq_some_iff]
  exact ⟨fun ⟨t, h⟩ => ⟨t, h.symm⟩, fun ⟨t, h⟩ => ⟨t, h.symm⟩⟩
theorem below_drewN {B : Nat} {a b : World} (h : Below B a b) (n : Nat) : Below B a (b.drewN n) := ⟨h.os, h.tape, h.output, h.size, h.block⟩
def SetC (n : Nat) : Prop := ∀ (F : Nat → Prop) (w : World) (v : Value) (l : List (El n)) (d : Nat), d ≤ 2 → 3 ≤ d + n → Rd w F n v l →
  Calls Tryz.prog 63 #[v, .int .i64 d] w fun e w' => e = .returned (.int .i64 (errS n d l)) ∧ Below w.heap.size w w'
theorem checkItems_any (n : Nat) (H : SetC n) (F : Nat → Prop) (w : World) (v : Value) (l : Its n) (d : Nat) (hd : l = [] ∨ (d ≤ 2 ∧ 3 ≤ d + n)) (hl : l.length ≤ 8) (h : RdI w F n v l) :
    Calls Tryz.prog 192 #[v, .int .i64 d] w fun e w' => e = .returned (.int .i64 (errI (errS n d) l)) ∧ Below w.heap.size w w' := by
  obtain ⟨ad, cap, rfl, hc⟩ := id h
  go_enter Tryz.func192, Tryz.ntmps192
  go_wp2_with fail
  go_loopw [10] (fun i wr => ∃ k : Nat, k ≤ l.length ∧ i = .int .i64 k ∧ Hid (Below w.heap.size w wr) ∧ Hid (errI (errS n d) l = errI (errS n d) (l.drop k))) (fun i _ => l.length - (intOf i).toNat)
  case atStart => exact ⟨0, Nat.zero_le _, rfl, Below.refl _ _, rfl⟩
  case round =>
    obtain ⟨k, hk, rfl, hup, hspec⟩ := hrel
    by_cases hkl : k < l.length
    · obtain ⟨a, rfl, _, sv, hcell, hrd⟩ := hc k _ (List.getElem?_eq_getElem hkl)
      rw [Nat.one_mul] at hcell
      have hcr := cell_keep (hup.out.block _ (World.block_lt_of_cell? _ _ hcell)) hcell
      have hrd' := hid (hrd.up hup.out)
      clear hcell hrd
      have hdr : l.drop k = l[k] :: l.drop (k + 1) := List.drop_eq_getElem_cons hkl
      generalize hx : l[k] = x at hrd' hdr
      have hd' : d ≤ 2 ∧ 3 ≤ d + n := by
        rcases hd with hd | hd
        · subst hd; simp at hkl
        · exact hd
      obtain ⟨ad2, cap2, rfl⟩ := hrd'.out.slice
      go_wp2_with fail
      go_at_call 63
      refine (H F _ _ x d hd'.1 hd'.2 (hrd'.out.up (Below.alloc (Below.refl _ _) (Nat.le_refl _) _))).mono ?_
      rintro e w2 ⟨rfl, u2⟩
      have hup2 := hid ((Below.alloc hup.out hup.out.size (.cells #[.slice ad2 x.length cap2] 182)).trans (u2.mono (by have := hup.out.size; simp; omega)))
      clear u2
      have hstep := hid (show errI (errS n d) (l.drop k) = if errS n d x = 0 then errI (errS n d) (l.drop (k + 1)) else errS n d x by rw [hdr]; rfl)
      clear hdr
      generalize errS n d x = ee at hstep ⊢
      by_cases he : ee = 0
      · subst he
        go_wp2
        go_roundw
        case rel => exact ⟨k + 1, by omega, by go_num, hup2, by unfold Hid; rw [hspec.out, hstep.out]; simp⟩
        case measure => simp [intOf]; omega
      · have he2 : (ee != 0) = true := by simpa using he
        have he3 := hid he
        clear he
        go_wp2
        go_ret
        exact ⟨ret_int (by rw [hspec.out, hstep.out, if_neg he3.out]), hup2.out⟩
    · go_wp2
      go_ret
      refine ⟨ret_int ?_, hup.out⟩
      rw [hspec.out, List.drop_eq_nil_of_le (by omega)]; rfl
theorem checkElement_any (n : Nat) (H : SetC n) (F : Nat → Prop) (w : World) (x : El (n + 1)) (iv : Value) (b : Int) (d : Nat) (hd : d ≤ 2) (hn : 3 ≤ d + (n + 1)) (h : RdI w F n iv x.2.2.2) :
    Calls Tryz.prog 117 #[.agg #[.int .i64 x.1, .string (bs x.2.1), .string (bs x.2.2.1), iv], .int .i64 b, .int .i64 d] w fun e w' => e = .returned (.int .i64 (errE (errI (errS n (d + 1))) d b x)) ∧ Below w.heap.size w w' := by
  obtain ⟨t, k, u, its⟩ := x
  simp only at h ⊢
  obtain ⟨ad, cap, rfl⟩ := h.slice
  have hk := bs_toList k
  have hu := bs_toList u
  have hz := bs_size u
  go_enter Tryz.func117, Tryz.ntmps117
  go_wp2_with fail
  go_at_call 189
  refine (isKind_any _ k).mono ?_
  rintro e w1 ⟨rfl, rfl⟩
  by_cases h1 : isK k = false
  · rw [h1]
    go_wp2
    go_ret
    exact ⟨ret_int (by unfold errE; rw [if_pos h1]), Below.alloc (Below.refl _ _) (Nat.le_refl _) _⟩
  rw [show isK k = true by simpa using h1]
  go_wp2_with fail
  go_at_call 190
  refine (isTag_any _ t).mono ?_
  rintro e w1 ⟨rfl, rfl⟩
  by_cases h2 : t < 0 ∨ 4294967295 < t ∨ t / 65536 = 65534
  · rw [decide_eq_false (not_not_intro h2)]
    go_wp2_with fail
    go_ret
    refine ⟨ret_int ?_, Below.alloc (Below.refl _ _) (Nat.le_refl _) _⟩
    unfold errE
    rw [if_neg h1, if_pos (by simp only []; omega)]
  rw [decide_eq_true h2]
  by_cases h3 : t ≤ b
  · go_wp2_with fail
    go_ret
    refine ⟨ret_int ?_, Below.alloc (Below.refl _ _) (Nat.le_refl _) _⟩
    unfold errE
    rw [if_neg h1, if_pos (by simp only []; omega)]
  have E1 : Hid (errE (errI (errS n (d + 1))) d b (t, k, u, its) = if 64 < u.length ∨ u.getLast? = some (padB k) then 4 else if (k = SQ ∧ u ≠ []) ∨ (k ≠ SQ ∧ its ≠ []) then 1 else if 8 < its.length then 4 else if k = SQ ∧ 2 ≤ d then 5 else errI (errS n (d + 1)) its) := by
    unfold Hid errE
    rw [if_neg h1, if_neg (by simp only []; omega)]
  clear h1 h2
  have hup0 : Hid (Below w.heap.size w (w.alloc (.cells #[.int .i64 t, .string (bs k), .string (bs u), .slice ad its.length cap] 73))) := Below.alloc (Below.refl _ _) (Nat.le_refl _) _
  by_cases h4 : 64 < u.length
  · have d1 : decide ((64 : Int) < (u.length : Int)) = true := by simp; omega
    have d2 : decide (64 < u.length) = true := by simp; omega
    go_wp2_with fail
    go_quiet (fail)
    go_wp2
    go_ret
    exact ⟨ret_int (by rw [E1.out, if_pos (Or.inl h4)]), below_drewN hup0.out _⟩
  have d1 : decide ((64 : Int) < (u.length : Int)) = false := by simp; omega
  have d2 : decide (64 < u.length) = false := by simp; omega
  go_wp2_with fail
  go_quiet (first
    | (go_at_call 191; exact Calls.quiet_of_same (pad_any _ k))
    | (go_at_call 77; exact Calls.quiet_of_same (Tryz.strings_HasSuffix (bs u) (bs [padB k]) _ (by rw [bs_size]; omega))))
  rw [bs_list, bs_list, hasSuf_one]
  by_cases h5 : u.getLast? = some (padB k)
  · rw [decide_eq_true h5]
    go_wp2
    go_ret
    exact ⟨ret_int (by rw [E1.out, if_pos (Or.inr h5)]), below_drewN hup0.out _⟩
  rw [decide_eq_false h5]
  have E2 := hid (E1.out.trans (if_neg (fun e => e.elim h4 h5)))
  clear E1 h5
  have hup1 := hid (below_drewN hup0.out nq)
  have hrd := hid (h.up hup1.out)
  clear hup0
  by_cases h6 : (k == [83, 81]) = true
  · have hq := hid (show k = SQ by simpa using h6)
    by_cases h7 : u = []
    · have E3 := hid (E2.out.trans (if_neg (by rintro (⟨_, e⟩ | ⟨e, _⟩); (· exact e h7); exact e hq.out)))
      have d3 : (u == []) = true := by rw [h7]; rfl
      have d4 : (u != []) = false := by rw [h7]; rfl
      have d5 : u.isEmpty = true := by rw [h7]; rfl
      clear E2 h7
      by_cases h8 : 8 < its.length
      · have d6 : decide ((8 : Int) < (its.length : Int)) = true := by simp; omega
        go_wp2_with fail
        go_ret
        exact ⟨ret_int (by rw [E3.out, if_pos h8]), hup1.out⟩
      · have E4 := hid (E3.out.trans (if_neg h8))
        have d6 : decide ((8 : Int) < (its.length : Int)) = false := by simp; omega
        clear E3
        by_cases h9 : 2 ≤ d
        · have d7 : decide ((2 : Int) ≤ (d : Int)) = true := by simp; omega
          go_wp2_with fail
          go_ret
          exact ⟨ret_int (by rw [E4.out, if_pos ⟨hq.out, h9⟩]), hup1.out⟩
        · have E5 := hid (E4.out.trans (if_neg (fun e => h9 e.2)))
          have d7 : decide ((2 : Int) ≤ (d : Int)) = false := by simp; omega
          clear E4
          go_wp2_with fail
          go_at_call 192
          refine (checkItems_any n H F _ _ its (d + 1) (Or.inr ⟨by omega, by omega⟩) (by omega) hrd.out).mono ?_
          rintro e w2 ⟨rfl, u2⟩
          have hup2 := hid (hup1.out.trans (u2.mono hup1.out.size))
          clear u2 hup1 hrd
          generalize errI (errS n (d + 1)) its = ee at E5 ⊢
          go_wp2
          go_ret
          exact ⟨ret_int (by rw [E5.out]), hup2.out⟩
    · have d3 : (u == []) = false := by cases u with | nil => exact absurd rfl h7 | cons _ _ => rfl
      have d4 : (u != []) = true := by cases u with | nil => exact absurd rfl h7 | cons _ _ => rfl
      have d5 : u.isEmpty = false := by cases u with | nil => exact absurd rfl h7 | cons _ _ => rfl
      have E3 := hid (E2.out.trans (if_pos (Or.inl ⟨hq.out, h7⟩)))
      clear h7
      go_wp2_with fail
      go_ret
      exact ⟨ret_int (by rw [E3.out]), hup1.out⟩
  · have h6' : (k == [83, 81]) = false := by simpa using h6
    have hq := hid (show ¬ k = SQ by simpa using h6)
    clear h6
    by_cases h7 : its = []
    · subst h7
      have E3 : Hid (errE (errI (errS n (d + 1))) d b (t, k, u, []) = 0) := by
        unfold Hid
        rw [E2.out, if_neg (by rintro (⟨e, _⟩ | ⟨_, e⟩); (· exact hq.out e); exact e rfl), if_neg (by simp), if_neg (fun e => hq.out e.1)]; rfl
      clear E2
      go_wp2_with fail
      go_at_call 192
      refine (checkItems_any n H F _ _ [] (d + 1) (Or.inl rfl) (by simp) hrd.out).mono ?_
      rintro e w2 ⟨rfl, u2⟩
      have hup2 := hid (hup1.out.trans (u2.mono hup1.out.size))
      clear u2 hup1 hrd
      go_wp2
      go_ret
      exact ⟨ret_int (by rw [E3.out]; rfl), hup2.out⟩
    · have hlen : 0 < its.length := List.length_pos_iff.2 h7
      have E3 := hid (E2.out.trans (if_pos (Or.inr ⟨hq.out, h7⟩)))
      clear h7
      go_wp2_with fail
      go_ret
      exact ⟨ret_int (by rw [E3.out]), hup1.out⟩
end Go.Proofs.YtaokifbpakbgdaaGreatDoor
