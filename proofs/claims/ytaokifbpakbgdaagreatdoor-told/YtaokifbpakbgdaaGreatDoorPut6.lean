/-
  Several texts in one; what each one has stands at its head.
-/
import Derived.Test.YtaokifbpakbgdaaGreatDoorPut5
import Derived.Deep.QuietTactic
import Derived.BigQuiet
import Derived.Test.YtaokifbpakbgdaaGreatDoorPut3
import Derived.Lib.AppendStr
import Derived.Laws.AppendOwnNone
/- Package dataset's checkSet: the first thing that is wrong with a data set. -/
namespace Go.Proofs.YtaokifbpakbgdaaGreatDoor
open Go.RowKit

theorem isKind_any (w : World) (k : By) : Calls Tryz.prog 189 #[.string (bs k)] w fun e w' => e = .returned (.bool (isK k)) ∧ w' = w := by
  have hk := bs_toList k
  go_enter Tryz.func189, Tryz.ntmps189
  go_wp2
  all_goals go_ret
  all_goals refine ⟨ret_bool ?_, rfl⟩
  all_goals simp_all [isK, kinds]
theorem isTag_any (w : World) (t : Int) : Calls Tryz.prog 190 #[.int .i64 t] w fun e w' => e = .returned (.bool (decide (¬ (t < 0 ∨ 4294967295 < t ∨ t / 65536 = 65534)))) ∧ w' = w := by
  by_cases h : 0 ≤ t ∧ t ≤ 4294967295
  · obtain ⟨t, rfl⟩ := Int.eq_ofNat_of_zero_le h.1
    obtain ⟨_, h2⟩ := h
    go_enter Tryz.func190, Tryz.ntmps190
    go_wp2_with (go_at_call 241; refine (reserved_any w t (by omega)).mono ?_; rintro e w1 ⟨rfl, rfl⟩)
    go_ret
    refine ⟨ret_bool ?_, rfl⟩
    rw [Bool.eq_iff_iff]
    simp
    omega
  · have e : decide (¬ (t < 0 ∨ 4294967295 < t ∨ t / 65536 = 65534)) = false := by simp; omega
    rw [e]
    go_enter Tryz.func190, Tryz.ntmps190
    go_wp2_with fail
    all_goals go_ret
    all_goals exact ⟨rfl, rfl⟩
theorem hasSuf_one (u : By) (p : UInt8) : Lib.hasSuffix u [p] = decide (u.getLast? = some p) := by
  unfold Lib.hasSuffix
  rw [Bool.eq_iff_iff, List.isSuffixOf_iff_suffix, decide_eq_true_eq, List.getLast?_eq_some_iff]
  exact ⟨fun ⟨t, h⟩ => ⟨t, h.symm⟩, fun ⟨t, h⟩ => ⟨t, h.symm⟩⟩
theorem below_drewN {B : Nat} {a b : World} (h : Below B a b) (n : Nat) : Below B a (b.drewN n) := ⟨h.os, h.tape, h.output, h.size, h.block⟩
def SetC (n : Nat) : Prop := ∀ (F : Nat → Prop) (w : World) (v : Value) (l : List (El n)) (d : Nat), d ≤ 2 → 3 ≤ d + n → Rd w F n v l →
  Calls Tryz.prog 63 #[v, .int .i64 d] w fun e w' => e = .returned (.int .i64 (errS n d l)) ∧ Below w.heap.size w w'
theorem checkItems_any (n : Nat) (H : SetC n) (F : Nat → Prop) (w : World) (v : Value) (l : Its n) (d : Nat) (hd : l = [] ∨ (d ≤ 2 ∧ 3 ≤ d + n)) (hl : l.length ≤ 8) (h : RdI w F n v l) :
    Calls Tryz.prog 192 #[v, .int .i64 d] w fun e w' => e = .returned (.int .i64 (errI (errS n d) l)) ∧ Below w.heap.size w w' := by
  obtain ⟨ad, cap, rfl, hc⟩ := id h
  go_enter Tryz.func192, Tryz.ntmps192
  go_wp2_with fail
  go_loopw [10] (fun i wr => ∃ k : Nat, k ≤ l.length ∧ i = .int .i64 k ∧ Hid (Below w.heap.size w wr) ∧ Hid (errI (errS n d) l = errI (errS n d) (l.drop k))) (fun i _ => l.length - (intOf i).toNat)
  case atStart => exact ⟨0, Nat.zero_le _, rfl, Below.refl _ _, rfl⟩
  case round =>
    obtain ⟨k, hk, rfl, hup, hspec⟩ := hrel
    by_cases hkl : k < l.length
    · obtain ⟨a, rfl, _, sv, hcell, hrd⟩ := hc k _ (List.getElem?_eq_getElem hkl)
      rw [Nat.one_mul] at hcell
      have hcr := cell_keep (hup.out.block _ (World.block_lt_of_cell? _ _ hcell)) hcell
      have hrd' := hid (hrd.up hup.out)
      clear hcell hrd
      have hdr : l.drop k = l[k] :: l.drop (k + 1) := List.drop_eq_getElem_cons hkl
      generalize hx : l[k] = x at hrd' hdr
      have hd' : d ≤ 2 ∧ 3 ≤ d + n := by
        rcases hd with hd | hd
        · subst hd; simp at hkl
        · exact hd
      obtain ⟨ad2, cap2, rfl⟩ := hrd'.out.slice
      go_wp2_with fail
      go_at_call 63
      refine (H F _ _ x d hd'.1 hd'.2 (hrd'.out.up (Below.alloc (Below.refl _ _) (Nat.le_refl _) _))).mono ?_
      rintro e w2 ⟨rfl, u2⟩
      have hup2 := hid ((Below.alloc hup.out hup.out.size (.cells #[.slice ad2 x.length cap2] 182)).trans (u2.mono (by have := hup.out.size; simp; omega)))
      clear u2
      have hstep := hid (show errI (errS n d) (l.drop k) = if errS n d x = 0 then errI (errS n d) (l.drop (k + 1)) else errS n d x by rw [hdr]; rfl)
      clear hdr
      generalize errS n d x = ee at hstep ⊢
      by_cases he : ee = 0
      · subst he
        go_wp2
        go_roundw
        case rel => exact ⟨k + 1, by omega, by go_num, hup2, by unfold Hid; rw [hspec.out, hstep.out]; simp⟩
        case measure => simp [intOf]; omega
      · have he2 : (ee != 0) = true := by simpa using he
        have he3 := hid he
        clear he
        go_wp2
        go_ret
        exact ⟨ret_int (by rw [hspec.out, hstep.out, if_neg he3.out]), hup2.out⟩
    · go_wp2
      go_ret
      refine ⟨ret_int ?_, hup.out⟩
      rw [hspec.out, List.drop_eq_nil_of_le (by omega)]; rfl
theorem checkElement_any (n : Nat) (H : SetC n) (F : Nat → Prop) (w : World) (x : El (n + 1)) (iv : Value) (b : Int) (d : Nat) (hd : d ≤ 2) (hn : 3 ≤ d + (n + 1)) (h : RdI w F n iv x.2.2.2) :
    Calls Tryz.prog 117 #[.agg #[.int .i64 x.1, .string (bs x.2.1), .string (bs x.2.2.1), iv], .int .i64 b, .int .i64 d] w fun e w' => e = .returned (.int .i64 (errE (errI (errS n (d + 1))) d b x)) ∧ Below w.heap.size w w' := by
  obtain ⟨t, k, u, its⟩ := x
  simp only at h ⊢
  obtain ⟨ad, cap, rfl⟩ := h.slice
  have hk := bs_toList k
  have hu := bs_toList u
  have hz := bs_size u
  go_enter Tryz.func117, Tryz.ntmps117
  go_wp2_with fail
  go_at_call 189
  refine (isKind_any _ k).mono ?_
  rintro e w1 ⟨rfl, rfl⟩
  by_cases h1 : isK k = false
  · rw [h1]
    go_wp2
    go_ret
    exact ⟨ret_int (by unfold errE; rw [if_pos h1]), Below.alloc (Below.refl _ _) (Nat.le_refl _) _⟩
  rw [show isK k = true by simpa using h1]
  go_wp2_with fail
  go_at_call 190
  refine (isTag_any _ t).mono ?_
  rintro e w1 ⟨rfl, rfl⟩
  by_cases h2 : t < 0 ∨ 4294967295 < t ∨ t / 65536 = 65534
  · rw [decide_eq_false (not_not_intro h2)]
    go_wp2_with fail
    go_ret
    refine ⟨ret_int ?_, Below.alloc (Below.refl _ _) (Nat.le_refl _) _⟩
    unfold errE
    rw [if_neg h1, if_pos (by simp only []; omega)]
  rw [decide_eq_true h2]
  by_cases h3 : t ≤ b
  · go_wp2_with fail
    go_ret
    refine ⟨ret_int ?_, Below.alloc (Below.refl _ _) (Nat.le_refl _) _⟩
    unfold errE
    rw [if_neg h1, if_pos (by simp only []; omega)]
  have E1 : Hid (errE (errI (errS n (d + 1))) d b (t, k, u, its) = if 64 < u.length ∨ u.getLast? = some (padB k) then 4 else if (k = SQ ∧ u ≠ []) ∨ (k ≠ SQ ∧ its ≠ []) then 1 else if 8 < its.length then 4 else if k = SQ ∧ 2 ≤ d then 5 else errI (errS n (d + 1)) its) := by
    unfold Hid errE
    rw [if_neg h1, if_neg (by simp only []; omega)]
  clear h1 h2
  have hup0 : Hid (Below w.heap.size w (w.alloc (.cells #[.int .i64 t, .string (bs k), .string (bs u), .slice ad its.length cap] 73))) := Below.alloc (Below.refl _ _) (Nat.le_refl _) _
  by_cases h4 : 64 < u.length
  · have d1 : decide ((64 : Int) < (u.length : Int)) = true := by simp; omega
    have d2 : decide (64 < u.length) = true := by simp; omega
    go_wp2_with fail
    go_quiet (fail)
    go_wp2
    go_ret
    exact ⟨ret_int (by rw [E1.out, if_pos (Or.inl h4)]), below_drewN hup0.out _⟩
  have d1 : decide ((64 : Int) < (u.length : Int)) = false := by simp; omega
  have d2 : decide (64 < u.length) = false := by simp; omega
  go_wp2_with fail
  go_quiet (first
    | (go_at_call 191; exact Calls.quiet_of_same (pad_any _ k))
    | (go_at_call 77; exact Calls.quiet_of_same (Tryz.strings_HasSuffix (bs u) (bs [padB k]) _ (by rw [bs_size]; omega))))
  rw [bs_list, bs_list, hasSuf_one]
  by_cases h5 : u.getLast? = some (padB k)
  · rw [decide_eq_true h5]
    go_wp2
    go_ret
    exact ⟨ret_int (by rw [E1.out, if_pos (Or.inr h5)]), below_drewN hup0.out _⟩
  rw [decide_eq_false h5]
  have E2 := hid (E1.out.trans (if_neg (fun e => e.elim h4 h5)))
  clear E1 h5
  have hup1 := hid (below_drewN hup0.out nq)
  have hrd := hid (h.up hup1.out)
  clear hup0
  by_cases h6 : (k == [83, 81]) = true
  · have hq := hid (show k = SQ by simpa using h6)
    by_cases h7 : u = []
    · have E3 := hid (E2.out.trans (if_neg (by rintro (⟨_, e⟩ | ⟨e, _⟩); (· exact e h7); exact e hq.out)))
      have d3 : (u == []) = true := by rw [h7]; rfl
      have d4 : (u != []) = false := by rw [h7]; rfl
      have d5 : u.isEmpty = true := by rw [h7]; rfl
      clear E2 h7
      by_cases h8 : 8 < its.length
      · have d6 : decide ((8 : Int) < (its.length : Int)) = true := by simp; omega
        go_wp2_with fail
        go_ret
        exact ⟨ret_int (by rw [E3.out, if_pos h8]), hup1.out⟩
      · have E4 := hid (E3.out.trans (if_neg h8))
        have d6 : decide ((8 : Int) < (its.length : Int)) = false := by simp; omega
        clear E3
        by_cases h9 : 2 ≤ d
        · have d7 : decide ((2 : Int) ≤ (d : Int)) = true := by simp; omega
          go_wp2_with fail
          go_ret
          exact ⟨ret_int (by rw [E4.out, if_pos ⟨hq.out, h9⟩]), hup1.out⟩
        · have E5 := hid (E4.out.trans (if_neg (fun e => h9 e.2)))
          have d7 : decide ((2 : Int) ≤ (d : Int)) = false := by simp; omega
          clear E4
          go_wp2_with fail
          go_at_call 192
          refine (checkItems_any n H F _ _ its (d + 1) (Or.inr ⟨by omega, by omega⟩) (by omega) hrd.out).mono ?_
          rintro e w2 ⟨rfl, u2⟩
          have hup2 := hid (hup1.out.trans (u2.mono hup1.out.size))
          clear u2 hup1 hrd
          generalize errI (errS n (d + 1)) its = ee at E5 ⊢
          go_wp2
          go_ret
          exact ⟨ret_int (by rw [E5.out]), hup2.out⟩
    · have d3 : (u == []) = false := by cases u with | nil => exact absurd rfl h7 | cons _ _ => rfl
      have d4 : (u != []) = true := by cases u with | nil => exact absurd rfl h7 | cons _ _ => rfl
      have d5 : u.isEmpty = false := by cases u with | nil => exact absurd rfl h7 | cons _ _ => rfl
      have E3 := hid (E2.out.trans (if_pos (Or.inl ⟨hq.out, h7⟩)))
      clear h7
      go_wp2_with fail
      go_ret
      exact ⟨ret_int (by rw [E3.out]), hup1.out⟩
  · have h6' : (k == [83, 81]) = false := by simpa using h6
    have hq := hid (show ¬ k = SQ by simpa using h6)
    clear h6
    by_cases h7 : its = []
    · subst h7
      have E3 : Hid (errE (errI (errS n (d + 1))) d b (t, k, u, []) = 0) := by
        unfold Hid
        rw [E2.out, if_neg (by rintro (⟨e, _⟩ | ⟨_, e⟩); (· exact hq.out e); exact e rfl), if_neg (by simp), if_neg (fun e => hq.out e.1)]; rfl
      clear E2
      go_wp2_with fail
      go_at_call 192
      refine (checkItems_any n H F _ _ [] (d + 1) (Or.inl rfl) (by simp) hrd.out).mono ?_
      rintro e w2 ⟨rfl, u2⟩
      have hup2 := hid (hup1.out.trans (u2.mono hup1.out.size))
      clear u2 hup1 hrd
      go_wp2
      go_ret
      exact ⟨ret_int (by rw [E3.out]; rfl), hup2.out⟩
    · have hlen : 0 < its.length := List.length_pos_iff.2 h7
      have E3 := hid (E2.out.trans (if_pos (Or.inr ⟨hq.out, h7⟩)))
      clear h7
      go_wp2_with fail
      go_ret
      exact ⟨ret_int (by rw [E3.out]), hup1.out⟩
end Go.Proofs.YtaokifbpakbgdaaGreatDoor

/- Package dataset's checkSet and Decode. -/
namespace Go.Proofs.YtaokifbpakbgdaaGreatDoor
open Go.RowKit

theorem checkSet_succ (n : Nat) (H : SetC n) : SetC (n + 1) := by
  intro F w v l d hd hn h
  obtain ⟨ad, cap, rfl⟩ := h.slice
  by_cases hlen : 24 < l.length
  · have d1 : decide ((24 : Int) < (l.length : Int)) = true := by simp; omega
    go_enter Tryz.func63, Tryz.ntmps63
    go_wp2_with fail
    go_ret
    exact ⟨ret_int (by rw [errS, if_pos hlen]), Below.refl _ _⟩
  have d1 : decide ((24 : Int) < (l.length : Int)) = false := by simp; omega
  have E1 := hid (show errS (n + 1) d l = errL (errE (errI (errS n (d + 1))) d) (fun x => x.1) (-1) l by rw [errS, if_neg hlen])
  go_enter Tryz.func63, Tryz.ntmps63
  go_wp2_with fail
  go_loopw [5, 14] (fun bv i wr => ∃ (k : Nat) (b : Int), k ≤ l.length ∧ i = .int .i64 k ∧ bv = .int .i64 b ∧ Hid (Below w.heap.size w wr) ∧ Hid (errS (n + 1) d l = errL (errE (errI (errS n (d + 1))) d) (fun x => x.1) b (l.drop k))) (fun _ i _ => l.length - (intOf i).toNat)
  case atStart => exact ⟨0, -1, Nat.zero_le _, rfl, rfl, Below.refl _ _, E1.out⟩
  case round =>
    obtain ⟨k, b, hk, rfl, rfl, hup, hspec⟩ := hrel
    by_cases hkl : k < l.length
    · obtain ⟨a, ad2, cap2, rfl, _, c0, c1, c2, c3, hrd⟩ := (h.up hup.out).at (List.getElem?_eq_getElem hkl)
      have hrd' := hid hrd
      clear hrd
      have hdr : l.drop k = l[k] :: l.drop (k + 1) := List.drop_eq_getElem_cons hkl
      generalize l[k] = x at hrd' hdr c0 c1 c2 c3
      go_wp2_with fail
      go_at_call 117
      refine (checkElement_any n H F _ x _ b d hd hn (hrd'.out.up (Below.alloc (Below.refl _ _) (Nat.le_refl _) _))).mono ?_
      rintro e w2 ⟨rfl, u2⟩
      have hx2 := (Four.new wr (.int .i64 x.1) (.string (bs x.2.1)) (.string (bs x.2.2.1)) (.slice ad2 x.2.2.2.length cap2)).keep (u2.block _ (by simp))
      obtain ⟨⟨x0, _⟩, _⟩ := hx2.cells
      have hup2 := hid ((Below.alloc hup.out hup.out.size (.cells #[.int .i64 x.1, .string (bs x.2.1), .string (bs x.2.2.1), .slice ad2 x.2.2.2.length cap2] 73)).trans (u2.mono (by have := hup.out.size; simp; omega)))
      clear u2 hx2
      have hstep := hid (show errL (errE (errI (errS n (d + 1))) d) (fun x => x.1) b (l.drop k) = if errE (errI (errS n (d + 1))) d b x = 0 then errL (errE (errI (errS n (d + 1))) d) (fun x => x.1) x.1 (l.drop (k + 1)) else errE (errI (errS n (d + 1))) d b x by rw [hdr]; rfl)
      clear hdr
      generalize errE (errI (errS n (d + 1))) d b x = ee at hstep ⊢
      by_cases he : ee = 0
      · subst he
        go_wp2
        go_roundw
        case rel => exact ⟨k + 1, x.1, by omega, by go_num, rfl, hup2, by unfold Hid; rw [hspec.out, hstep.out]; simp⟩
        case measure => simp [intOf]; omega
      · have he2 : (ee != 0) = true := by simpa using he
        have he3 := hid he
        clear he
        go_wp2
        go_ret
        exact ⟨ret_int (by rw [hspec.out, hstep.out, if_neg he3.out]), hup2.out⟩
    · go_wp2
      go_ret
      refine ⟨ret_int ?_, hup.out⟩
      rw [hspec.out, List.drop_eq_nil_of_le (by omega)]; rfl
theorem checkSet_any : ∀ n, SetC n
  | 0 => fun _ _ _ _ _ h1 h2 _ => absurd h2 (by omega)
  | n + 1 => checkSet_succ n (checkSet_any n)
/-- The error that Decode answers. -/
def decE (n : Nat) (s : By) : Int := if 16384 < s.length then 4 else match parse n s with
  | none => 1
  | some l => errS n 0 l
/-- How Decode ends. -/
def DecEnd (n : Nat) (w : World) (s : By) (e : Ending) (w' : World) : Prop := Below w.heap.size w w' ∧
  ((decE n s ≠ 0 ∧ e = .returned (.tuple #[.slice none 0 0, .int .i64 (decE n s)])) ∨
   (decE n s = 0 ∧ ∃ l v bl, parse n s = some l ∧ errS n 0 l = 0 ∧ e = .returned (.tuple #[v, .int .i64 0]) ∧ Ow w' n v l bl ∧ New w w' bl))
theorem Decode_any (w : World) (n : Nat) (hn : 3 ≤ n) (s : By) :
    Calls Tryz.prog 58 #[.string (bs s)] w (DecEnd n w s) := by
  have hz := bs_size s
  by_cases hs : 16384 < s.length
  · have d1 : decide ((16384 : Int) < (s.length : Int)) = true := by simp; omega
    have e1 := hid (show decE n s = 4 by unfold decE; rw [if_pos hs])
    go_enter Tryz.func58, Tryz.ntmps58
    go_wp2_with fail
    go_ret2
    exact ⟨Below.refl _ _, Or.inl ⟨by rw [e1.out]; decide, by rw [e1.out]; rfl⟩⟩
  have d1 : decide ((16384 : Int) < (s.length : Int)) = false := by simp; omega
  go_enter Tryz.func58, Tryz.ntmps58
  go_wp2_with fail
  go_at_call 108
  refine (read_any w n s (by omega)).mono ?_
  cases hp : parse n s with
  | none =>
    have e1 := hid (show decE n s = 1 by unfold decE; rw [if_neg hs, hp])
    rintro e w1 ⟨u1, rfl⟩
    have u1' := hid u1
    clear u1
    go_wp2_with fail
    go_ret2
    exact ⟨u1'.out, Or.inl ⟨by rw [e1.out]; decide, by rw [e1.out]; rfl⟩⟩
  | some l =>
    have e1 := hid (show decE n s = errS n 0 l by unfold decE; rw [if_neg hs, hp])
    rintro e w1 ⟨u1, v, bl, rfl, how, hbl⟩
    have u1' := hid u1
    clear u1
    go_wp2_with fail
    go_at_call 63
    refine (checkSet_any n (fun _ => True) w1 v l 0 (by omega) (by omega) (how.rd _ _ _ _ _ (fun _ _ => trivial))).mono ?_
    rintro e w2 ⟨rfl, u2⟩
    have how2 := hid (how.keep (w' := w2) _ _ _ _ (fun j hj => u2.block j (hbl.2 j hj).2))
    have hbl2 := hid (hbl.more u2.size)
    have u2' := hid (u1'.out.trans (u2.mono u1'.out.size))
    clear u2 how hbl
    have hE := hid (rfl : errS n 0 l = errS n 0 l)
    generalize hee : errS n 0 l = ee at e1 ⊢
    by_cases he : ee = 0
    · subst he
      go_wp2
      go_ret2
      exact ⟨u2'.out, Or.inr ⟨e1.out, l, v, bl, hp, hee, rfl, how2.out, hbl2.out⟩⟩
    · have he2 : (ee != 0) = true := by simpa using he
      have he4 : (ee == 0) = false := by simpa using he
      have he3 := hid he
      clear he hE
      have hee' := hid hee
      clear hee
      go_wp2
      go_ret2
      exact ⟨u2'.out, Or.inl ⟨by rw [e1.out]; exact he3.out, by rw [e1.out]; rfl⟩⟩
end Go.Proofs.YtaokifbpakbgdaaGreatDoor

/- A data set comes back out of its bytes, by lengths or by marks, however many pads (no program). -/
namespace Go.Proofs.YtaokifbpakbgdaaGreatDoor

theorem tk_app (a r : By) (k : Nat) (h : k = a.length) : tk k (a ++ r) = some (a, r) := by
  subst h
  simp [tk]
theorem nu_lows (k n : Nat) (r : By) (h : n < 256 ^ k) : nu k (lows k n ++ r) = some (n, r) := by
  rw [nu, tk_app _ _ _ (lows_length k n).symm]
  simp only []
  rw [le_lows, Nat.mod_eq_of_lt h]
theorem tg_wrT (t : Int) (r : By) (h0 : 0 ≤ t) (h1 : t ≤ 4294967295) : tg (wrT t ++ r) = some (t.toNat, r) := by
  rw [wrT, List.append_assoc, tg, nu_lows _ _ _ (by have : (256 : Nat) ^ 2 = 65536 := rfl; omega)]
  simp only []
  rw [nu_lows _ _ _ (by have : (256 : Nat) ^ 2 = 65536 := rfl; omega)]
  simp only []
  congr 2
  omega
theorem ze_zero (k : Nat) (a r : By) (hl : k = a.length) (h : le a = 0) : ze k (a ++ r) = some r := by
  rw [ze, nu, tk_app _ _ _ hl]
  simp [h]
theorem trim_rep (p : UInt8) (v : By) (h : v.getLast? ≠ some p) (j : Nat) : trimB p (v ++ List.replicate j p) = v := by
  unfold trimB
  rw [List.reverse_append, List.reverse_replicate]
  have e : ∀ (j : Nat) (u : By), (List.replicate j p ++ u).dropWhile (· == p) = u.dropWhile (· == p) := by
    intro j u
    induction j with
    | zero => rfl
    | succ j ih => rw [List.replicate_succ, List.cons_append, List.dropWhile_cons_of_pos (by simp), ih]
  rw [e]
  cases hv : v.reverse with
  | nil => simp at hv; subst hv; rfl
  | cons c u =>
    have hc : c ≠ p := by
      intro hcp
      subst hcp
      apply h
      rw [List.getLast?_eq_head?_reverse, hv]; rfl
    rw [List.dropWhile_cons_of_neg (by simpa using hc), ← hv, List.reverse_reverse]
theorem wrV_eq (p : Nat) (k v : By) : wrV p k v = v ++ List.replicate (v.length % 2 + 2 * p) (padB k) := by
  unfold wrV
  rcases Nat.mod_two_eq_zero_or_one v.length with h | h
  · rw [if_neg (by omega), h, Nat.zero_add]
  · rw [if_pos h, h, List.append_assoc, Nat.add_comm 1, List.replicate_succ]; rfl
theorem va_wr (p : Nat) (k v r : By) (h : v.getLast? ≠ some (padB k)) (hl : v.length ≤ 64) (hp : p ≤ 30000) : va k (lows 2 (wrV p k v).length ++ wrV p k v ++ r) = some (v, r) := by
  have hlen : (wrV p k v).length = v.length + (v.length % 2 + 2 * p) := by rw [wrV_eq]; simp
  rw [va, List.append_assoc, nu_lows _ _ _ (by have : (256 : Nat) ^ 2 = 65536 := rfl; omega)]
  simp only []
  rw [if_pos (by omega), tk_app _ _ _ rfl]
  simp only []
  rw [wrV_eq, trim_rep _ _ h]

/-- Its bytes are read as it. -/
def Rt {α : Type} (f : Nat → By → Option (α × By)) (e : α → By) (x : α) : Prop := ∀ r, ∃ t r', tg (e x ++ r) = some (t, r') ∧ t ≠ 4294893581 ∧ t ≠ 4294893789 ∧ f t r' = some (x, r)
theorem Rt.ne {α : Type} {f : Nat → By → Option (α × By)} {e : α → By} {x : α} (h : Rt f e x) : e x ≠ [] := by
  intro hn
  obtain ⟨t, r', h1, _⟩ := h []
  rw [hn] at h1
  cases h1
theorem toEnd_nil {α : Type} (f : Nat → By → Option (α × By)) (k : Nat) : toEnd f k [] = some [] := by cases k <;> rfl
theorem flat_le {α : Type} {f : Nat → By → Option (α × By)} {e : α → By} : ∀ (l : List α), (∀ x ∈ l, Rt f e x) → l.length ≤ ((l.map e).flatten).length
  | [], _ => by simp
  | x :: l, h => by
    have h1 := flat_le l (fun y hy => h y (List.mem_cons_of_mem _ hy))
    have h2 := List.length_pos_iff.2 (h x List.mem_cons_self).ne
    simp only [List.map_cons, List.flatten_cons, List.length_append, List.length_cons]
    omega
theorem toEnd_app {α : Type} {f : Nat → By → Option (α × By)} {e : α → By} (r : By) : ∀ (l : List α), (∀ x ∈ l, Rt f e x) → ∀ K, l.length ≤ K → toEnd f K ((l.map e).flatten ++ r) = (toEnd f (K - l.length) r).map (l ++ ·)
  | [], _, K, _ => by simp
  | x :: l, h, K, hK => by
    cases K with
    | zero => simp at hK
    | succ K =>
      simp only [List.length_cons] at hK
      obtain ⟨t, r', h1, _, _, h2⟩ := h x List.mem_cons_self ((l.map e).flatten ++ r)
      simp only [List.map_cons, List.flatten_cons, List.append_assoc]
      rw [toEnd, if_neg (by have := (h x List.mem_cons_self).ne; simp [this]), h1]
      simp only [h2]
      rw [toEnd_app r l (fun y hy => h y (List.mem_cons_of_mem _ hy)) K (by omega), List.length_cons, show K + 1 - (l.length + 1) = K - l.length by omega]
      cases toEnd f (K - l.length) r <;> rfl
theorem toMark_app {α : Type} {f : Nat → By → Option (α × By)} {e : α → By} (m : Nat) (hm : m = 4294893581 ∨ m = 4294893789) (a r r' : By) (h1 : tg (a ++ r) = some (m, r')) (h2 : ze 4 r' = some r) :
    ∀ (l : List α), (∀ x ∈ l, Rt f e x) → ∀ K, l.length < K → toMark m f K ((l.map e).flatten ++ (a ++ r)) = some (l, r)
  | [], _, K, hK => by
    cases K with
    | zero => simp at hK
    | succ K => simp only [List.map_nil, List.flatten_nil, List.nil_append, toMark, h1, h2, if_pos]
  | x :: l, h, K, hK => by
    cases K with
    | zero => simp at hK
    | succ K =>
      simp only [List.length_cons] at hK
      obtain ⟨t, r'', g1, g2, g3, g4⟩ := h x List.mem_cons_self ((l.map e).flatten ++ (a ++ r))
      simp only [List.map_cons, List.flatten_cons]
      rw [List.append_assoc (e x), toMark, g1]
      simp only []
      rw [if_neg (by rcases hm with rfl | rfl <;> assumption), g4]
      simp only []
      rw [toMark_app m hm a r r' h1 h2 l (fun y hy => h y (List.mem_cons_of_mem _ hy)) K (by omega)]
/-- Things behind their length, or up to a mark. -/
theorem lg_wr {α : Type} {f : Nat → By → Option (α × By)} {e : α → By} (o : Bool) (m : Nat) (hm : m = 4294893581 ∨ m = 4294893789) (a r : By) (h1 : tg (a ++ r) = some (m, [0, 0, 0, 0] ++ r)) (ha : 0 < a.length)
    (l : List α) (h : ∀ x ∈ l, Rt f e x) (hs : o = false → ((l.map e).flatten).length < 4294967295) :
    lg m f (sizeB o (l.map e).flatten ++ (l.map e).flatten ++ (if o then a else []) ++ r) = some (l, r) := by
  cases o with
  | true =>
    have e0 : sizeB true (l.map e).flatten = lows 4 4294967295 := rfl
    rw [e0, List.append_assoc, List.append_assoc, lg, nu_lows _ _ _ (by decide)]
    simp only [if_pos]
    refine toMark_app m hm a r _ h1 (ze_zero 4 [0, 0, 0, 0] r rfl rfl) l h _ ?_
    have := flat_le l h
    simp only [List.length_append]
    omega
  | false =>
    have hb := hs rfl
    have e0 : sizeB false (l.map e).flatten = lows 4 (l.map e).flatten.length := rfl
    have e1 : (if (false : Bool) = true then a else []) = ([] : By) := rfl
    rw [e0, e1, List.append_nil, List.append_assoc, lg, nu_lows _ _ _ (by have : (256 : Nat) ^ 4 = 4294967296 := rfl; omega)]
    simp only []
    rw [if_neg (by omega), tk_app _ _ _ rfl]
    simp only []
    have := toEnd_app (f := f) (e := e) [] l h (l.map e).flatten.length (flat_le l h)
    rw [List.append_nil] at this
    rw [this, toEnd_nil]
    simp

theorem tg4 (a b c d : UInt8) (r : By) : tg (a :: b :: c :: d :: r) = some (65536 * (a.toNat + 256 * b.toNat) + (c.toNat + 256 * d.toNat), r) := by
  simp [tg, nu, tk, le]
theorem tg_item (r : By) : tg ([254, 255, 0, 224] ++ r) = some (4294893568, r) := by
  rw [show ([254, 255, 0, 224] ++ r : By) = 254 :: 255 :: 0 :: 224 :: r from rfl, tg4, show 65536 * ((254 : UInt8).toNat + 256 * (255 : UInt8).toNat) + ((0 : UInt8).toNat + 256 * (224 : UInt8).toNat) = 4294893568 by decide +kernel]
theorem tg_itemEnd (r : By) : tg ([254, 255, 13, 224, 0, 0, 0, 0] ++ r) = some (4294893581, [0, 0, 0, 0] ++ r) := by
  rw [show ([254, 255, 13, 224, 0, 0, 0, 0] ++ r : By) = 254 :: 255 :: 13 :: 224 :: ([0, 0, 0, 0] ++ r) from rfl, tg4, show 65536 * ((254 : UInt8).toNat + 256 * (255 : UInt8).toNat) + ((13 : UInt8).toNat + 256 * (224 : UInt8).toNat) = 4294893581 by decide +kernel]
theorem tg_itemsEnd (r : By) : tg ([254, 255, 221, 224, 0, 0, 0, 0] ++ r) = some (4294893789, [0, 0, 0, 0] ++ r) := by
  rw [show ([254, 255, 221, 224, 0, 0, 0, 0] ++ r : By) = 254 :: 255 :: 221 :: 224 :: ([0, 0, 0, 0] ++ r) from rfl, tg4, show 65536 * ((254 : UInt8).toNat + 256 * (255 : UInt8).toNat) + ((221 : UInt8).toNat + 256 * (224 : UInt8).toNat) = 4294893789 by decide +kernel]

/- What is right. -/
theorem errI_mem {α : Type} {f : List α → Int} : ∀ {l : List (List α)}, errI f l = 0 → ∀ s ∈ l, f s = 0
  | [], _, s, hs => by cases hs
  | t :: l, h, s, hs => by
    rw [errI] at h
    by_cases ht : f t = 0
    · rw [if_pos ht] at h
      rcases List.mem_cons.1 hs with rfl | hs
      · exact ht
      · exact errI_mem h s hs
    · rw [if_neg ht] at h; exact absurd h ht
theorem errL_mem {α : Type} {e : Int → α → Int} {t : α → Int} : ∀ {l : List α} {b : Int}, errL e t b l = 0 → ∀ x ∈ l, ∃ b, e b x = 0
  | [], _, _, x, hx => by cases hx
  | y :: l, b, h, x, hx => by
    rw [errL] at h
    by_cases hy : e b y = 0
    · rw [if_pos hy] at h
      rcases List.mem_cons.1 hx with rfl | hx
      · exact ⟨b, hy⟩
      · exact errL_mem h x hx
    · rw [if_neg hy] at h; exact absurd h hy
/-- What an element is that is right. -/
theorem errE_ok {n : Nat} {g : Its n → Int} {d : Nat} {b : Int} {x : El (n + 1)} (h : errE g d b x = 0) :
    isK x.2.1 = true ∧ 0 ≤ x.1 ∧ x.1 ≤ 4294967295 ∧ x.1 / 65536 ≠ 65534 ∧ b < x.1 ∧ x.2.2.1.length ≤ 64 ∧ x.2.2.1.getLast? ≠ some (padB x.2.1) ∧ (x.2.1 = SQ → x.2.2.1 = []) ∧ (x.2.1 ≠ SQ → x.2.2.2 = []) ∧ x.2.2.2.length ≤ 8 ∧
      (x.2.1 = SQ → d < 2) ∧ g x.2.2.2 = 0 := by
  unfold errE at h
  by_cases h1 : isK x.2.1 = false
  · rw [if_pos h1] at h; cases h
  rw [if_neg h1] at h
  by_cases h2 : x.1 < 0 ∨ 4294967295 < x.1 ∨ x.1 / 65536 = 65534 ∨ x.1 ≤ b
  · rw [if_pos h2] at h; cases h
  rw [if_neg h2] at h
  by_cases h3 : 64 < x.2.2.1.length ∨ x.2.2.1.getLast? = some (padB x.2.1)
  · rw [if_pos h3] at h; cases h
  rw [if_neg h3] at h
  by_cases h4 : (x.2.1 = SQ ∧ x.2.2.1 ≠ []) ∨ (x.2.1 ≠ SQ ∧ x.2.2.2 ≠ [])
  · rw [if_pos h4] at h; cases h
  rw [if_neg h4] at h
  by_cases h5 : 8 < x.2.2.2.length
  · rw [if_pos h5] at h; cases h
  rw [if_neg h5] at h
  by_cases h6 : x.2.1 = SQ ∧ 2 ≤ d
  · rw [if_pos h6] at h; cases h
  rw [if_neg h6] at h
  refine ⟨by simpa using h1, by omega, by omega, by omega, by omega, by omega, fun hh => h3 (Or.inr hh), fun hq => ?_, fun hq => ?_, by omega, fun hq => ?_, h⟩
  · by_cases hv : x.2.2.1 = []
    · exact hv
    · exact absurd (Or.inl ⟨hq, hv⟩) h4
  · by_cases hv : x.2.2.2 = []
    · exact hv
    · exact absurd (Or.inr ⟨hq, hv⟩) h4
  · by_cases hd : 2 ≤ d
    · exact absurd ⟨hq, hd⟩ h6
    · omega
theorem isK_length {k : By} (h : isK k = true) : k.length = 2 := by
  unfold isK kinds at h
  rw [List.contains_iff_mem] at h
  simp only [List.mem_cons, List.not_mem_nil, or_false] at h
  rcases h with rfl | rfl | rfl | rfl | rfl | rfl | rfl | rfl <;> rfl
theorem mem_flat_le {α : Type} {e : α → By} : ∀ {l : List α} {x : α}, x ∈ l → (e x).length ≤ ((l.map e).flatten).length
  | y :: l, x, h => by
    simp only [List.map_cons, List.flatten_cons, List.length_append]
    rcases List.mem_cons.1 h with rfl | h
    · omega
    · have := mem_flat_le (e := e) h; omega

theorem wrS_succ (o : Bool) (p n : Nat) (l : List (El (n + 1))) : wrS o p (n + 1) l = (l.map (wrE (wrS o p n) o p)).flatten := rfl
/-- AN ELEMENT THAT IS RIGHT COMES BACK. -/
theorem rt_el (o : Bool) (p : Nat) (hp : p ≤ 30000) : ∀ (n d : Nat), 2 ≤ d + n → ∀ (b : Int) (x : El (n + 1)), errE (errI (errS n (d + 1))) d b x = 0 → (o = false → (wrE (wrS o p n) o p x).length < 4294967295) →
    ∀ m, n ≤ m → Rt (elP (m + 1) (n + 1)) (wrE (wrS o p n) o p) x := by
  intro n
  induction n with
  | zero =>
    intro d hd b x hx hs m hm r
    obtain ⟨h1, h2, h3, h4, h5, h6, h7, h8, h9, h10, h11, h12⟩ := errE_ok hx
    have hq : x.2.1 ≠ SQ := fun hq => by have := h11 hq; omega
    refine ⟨x.1.toNat, x.2.1 ++ (lows 2 (wrV p x.2.1 x.2.2.1).length ++ wrV p x.2.1 x.2.2.1) ++ r, ?_, by omega, by omega, ?_⟩
    · rw [wrE, if_neg hq, List.append_assoc (wrT _), List.append_assoc (wrT _)]
      exact tg_wrT _ _ h2 h3
    · rw [elP, if_neg (by omega), List.append_assoc, tk_app _ _ _ (isK_length h1).symm]
      simp only []
      rw [if_neg hq, va_wr p _ _ _ h7 h6 hp]
      simp only []
      obtain ⟨t, k, v, its⟩ := x
      have e1 : its = [] := h9 hq
      subst e1
      have e2 : ((t.toNat : Nat) : Int) = t := by simp only at h2; omega
      simp only [mkE, e2]
  | succ n ih =>
    intro d hd b x hx hs m hm r
    obtain ⟨h1, h2, h3, h4, h5, h6, h7, h8, h9, h10, h11, h12⟩ := errE_ok hx
    by_cases hq : x.2.1 = SQ
    · have hd2 := h11 hq
      have hv := h8 hq
      have hsets := errI_mem h12
      have hlen : o = false → ((x.2.2.2.map (wrI (wrS o p (n + 1)) o)).flatten).length < 4294967295 := fun ho => by
        have := hs ho
        rw [wrE, if_pos hq, wrQ] at this
        simp only [List.length_append] at this
        omega
      have hits : ∀ s ∈ x.2.2.2, Rt (itP (elP m (n + 1))) (wrI (wrS o p (n + 1)) o) s := by
        intro s hs' r1
        have hs1 := hsets s hs'
        rw [errS] at hs1
        by_cases h24 : 24 < s.length
        · rw [if_pos h24] at hs1; cases hs1
        rw [if_neg h24] at hs1
        have hbd : o = false → (wrS o p (n + 1) s).length < 4294967295 := fun ho => by
          have h1 := hlen ho
          have h2 := mem_flat_le (e := wrI (wrS o p (n + 1)) o) hs'
          rw [wrI] at h2
          simp only [List.length_append] at h2
          omega
        have hel : ∀ y ∈ s, Rt (elP m (n + 1)) (wrE (wrS o p n) o p) y := by
          intro y hy
          obtain ⟨b', hb'⟩ := errL_mem hs1 y hy
          obtain ⟨m, rfl⟩ : ∃ k, m = k + 1 := ⟨m - 1, by omega⟩
          refine ih (d + 1) (by omega) b' y hb' (fun ho => ?_) m (by omega)
          have h1 := hbd ho
          have h2 := mem_flat_le (e := wrE (wrS o p n) o p) hy
          rw [wrS_succ] at h1
          omega
        have key := lg_wr (f := elP m (n + 1)) (e := wrE (wrS o p n) o p) o 4294893581 (Or.inl rfl) [254, 255, 13, 224, 0, 0, 0, 0] r1 (tg_itemEnd r1) (by simp) s hel (fun ho => by have := hbd ho; rwa [wrS_succ] at this)
        refine ⟨4294893568, sizeB o (wrS o p (n + 1) s) ++ wrS o p (n + 1) s ++ (if o then [254, 255, 13, 224, 0, 0, 0, 0] else []) ++ r1, ?_, by omega, by omega, ?_⟩
        · rw [wrI, List.append_assoc, List.append_assoc, List.append_assoc, tg_item]
          simp only [List.append_assoc]
        · rw [itP, if_pos rfl, wrS_succ]
          exact key
      have key := lg_wr (f := itP (elP m (n + 1))) (e := wrI (wrS o p (n + 1)) o) o 4294893789 (Or.inr rfl) [254, 255, 221, 224, 0, 0, 0, 0] r (tg_itemsEnd r) (by simp) x.2.2.2 hits hlen
      refine ⟨x.1.toNat, x.2.1 ++ wrQ o (x.2.2.2.map (wrI (wrS o p (n + 1)) o)).flatten ++ r, ?_, by omega, by omega, ?_⟩
      · rw [wrE, if_pos hq, List.append_assoc (wrT _), List.append_assoc (wrT _)]
        exact tg_wrT _ _ h2 h3
      · rw [elP, if_neg (by omega), List.append_assoc, tk_app _ _ _ (isK_length h1).symm]
        simp only []
        rw [if_pos hq, wrQ]
        simp only [List.append_assoc]
        rw [ze_zero 2 [0, 0] _ rfl rfl]
        simp only [List.append_assoc] at key ⊢
        have key' : lg 4294893789 (itP (elP m (n + 1 + 1 - 1))) _ = some (x.2.2.2, r) := key
        rw [key']
        simp only []
        obtain ⟨t, k, v, its⟩ := x
        simp only at hv h2 hq
        have e2 : ((t.toNat : Nat) : Int) = t := by omega
        simp only [mkE, e2, hv]
    · refine ⟨x.1.toNat, x.2.1 ++ (lows 2 (wrV p x.2.1 x.2.2.1).length ++ wrV p x.2.1 x.2.2.1) ++ r, ?_, by omega, by omega, ?_⟩
      · rw [wrE, if_neg hq, List.append_assoc (wrT _), List.append_assoc (wrT _)]
        exact tg_wrT _ _ h2 h3
      · rw [elP, if_neg (by omega), List.append_assoc, tk_app _ _ _ (isK_length h1).symm]
        simp only []
        rw [if_neg hq, va_wr p _ _ _ h7 h6 hp]
        simp only []
        obtain ⟨t, k, v, its⟩ := x
        have e1 : its = [] := h9 hq
        subst e1
        have e2 : ((t.toNat : Nat) : Int) = t := by simp only at h2; omega
        simp only [mkE, e2]
/-- A DATA SET THAT IS RIGHT COMES BACK, and what stands behind it is read on. -/
theorem toEnd_wrS (o : Bool) (p : Nat) (hp : p ≤ 30000) (n d : Nat) (hd : 2 ≤ d + n) (l : List (El (n + 1))) (h : errS (n + 1) d l = 0) (hs : o = false → (wrS o p (n + 1) l).length < 4294967295) (m : Nat) (hm : n ≤ m) (r : By) (K : Nat) (hK : l.length ≤ K) :
    toEnd (elP (m + 1) (n + 1)) K (wrS o p (n + 1) l ++ r) = (toEnd (elP (m + 1) (n + 1)) (K - l.length) r).map (l ++ ·) ∧ l.length ≤ (wrS o p (n + 1) l).length := by
  rw [errS] at h
  by_cases h24 : 24 < l.length
  · rw [if_pos h24] at h; cases h
  rw [if_neg h24] at h
  have hel : ∀ y ∈ l, Rt (elP (m + 1) (n + 1)) (wrE (wrS o p n) o p) y := by
    intro y hy
    obtain ⟨b', hb'⟩ := errL_mem h y hy
    refine rt_el o p hp n d hd b' y hb' (fun ho => ?_) m hm
    have h1 := hs ho
    have h2 := mem_flat_le (e := wrE (wrS o p n) o p) hy
    rw [wrS_succ] at h1
    omega
  rw [wrS_succ]
  exact ⟨toEnd_app r l hel K hK, flat_le l hel⟩
end Go.Proofs.YtaokifbpakbgdaaGreatDoor

/- Package dataset's writer: a data set that is right, as bytes. -/
namespace Go.Proofs.YtaokifbpakbgdaaGreatDoor
open Go.RowKit

/-- Bytes as cells. -/
def cs8 (l : By) : List Value := l.map fun c => Value.int .u8 c.toNat
theorem cs8_append (a b : By) : cs8 (a ++ b) = cs8 a ++ cs8 b := List.map_append
theorem cs8_length (a : By) : (cs8 a).length = a.length := List.length_map _
theorem cs8_one (l : By) : ∀ u ∈ cs8 l, u.oneCell' = true := by
  intro u hu
  obtain ⟨c, _, rfl⟩ := List.mem_map.1 hu
  rfl
/-- The slice v is a row of one's own, and holds these bytes. -/
def B8 (w : World) (v : Value) (l : By) : Prop := w.ownsRow 0 5 1 v l.length (cs8 l)
theorem B8.nil (w : World) : B8 w (.slice none 0 0) [] := World.ownsRow_nil _ _ _ _
theorem B8.keep {w w' : World} {v : Value} {l : By} (h : B8 w v l) (k : ∀ j ∈ v.ownBlock.toList, w'.heap[j]? = w.heap[j]?) : B8 w' v l := ownsRow_keep h k
theorem B8.below {w w' : World} {v : Value} {l : By} (h : B8 w v l) (k : Below w.heap.size w w') : B8 w' v l := h.keep (fun j hj => k.block j (ownsRow_lt h j hj))
/-- From v to v': only its own row is written, and it stays there or is a new one. -/
def Gr (w : World) (v : Value) (w' : World) (v' : Value) : Prop := w.grownBy w' v.ownBlock ∧ Moved w v v'
theorem Gr.trans {w w1 w2 : World} {v v1 v2 : Value} (h : Gr w v w1 v1) (k : Gr w1 v1 w2 v2) : Gr w v w2 v2 := by
  obtain ⟨g1, m1⟩ := h
  obtain ⟨g2, m2⟩ := k
  refine ⟨⟨g2.os.trans g1.os, g2.tape.trans g1.tape, g2.output.trans g1.output, Nat.le_trans g1.size g2.size, fun j hj hne => ?_⟩, ?_⟩
  · rw [g2.block j (Nat.lt_of_lt_of_le hj g1.size) (fun e => ?_)]
    · exact g1.block j hj hne
    · rcases m1 with m | m
      · exact hne (e.trans m)
      · have := m j (by rw [← e]; simp)
        omega
  · rcases m2 with m | m
    · rcases m1 with m' | m'
      · exact Or.inl (m.trans m')
      · exact Or.inr (by rw [m]; exact m')
    · exact Or.inr (fun g hg => Nat.le_trans g1.size (m g hg))
theorem Gr.below {w w' : World} {v' : Value} (h : Gr w (.slice none 0 0) w' v') : Below w.heap.size w w' := ⟨h.1.os, h.1.tape, h.1.output, h.1.size, fun j hj => h.1.block j hj (by simp [Value.ownBlock])⟩
theorem Gr.of_below {w w' : World} (v : Value) (h : Below w.heap.size w w') : Gr w v w' v := ⟨⟨h.os, h.tape, h.output, h.size, fun j hj _ => h.block j hj⟩, Or.inl rfl⟩
/-- How a writer ends: it returns these bytes. -/
def W8 (w : World) (v : Value) (l : By) (e : Ending) (w' : World) : Prop := ∃ v', e = .returned v' ∧ B8 w' v' l ∧ Gr w v w' v'
/-- 'append(b, s...)', s a string. -/
theorem wpList_append_str {P : Program} (w : World) {ops : Array Oper} {rest : List Oper} {o : Oper} {a : Act} {Q : Exit → Act → World → Prop} (hgd : o.guard = none) (sl x : Operand) (t u : TypeId)
    (ho : o.op = .call { callee := .builtin .append, args := #[sl, x], argTypes := #[t, u] })
    (e : TypeId) (i : TypeInfo) (ht : P.underlying t = some (.slice e)) (hu : P.underlying u = some .string) (hi : P.info? e = some i) (hz : i.zero = some (.int .u8 0)) (hsize : i.size = 1) (hby : i.bytes = 1)
    (v : Value) (n : Nat) (xs : List Value) (hs : a.eval sl = v) (hown : w.ownsRow 0 e 1 v n xs) (s : ByteArray) (hx : a.eval x = .string s) (h63 : n + s.size ≤ maxLen) (hbytes : n + s.size ≤ 140737488355328)
    (h : ∀ v' w', w'.ownsRow 0 e 1 v' (n + s.size) (xs ++ Lib.strCells s) → w.grownBy w' v.ownBlock → Moved w v v' → wpList P ops Q rest (a.put o.dst v') w') : wpList P ops Q (o :: rest) a w := by
  refine wpList_plain hgd fun K hK => ?_
  have key : ∃ v' w', (Builtin.append_ #[t, u] o.type #[v, .string s]).run P w = .ok v' w' ∧ w'.ownsRow 0 e 1 v' (n + s.size) (xs ++ Lib.strCells s) ∧ w.grownBy w' v.ownBlock ∧ Moved w v v' := by
    have weak : ∀ {w' : World} {v' : Value} {k : Nat} {ys : List Value}, w'.ownsRow w.heap.size e 1 v' k ys → w'.ownsRow 0 e 1 v' k ys ∧ ∀ g ∈ v'.ownBlock.toList, w.heap.size ≤ g := by
      rintro w' v' k ys ⟨q1, q2⟩
      rcases q2 with ⟨rfl, q2⟩ | ⟨g, cap, cur, rfl, q2, q3⟩
      · exact ⟨⟨q1, Or.inl ⟨rfl, q2⟩⟩, fun g hg => by cases hg⟩
      · exact ⟨⟨q1, Or.inr ⟨g, cap, cur, rfl, Nat.zero_le _, q3⟩⟩, fun j hj => by simp [Value.ownBlock] at hj; omega⟩
    obtain ⟨k1, k2⟩ := id hown
    rcases k2 with ⟨rfl, rfl⟩ | ⟨g, cap, cur, rfl, _, hg, hnc, hcm, hcs, htake⟩
    · have : xs = [] := List.eq_nil_of_length_eq_zero (by simpa using k1)
      subst this
      obtain ⟨v', w', r1, r2, r3, _⟩ := Lib.run_append_own_string (P := P) w w.heap.size t u o.type e i ht hu hi hz hsize hby _ 0 [] (World.ownsRow_nil _ _ _ _) s h63 hbytes (Nat.le_refl _)
      exact ⟨v', w', r1, (weak r2).1, r3, Or.inr (weak r2).2⟩
    · obtain ⟨v', w', r1, r2, r3, _⟩ := Lib.run_append_own_string (P := P) w 0 t u o.type e i ht hu hi hz hsize hby _ n xs hown s h63 hbytes (Nat.zero_le _)
      refine ⟨v', w', r1, r2, r3, ?_⟩
      have hxl : xs.length = n := by simpa using k1
      have hsmall : n + s.size ≤ 9223372036854775807 := by simp only [maxLen] at h63; omega
      by_cases hroom : n + s.size ≤ cap
      · have hr := Lib.run_append_room_string (P := P) w t u o.type e i ht hu hi hsize g n cap cur hg s hroom (by omega)
        rw [r1] at hr
        simp only [Result.ok.injEq] at hr
        rw [hr.1]
        exact Or.inl rfl
      · have holds : ∀ j u, xs[j]? = some u → w.cell? ((⟨g, 0, none⟩ : Addr).add j) = some u := hown.cells (g := g) rfl
        have hr := Lib.run_append_grow_string (P := P) w t u o.type e i (.int .u8 0) ht hu hi hz ⟨g, 0, none⟩ n cap xs (by rw [hsize]; simpa using hxl) holds s (by omega) (by omega) (by rw [hby]; exact growslice_fits (by omega) (by omega))
        rw [r1] at hr
        simp only [Result.ok.injEq] at hr
        rw [hr.1]
        exact Or.inr (fun g hg => by simp [Value.ownBlock] at hg; omega)
  obtain ⟨v', w', hr, h2, h3, h4⟩ := key
  unfold Oper.wp execOp
  simp only [ho, resolve, invoke, builtin, Sem.run_bind, Sem.run_pure, Result.andThen_ok, List.map_toArray, List.map_cons, List.map_nil, hs, hx, hr]
  exact hK _ _ (h v' w' h2 h3 h4)
theorem info_8 : (Tryz.prog.info? 5).map (fun i => (i.zero, i.size, i.bytes)) = some (some (.int .u8 0), 1, 1) := by kernel_rfl
theorem ofNat_toNat (n : Nat) : ((UInt8.ofNat (n % 256)).toNat : Int) = ((n : Nat) : Int) % 256 := by
  rw [UInt8.toNat_ofNat']; omega
theorem two_cells (w : World) (T : TypeId) (n : Nat) : ∀ j u, (cs8 (lows 2 n))[j]? = some u → (w.alloc (.cells #[.int .u8 ((n : Int) % 256), .int .u8 ((n : Int) / 256 % 256)] T)).cell? ((⟨w.heap.size, 0, none⟩ : Addr).add j) = some u := by
  have e : cs8 (lows 2 n) = [.int .u8 ((n : Int) % 256), .int .u8 ((n : Int) / 256 % 256)] := by
    simp only [cs8, lows, List.map_cons, List.map_nil, ofNat_toNat]
    rfl
  rw [e]
  intro j u hj
  rw [Addr.add_lit]
  match j, hj with
  | 0, hj | 1, hj => simp at hj; subst hj; simp
  | j + 2, hj => simp at hj
theorem W8.mk {w w0 w' : World} {v v' : Value} {b c : By} (h0 : Below w.heap.size w w0) (hown : w'.ownsRow 0 5 1 v' (b.length + c.length) (cs8 b ++ cs8 c)) (hg : w0.grownBy w' v.ownBlock) (hm : Moved w0 v v') : W8 w v (b ++ c) (.returned v') w' :=
  ⟨v', rfl, by rw [B8, List.length_append, cs8_append]; exact hown, (Gr.of_below v h0).trans ⟨hg, hm⟩⟩
theorem W8.then {w w1 : World} {v v1 : Value} {l : By} {e : Ending} {w2 : World} (g : Gr w v w1 v1) (h : W8 w1 v1 l e w2) : W8 w v l e w2 := by
  obtain ⟨v', he, h1, h2⟩ := h
  exact ⟨v', he, h1, g.trans h2⟩
theorem appendTwo_any (w : World) (v : Value) (b : By) (n : Nat) (hb : B8 w v b) (hl : b.length ≤ 1099511627776) (_hn : n ≤ 1099511627776) :
    Calls Tryz.prog 119 #[v, .int .i64 n] w (W8 w v (b ++ lows 2 n)) := by
  obtain ⟨i0, hi, hz0, hz1, hz2⟩ := info_parts info_8
  have HI := hid hi
  have hb' := hid hb
  clear hi hb
  go_enter Tryz.func119, Tryz.ntmps119
  go_wp2_with (at_builtin; refine wpList_append_sep _ rfl _ _ 49 rfl 5 i0 (.int .u8 0) 1 1 Tryz.underlying49 HI.out hz0 hz1 hz2 rfl (by decide) _ _ _ rfl (hb'.out.alloc _) ⟨w.heap.size, 0, none⟩ 2 2 (cs8 (lows 2 n)) rfl rfl (two_cells _ _ _) (cs8_one _) (by unfold maxLen; omega) (by omega) ?_)
  intro v' w' hown hg hm
  have R := hid (W8.mk (c := lows 2 n) (Below.alloc (Below.refl _ _) (Nat.le_refl _) _) hown hg hm)
  clear hown hg hm
  go_wp2
  go_ret
  exact R.out
theorem lows2_mod (n : Nat) : lows 2 (n % 65536) = lows 2 n := by
  simp only [lows]
  rw [show n % 65536 % 256 = n % 256 by omega, show n % 65536 / 256 % 256 = n / 256 % 256 by omega]
theorem lows4 (n : Nat) : lows 2 n ++ lows 2 (n / 65536) = lows 4 n := by
  simp only [lows, List.cons_append, List.nil_append]
  rw [show n / 65536 % 256 = n / 256 / 256 % 256 by omega, show n / 65536 / 256 % 256 = n / 256 / 256 / 256 % 256 by omega]
theorem appendTag_any (w : World) (v : Value) (b : By) (t : Nat) (hb : B8 w v b) (hl : b.length ≤ 549755813888) (ht : t < 4294967296) :
    Calls Tryz.prog 118 #[v, .int .i64 t] w (W8 w v (b ++ wrT t)) := by
  have e : wrT (t : Int) = lows 2 (t / 65536) ++ lows 2 t := by
    unfold wrT
    rw [show ((t : Int) / 65536).toNat = t / 65536 by omega, show ((t : Int) % 65536).toNat = t % 65536 by omega, lows2_mod]
  rw [e, ← List.append_assoc]
  go_enter Tryz.func118, Tryz.ntmps118
  go_wp2_with fail
  go_at_call 119
  refine (appendTwo_any w v b (t / 65536) hb (by omega) (by omega)).mono ?_
  rintro e w1 ⟨v1, rfl, h1, u1⟩
  go_wp2_with fail
  go_at_call 119
  refine (appendTwo_any w1 v1 _ t h1 (by simp [lows_length]; omega) (by omega)).mono ?_
  rintro e w2 ⟨v2, rfl, h2, u2⟩
  go_wp2
  go_ret
  exact ⟨v2, rfl, h2, u1.trans u2⟩
theorem B8.cells {w : World} {g n cap : Nat} {l : By} (h : B8 w (.slice (some ⟨g, 0, none⟩) n cap) l) : n = l.length ∧ ∀ j u, (cs8 l)[j]? = some u → w.cell? ((⟨g, 0, none⟩ : Addr).add j) = some u := by
  have hn : n = l.length := by
    rcases h.2 with ⟨e, _⟩ | ⟨g', cap', cur, e, _⟩
    · cases e
    · simp only [Value.slice.injEq] at e; exact e.2.1
  subst hn
  refine ⟨rfl, fun j u hj => ?_⟩
  have hlt := (List.getElem?_eq_some_iff.1 hj).1
  rw [cs8_length] at hlt
  rw [Addr.add_lit, Nat.zero_add, World.ownsRow.cellAt h _ (by omega)]
  exact hj
theorem B8.shape {w : World} {v : Value} {l : By} (h : B8 w v l) : (v = .slice none 0 0 ∧ l = []) ∨ ∃ g cap, v = .slice (some ⟨g, 0, none⟩) l.length cap := by
  rcases h.2 with ⟨e, e2⟩ | ⟨g', cap', cur, e, _⟩
  · exact Or.inl ⟨e, List.eq_nil_of_length_eq_zero e2⟩
  · exact Or.inr ⟨g', cap', e⟩
theorem appendLong_any (w : World) (v v2 : Value) (b c : By) (hb : B8 w v b) (hc : B8 w v2 c) (hsep : ∀ k, v2.ownBlock = some k → v.ownBlock ≠ some k) (hl : b.length ≤ 549755813888) (hl2 : c.length ≤ 274877906944) :
    Calls Tryz.prog 120 #[v, v2] w (W8 w v (b ++ (lows 4 c.length ++ c))) := by
  obtain ⟨i0, hi, hz0, hz1, hz2⟩ := info_parts info_8
  have HI := hid hi
  have HC := hid hc
  clear hi
  obtain ⟨ad, cap, hv2⟩ : ∃ ad cap, v2 = .slice ad c.length cap := by
    rcases hc.shape with ⟨e, e2⟩ | ⟨g, cap, e⟩
    · exact ⟨none, 0, by rw [e, e2]; rfl⟩
    · exact ⟨_, _, e⟩
  have hsep' := hid hsep
  clear hc hsep
  subst hv2
  go_enter Tryz.func120, Tryz.ntmps120
  go_wp2_with fail
  go_at_call 119
  refine (appendTwo_any w v b c.length hb (by omega) (by omega)).mono ?_
  rintro e w1 ⟨v1, rfl, h1, u1⟩
  go_wp2_with fail
  go_at_call 119
  refine (appendTwo_any w1 v1 _ (c.length / 65536) h1 (by simp [lows_length]; omega) (by omega)).mono ?_
  rintro e w2 ⟨v2, rfl, h2, u2⟩
  have u12 := hid (u1.trans u2)
  have hc2 : Hid (B8 w2 (.slice ad c.length cap) c) := HC.out.keep (fun j hj => by
    have hj' : (Value.slice ad c.length cap).ownBlock = some j := by simpa using hj
    exact u12.out.1.block j (ownsRow_lt HC.out j hj) (fun e => hsep'.out j hj' e.symm))
  clear u1 u2 h1
  have h2' := hid h2
  clear h2
  have efin := hid (show b ++ lows 2 c.length ++ lows 2 (c.length / 65536) = b ++ lows 4 c.length by rw [List.append_assoc, lows4])
  have elen := hid (show (b ++ lows 2 c.length ++ lows 2 (c.length / 65536)).length = b.length + 4 by simp [lows_length])
  generalize b ++ lows 2 c.length ++ lows 2 (c.length / 65536) = b2 at h2' efin elen
  rcases hc2.out.shape with ⟨e, e2⟩ | ⟨g, cap', e⟩
  · simp only [Value.slice.injEq] at e
    obtain ⟨rfl, _, rfl⟩ := e
    subst e2
    go_wp2_with (at_builtin; refine wpList_append_own_none rfl _ _ 49 rfl 0 5 i0 1 Tryz.underlying49 HI.out _ _ _ rfl h2'.out rfl ?_)
    go_ret
    refine ⟨v2, rfl, ?_, u12.out⟩
    have := h2'.out
    rw [efin.out] at this
    rw [List.append_nil]
    exact this
  · simp only [Value.slice.injEq] at e
    obtain ⟨rfl, _, rfl⟩ := e
    go_wp2_with (at_builtin; refine wpList_append_sep _ rfl _ _ 49 rfl 5 i0 (.int .u8 0) 1 1 Tryz.underlying49 HI.out hz0 hz1 hz2 rfl (by decide) _ _ _ rfl h2'.out ⟨g, 0, none⟩ c.length cap (cs8 c) rfl (by rw [cs8_length, Nat.mul_one]) hc2.out.cells.2 (cs8_one _) (by unfold maxLen; rw [elen.out]; omega) (by rw [elen.out]; omega) ?_)
    intro v' w' hown hg hm
    have R := hid (W8.then u12.out (W8.mk (c := c) (Below.refl _ _) hown hg hm))
    clear hown hg hm
    go_wp2
    go_ret
    have := R.out
    rw [efin.out, List.append_assoc] at this
    exact this
theorem bs_append (a b : By) : bs a ++ bs b = bs (a ++ b) := by
  apply ByteArray.ext
  rw [ByteArray.data_append]
  apply Array.ext'
  simp [bs]
theorem strCells_bs (l : By) : Lib.strCells (bs l) = cs8 l := rfl
theorem appendValue_any (w : World) (v : Value) (b k u : By) (hb : B8 w v b) (hl : b.length ≤ 549755813888) (hu : u.length ≤ 64) :
    Calls Tryz.prog 122 #[v, .string (bs k), .string (bs u)] w (W8 w v (b ++ (lows 2 (wrV 0 k u).length ++ wrV 0 k u))) := by
  obtain ⟨i0, hi, hz0, hz1, hz2⟩ := info_parts info_8
  have HI := hid hi
  clear hi
  have hz := bs_size u
  by_cases hodd : u.length % 2 = 1
  · have d1 : ((u.length : Int) % 2 != 0) = true := by simp; omega
    have d2 : ((u.length : Int) % 2 == 0) = false := by simp; omega
    have e := hid (show wrV 0 k u = u ++ [padB k] by unfold wrV; rw [if_pos hodd]; simp)
    clear hodd
    have hz1' := bs_size [padB k]
    have happ := bs_append u [padB k]
    have hz3 : (bs (u ++ [padB k])).size = u.length + 1 := by rw [bs_size, List.length_append]; rfl
    go_enter Tryz.func122, Tryz.ntmps122
    go_wp2_with fail
    go_at_call 191
    refine (pad_any w k).mono ?_
    rintro e w1 ⟨rfl, rfl⟩
    go_wp2_with fail
    go_at_call 119
    refine (appendTwo_any w1 v b (u.length + 1) hb (by omega) (by omega)).mono ?_
    rintro e w2 ⟨v2, rfl, h2, u2⟩
    have h2' := hid h2
    have elen := hid (show (b ++ lows 2 (u.length + 1)).length = b.length + 2 by simp [lows_length])
    have efin := hid (show b ++ (lows 2 (wrV 0 k u).length ++ wrV 0 k u) = b ++ lows 2 (u.length + 1) ++ (u ++ [padB k]) by rw [‹Hid (wrV 0 k u = u ++ [padB k])›.out, List.length_append, List.append_assoc]; rfl)
    clear h2
    generalize b ++ lows 2 (u.length + 1) = b2 at h2' efin elen
    go_wp2_with (at_builtin; refine wpList_append_str _ rfl _ _ 49 9 rfl 5 i0 Tryz.underlying49 Tryz.underlying9 HI.out hz0 hz1 hz2 _ _ _ rfl h2'.out (bs (u ++ [padB k])) rfl (by unfold maxLen; rw [elen.out, hz3]; omega) (by rw [elen.out, hz3]; omega) ?_)
    intro v' w' hown hg hm
    have R := hid (W8.then u2 (W8.mk (b := b2) (c := u ++ [padB k]) (Below.refl _ _) (by rw [strCells_bs] at hown; rw [List.length_append]; exact hown) hg hm))
    clear hown hg hm
    go_wp2
    go_ret
    rw [efin.out]
    exact R.out
  · have d1 : ((u.length : Int) % 2 != 0) = false := by simp; omega
    have d2 : ((u.length : Int) % 2 == 0) = true := by simp; omega
    have e := hid (show wrV 0 k u = u by unfold wrV; rw [if_neg hodd]; simp)
    clear hodd
    go_enter Tryz.func122, Tryz.ntmps122
    go_wp2_with fail
    go_at_call 119
    refine (appendTwo_any w v b u.length hb (by omega) (by omega)).mono ?_
    rintro e w2 ⟨v2, rfl, h2, u2⟩
    have h2' := hid h2
    have elen := hid (show (b ++ lows 2 u.length).length = b.length + 2 by simp [lows_length])
    have efin := hid (show b ++ (lows 2 (wrV 0 k u).length ++ wrV 0 k u) = b ++ lows 2 u.length ++ u by rw [‹Hid (wrV 0 k u = u)›.out, List.append_assoc])
    clear h2
    generalize b ++ lows 2 u.length = b2 at h2' efin elen
    go_wp2_with (at_builtin; refine wpList_append_str _ rfl _ _ 49 9 rfl 5 i0 Tryz.underlying49 Tryz.underlying9 HI.out hz0 hz1 hz2 _ _ _ rfl h2'.out (bs u) rfl (by unfold maxLen; rw [elen.out, hz]; omega) (by rw [elen.out, hz]; omega) ?_)
    intro v' w' hown hg hm
    have R := hid (W8.then u2 (W8.mk (b := b2) (c := u) (Below.refl _ _) (by rw [strCells_bs] at hown; exact hown) hg hm))
    clear hown hg hm
    go_wp2
    go_ret
    rw [efin.out]
    exact R.out
end Go.Proofs.YtaokifbpakbgdaaGreatDoor
