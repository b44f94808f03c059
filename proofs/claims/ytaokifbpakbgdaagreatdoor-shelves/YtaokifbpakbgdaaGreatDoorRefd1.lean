/-
  Package folioref, the document's own answer on data sets: what is wrong with one.
-/
import Derived.Test.YtaokifbpakbgdaaGreatDoorWr2
namespace Go.Proofs.YtaokifbpakbgdaaGreatDoor
open Go.RowKit

theorem ris_any (w : World) (k : By) : Calls Tryz.prog 42 #[.string (bs k)] w fun e w' => e = .returned (.bool (isK k)) ∧ w' = w := by
  have hk := bs_toList k
  go_enter Tryz.func42, Tryz.ntmps42
  go_wp2
  all_goals go_ret
  all_goals refine ⟨ret_bool ?_, rfl⟩
  all_goals simp_all [isK, kinds]
theorem rpad_any (w : World) (k : By) : Calls Tryz.prog 149 #[.string (bs k)] w fun e w' => e = .returned (.int .u8 (padB k).toNat) ∧ w' = w := by
  have hk := bs_toList k
  by_cases hu : (k == [85, 73]) = true
  · go_enter Tryz.func149, Tryz.ntmps149
    go_wp2
    go_ret
    have : padB k = 0 := by unfold padB; exact if_pos (by simpa using hu)
    rw [this]
    exact ⟨rfl, rfl⟩
  · go_enter Tryz.func149, Tryz.ntmps149
    go_wp2
    go_ret
    have : padB k = 32 := by unfold padB; exact if_neg (by simpa using hu)
    rw [this]
    exact ⟨rfl, rfl⟩
theorem last_test (u kd : By) (h : 0 < u.length) : ((((bs u)[u.length - 1]'(by rw [bs_size]; omega)).toNat : Int) == ((padB kd).toNat : Int)) = decide (u.getLast? = some (padB kd)) := by
  have e : u.getLast? = some (u[u.length - 1]) := by rw [List.getLast?_eq_getElem?, List.getElem?_eq_getElem (by omega)]
  have e2 : (bs u)[u.length - 1]'(by rw [bs_size]; omega) = u[u.length - 1] := rfl
  rw [e, e2, Bool.eq_iff_iff, beq_iff_eq, decide_eq_true_eq, Option.some.injEq]
  exact ⟨fun h => UInt8.toNat_inj.1 (by omega), fun h => by rw [h]⟩
def RE (n : Nat) : Prop := ∀ (F : Nat → Prop) (w : World) (v : Value) (l : List (El n)) (d : Nat), d ≤ 2 → 3 ≤ d + n → Rd w F n v l →
  Calls Tryz.prog 92 #[v, .int .i64 d] w fun e w' => e = .returned (.int .i64 (errS n d l)) ∧ Below w.heap.size w w'
set_option maxHeartbeats 8000000 in
set_option maxRecDepth 20000 in
theorem rwrong_succ (n : Nat) (H : RE n) : RE (n + 1) := by
  intro F w v l d hd hn h
  obtain ⟨ad, cap, rfl⟩ := h.slice
  by_cases hlen : 24 < l.length
  · have d1 : decide ((24 : Int) < (l.length : Int)) = true := by simp; omega
    go_enter Tryz.func92, Tryz.ntmps92
    go_wp2_with fail
    go_ret
    exact ⟨ret_int (by rw [errS, if_pos hlen]), Below.refl _ _⟩
  have d1 : decide ((24 : Int) < (l.length : Int)) = false := by simp; omega
  have E1 := hid (show errS (n + 1) d l = errL (errE (errI (errS n (d + 1))) d) (fun x => x.1) (-1) l by rw [errS, if_neg hlen])
  go_enter Tryz.func92, Tryz.ntmps92
  go_wp2_with fail
  go_loopw [5] (fun i wr => ∃ (k : Nat) (b : Int), k ≤ l.length ∧ i = .int .i64 k ∧ Hid (Below w.heap.size w wr) ∧ Hid ((k = 0 ∧ b = -1) ∨ (0 < k ∧ 0 ≤ b ∧ ∃ y, l[k - 1]? = some y ∧ y.1 = b)) ∧ Hid (errS (n + 1) d l = errL (errE (errI (errS n (d + 1))) d) (fun x => x.1) b (l.drop k))) (fun i _ => l.length - (intOf i).toNat)
  case atStart => exact ⟨0, -1, Nat.zero_le _, rfl, Below.refl _ _, Or.inl ⟨rfl, rfl⟩, E1.out⟩
  case round =>
    obtain ⟨k, b, hk, rfl, hup, hbk, hspec⟩ := hrel
    by_cases hkl : k < l.length
    · obtain ⟨a, ad2, cap2, rfl, hFa, c0, c1, c2, c3, hrd⟩ := (h.up hup.out).at (List.getElem?_eq_getElem hkl)
      have hdr : l.drop k = l[k] :: l.drop (k + 1) := List.drop_eq_getElem_cons hkl
      have hxk := hid (List.getElem?_eq_getElem hkl)
      generalize l[k] = x at hrd hdr c0 c1 c2 c3 hxk
      have hstep := hid (show errL (errE (errI (errS n (d + 1))) d) (fun x => x.1) b (l.drop k) = if errE (errI (errS n (d + 1))) d b x = 0 then errL (errE (errI (errS n (d + 1))) d) (fun x => x.1) x.1 (l.drop (k + 1)) else errE (errI (errS n (d + 1))) d b x by rw [hdr]; rfl)
      clear hdr
      obtain ⟨t, kd, u, its⟩ := x
      simp only at c0 c1 c2 c3 hrd
      have hrd' := hid hrd
      clear hrd
      have hus := bs_size u
      have hkdl := bs_toList kd
      have hbad : Hid (∀ e, errE (errI (errS n (d + 1))) d b (t, kd, u, its) = e → e ≠ 0 → errS (n + 1) d l = e) := fun e h1 h2 => by rw [hspec.out, hstep.out, h1, if_neg h2]
      have hupA := hid (Below.alloc hup.out hup.out.size (.cells #[.int .i64 t, .string (bs kd), .string (bs u), .slice ad2 its.length cap2] 73))
      go_wp2_with fail
      go_at_call 42
      refine (ris_any _ kd).mono ?_
      rintro e w1 ⟨rfl, rfl⟩
      by_cases h1 : isK kd = false
      · rw [h1]
        go_wp2
        go_ret
        exact ⟨ret_int (hbad.out 2 (by unfold errE; rw [if_pos h1]) (by decide)).symm, hupA.out⟩
      have h1' : isK kd = true := by simpa using h1
      rw [h1']
      clear h1'
      by_cases h2 : t < 0 ∨ 4294967295 < t ∨ t / 65536 = 65534 ∨ t ≤ b
      · have h3 := hid (hbad.out 3 (by unfold errE; rw [if_neg h1, if_pos h2]) (by decide))
        by_cases ha : t < 0
        · have d2 : decide (t < 0) = true := by simpa using ha
          go_wp2_with fail
          go_quiet (fail)
          go_wp2
          go_ret
          exact ⟨ret_int h3.out.symm, below_drewN hupA.out _⟩
        · by_cases hb : 4294967295 < t
          · have d2 : decide (t < 0) = false := by simpa using ha
            have d3 : decide (4294967295 < t) = true := by simpa using hb
            go_wp2_with fail
            go_quiet (fail)
            go_wp2
            go_ret
            exact ⟨ret_int h3.out.symm, below_drewN hupA.out _⟩
          · obtain ⟨t, rfl⟩ := Int.eq_ofNat_of_zero_le (by omega : 0 ≤ t)
            have d2 : decide ((t : Int) < 0) = false := by simp
            have d3 : decide (4294967295 < (t : Int)) = false := by simp; omega
            have hw1 : IntKind.i64.wrap ((t : Int) / 65536) = ((t / 65536 : Nat) : Int) := by rw [IntKind.wrap_i64]; omega
            by_cases hc : t / 65536 = 65534
            · have d4 : (((t / 65536 : Nat) : Int) == 65534) = true := by rw [hc]; rfl
              go_wp2_with fail
              go_quiet (fail)
              go_wp2
              go_ret
              exact ⟨ret_int h3.out.symm, below_drewN hupA.out _⟩
            · have d4 : (((t / 65536 : Nat) : Int) == 65534) = false := by simp; omega
              have d4a : (((t : Int) / 65536) == 65534) = false := by simp; omega
              have d4b : ((t / 65536) == 65534) = false := by simp; omega
              obtain ⟨hk0, hb0, y, hy, hyb⟩ : 0 < k ∧ 0 ≤ b ∧ ∃ y, l[k - 1]? = some y ∧ y.1 = b := by
                rcases hbk.out with ⟨_, e⟩ | e
                · omega
                · exact e
              obtain ⟨a', _, _, ea, _, g0, _⟩ := (h.up hup.out).at hy
              obtain rfl := Option.some.inj ea
              rw [hyb] at g0
              have d5 : decide ((0 : Int) < (k : Int)) = true := by simp; omega
              have d6 : decide ((t : Int) ≤ b) = true := by simp; omega
              have hw2 : IntKind.i64.wrap ((k : Int) - 1) = ((k - 1 : Nat) : Int) := by rw [IntKind.wrap_i64]; omega
              have hik : k - 1 < l.length := by omega
              have g0A := cell_keep ((Below.heap_alloc wr (.cells #[.int .i64 (t : Int), .string (bs kd), .string (bs u), .slice ad2 its.length cap2] 73) _ (World.block_lt_of_cell? _ _ g0))) g0
              go_wp2_with fail
              go_quiet (fail)
              go_wp2
              go_ret
              exact ⟨ret_int h3.out.symm, below_drewN hupA.out _⟩
      · obtain ⟨t, rfl⟩ := Int.eq_ofNat_of_zero_le (by omega : 0 ≤ t)
        have d2 : decide ((t : Int) < 0) = false := by simp
        have d3 : decide (4294967295 < (t : Int)) = false := by simp; omega
        have hw1 : IntKind.i64.wrap ((t : Int) / 65536) = ((t / 65536 : Nat) : Int) := by rw [IntKind.wrap_i64]; omega
        have d4 : (((t / 65536 : Nat) : Int) == 65534) = false := by simp; omega
        have d4a : (((t : Int) / 65536) == 65534) = false := by simp; omega
        have d4b : ((t / 65536) == 65534) = false := by simp; omega
        have E2 : Hid (errE (errI (errS n (d + 1))) d b ((t : Int), kd, u, its) = if 64 < u.length ∨ u.getLast? = some (padB kd) then 4 else if (kd = SQ ∧ u ≠ []) ∨ (kd ≠ SQ ∧ its ≠ []) then 1 else if 8 < its.length then 4 else if kd = SQ ∧ 2 ≤ d then 5 else errI (errS n (d + 1)) its) := by
          unfold Hid errE
          rw [if_neg h1, if_neg h2]
        have hw2 : 0 < k → IntKind.i64.wrap ((k : Int) - 1) = ((k - 1 : Nat) : Int) := fun _ => by rw [IntKind.wrap_i64]; omega
        by_cases hk0 : 0 < k
        case' pos =>
          obtain ⟨_, hb0, y, hy, hyb⟩ : 0 < k ∧ 0 ≤ b ∧ ∃ y, l[k - 1]? = some y ∧ y.1 = b := by
            rcases hbk.out with ⟨e, _⟩ | e
            · omega
            · exact e
          obtain ⟨a', _, _, ea, _, g0, _⟩ := (h.up hup.out).at hy
          obtain rfl := Option.some.inj ea
          rw [hyb] at g0
          have d5 : decide ((0 : Int) < (k : Int)) = true := by simp; omega
          have d6 : decide ((t : Int) ≤ b) = false := by simp; omega
          have hw2' := hw2 hk0
          have hik : k - 1 < l.length := by omega
          have g0A := cell_keep ((Below.heap_alloc wr (.cells #[.int .i64 (t : Int), .string (bs kd), .string (bs u), .slice ad2 its.length cap2] 73) _ (World.block_lt_of_cell? _ _ g0))) g0
          clear hw2 h2
          go_wp2_with fail
          go_quiet (fail)
          go_wp2_with fail
        case' neg =>
          have d5 : decide ((0 : Int) < (k : Int)) = false := by simp; omega
          clear hw2 h2
          go_wp2_with fail
          go_quiet (fail)
          go_wp2_with fail
        all_goals have hX := (Four.new wr (.int .i64 (t : Int)) (.string (bs kd)) (.string (bs u)) (.slice ad2 its.length cap2))
        all_goals have hXd : Four ((wr.alloc (.cells #[.int .i64 (t : Int), .string (bs kd), .string (bs u), .slice ad2 its.length cap2] 73)).drewN nq) wr.heap.size (.int .i64 (t : Int)) (.string (bs kd)) (.string (bs u)) (.slice ad2 its.length cap2) := hX
        all_goals have hupB := hid (below_drewN hupA.out nq)
        all_goals have hrdB := hid (hrd'.out.up (below_drewN (Below.alloc (Below.refl wr.heap.size wr) (Nat.le_refl _) (.cells #[.int .i64 (t : Int), .string (bs kd), .string (bs u), .slice ad2 its.length cap2] 73)) nq))
        all_goals generalize (wr.alloc (.cells #[.int .i64 (t : Int), .string (bs kd), .string (bs u), .slice ad2 its.length cap2] 73)).drewN nq = wB at hXd hupB hrdB ⊢
        all_goals clear hX hupA
        all_goals obtain ⟨⟨x0, x1, x2, x3⟩, _⟩ := hXd.cells
        all_goals
          by_cases h4 : 64 < u.length
          · have d7 : decide ((64 : Int) < (u.length : Int)) = true := by simp; omega
            have h5 := hid (hbad.out 4 (by rw [E2.out, if_pos (Or.inl h4)]) (by decide))
            go_quiet (fail)
            go_wp2
            go_ret
            exact ⟨ret_int h5.out.symm, below_drewN hupB.out _⟩
          have d7 : decide ((64 : Int) < (u.length : Int)) = false := by simp; omega
          by_cases hu0 : u = []
          case' pos =>
            have hul : u.length = 0 := by rw [hu0]; rfl
            have d8 : decide ((0 : Int) < (u.length : Int)) = false := by simp; omega
            have E3 := hid (E2.out.trans (if_neg (by rw [hu0]; simp)))
            go_quiet (fail)
          case' neg =>
            have hpos : 0 < u.length := List.length_pos_iff.2 hu0
            have d8 : decide ((0 : Int) < (u.length : Int)) = true := by simp; omega
            have hw3 : IntKind.i64.wrap ((u.length : Int) - 1) = ((u.length - 1 : Nat) : Int) := by rw [IntKind.wrap_i64]; omega
            have hlt3 : u.length - 1 < u.length := by omega
            have hlt4 : ((u.length - 1 : Nat) : Int) < (u.length : Int) := by omega
            have hge4 : (0 : Int) ≤ ((u.length - 1 : Nat) : Int) := by omega
            have htn : (((u.length - 1 : Nat) : Int)).toNat = u.length - 1 := by omega
            have htest := last_test u kd hpos
            by_cases h5 : u.getLast? = some (padB kd)
            · rw [decide_eq_true h5] at htest
              have h6 := hid (hbad.out 4 (by rw [E2.out, if_pos (Or.inr h5)]) (by decide))
              go_quiet (first
                | (go_at_call 149; exact Calls.quiet_of_same (rpad_any _ kd)))
              go_wp2
              go_ret
              exact ⟨ret_int h6.out.symm, below_drewN hupB.out _⟩
            rw [decide_eq_false h5] at htest
            have E3 := hid (E2.out.trans (if_neg (fun e => e.elim h4 h5)))
            clear h5
            go_quiet (first
              | (go_at_call 149; exact Calls.quiet_of_same (rpad_any _ kd)))
            clear htest hw3
          all_goals have hXe : Four (wB.drewN nq) wr.heap.size (.int .i64 (t : Int)) (.string (bs kd)) (.string (bs u)) (.slice ad2 its.length cap2) := hXd
          all_goals have hupC := hid (below_drewN hupB.out nq)
          all_goals have hrdC := hid (hrdB.out.up (below_drewN (Below.refl _ wB) nq))
          all_goals clear x0 x1 x2 x3 hXd
          all_goals generalize wB.drewN nq = wC at hXe hupC hrdC ⊢
          all_goals clear hupB hrdB
          all_goals obtain ⟨⟨x0, x1, x2, x3⟩, _⟩ := hXe.cells
          all_goals clear E2
          all_goals
            by_cases h7 : (kd = SQ ∧ u ≠ []) ∨ (kd ≠ SQ ∧ its ≠ [])
            · have h8 := hid (hbad.out 1 (by rw [E3.out, if_pos h7]) (by decide))
              rcases h7 with ⟨g1, g2⟩ | ⟨g1, g2⟩
              · have hq : (kd == [83, 81]) = true := by simpa [SQ] using g1
                clear g1
                first
                  | exact absurd hu0 g2
                  | go_wp2
                    go_ret
                    exact ⟨ret_int h8.out.symm, hupC.out⟩
              · have hq : (kd == [83, 81]) = false := by simpa [SQ] using g1
                have d9 : 0 < its.length := List.length_pos_iff.2 g2
                clear g1 g2
                go_wp2
                go_ret
                exact ⟨ret_int h8.out.symm, hupC.out⟩
            have E4 := hid (E3.out.trans (if_neg h7))
            clear E3
            have d13 : decide ((8 : Int) < (its.length : Int)) = decide (8 < its.length) := decide_eq_decide.2 (by omega)
            have d14 : decide ((2 : Int) ≤ (d : Int)) = decide (2 ≤ d) := decide_eq_decide.2 (by omega)
            by_cases g1 : kd = SQ
            case' pos =>
              have hq : (kd == [83, 81]) = true := by simpa [SQ] using g1
              have g2 : u = [] := Classical.byContradiction fun e => h7 (Or.inl ⟨g1, e⟩)
              have d9 : decide ((0 : Int) < (u.length : Int)) = false := by rw [g2]; rfl
              have g1h := hid g1
              have g2h := hid g2
              clear h7 g1 g2
              by_cases h9 : 8 < its.length
              · rw [decide_eq_true h9] at d13
                have h8 := hid (hbad.out 4 (by rw [E4.out, if_pos h9]) (by decide))
                first
                  | exact absurd g2h.out hu0
                  | go_wp2
                    go_ret
                    exact ⟨ret_int h8.out.symm, hupC.out⟩
              rw [decide_eq_false h9] at d13
              by_cases h10 : 2 ≤ d
              · rw [decide_eq_true h10] at d14
                have h8 := hid (hbad.out 5 (by rw [E4.out, if_neg h9, if_pos ⟨g1h.out, h10⟩]) (by decide))
                first
                  | exact absurd g2h.out hu0
                  | go_wp2
                    go_ret
                    exact ⟨ret_int h8.out.symm, hupC.out⟩
              rw [decide_eq_false h10] at d14
              have E5 := hid (E4.out.trans ((if_neg h9).trans (if_neg (fun e => h10 e.2))))
              have hdn : Hid (its = [] ∨ (d + 1 ≤ 2 ∧ 3 ≤ d + 1 + n)) := Or.inr ⟨by omega, by omega⟩
              have hl8 : its.length ≤ 8 := by omega
              clear h9 h10 E4
            case' neg =>
              have hq : (kd == [83, 81]) = false := by simpa [SQ] using g1
              have g2 : its = [] := Classical.byContradiction fun e => h7 (Or.inr ⟨g1, e⟩)
              have d9 : ¬ 0 < its.length := by rw [g2]; simp
              have g1h := hid g1
              have g2h := hid g2
              have h9 : ¬ 8 < its.length := by rw [g2]; simp
              rw [decide_eq_false h9] at d13
              have E5 := hid (E4.out.trans ((if_neg h9).trans (if_neg (fun e => g1 e.1))))
              have hdn : Hid (its = [] ∨ (d + 1 ≤ 2 ∧ 3 ≤ d + 1 + n)) := Or.inl g2
              have hl8 : its.length ≤ 8 := by omega
              clear h7 g1 g2 h9 E4
            all_goals first
              | exact absurd g2h.out hu0
              | skip
            all_goals go_wp2_with fail
            all_goals (try clear hul)
            all_goals (try clear hpos hlt4 hlt3)
            all_goals clear hu0 d8 d9 d7 h4 d13 d14 hq
            all_goals
              go_loopw [9] (fun i w2 => ∃ j : Nat, j ≤ its.length ∧ i = .int .i64 j ∧ Hid (Below w.heap.size w w2) ∧ Hid (Below wC.heap.size wC w2) ∧ Hid (errI (errS n (d + 1)) its = errI (errS n (d + 1)) (its.drop j))) (fun i _ => its.length - (intOf i).toNat)
              case atStart => exact ⟨0, Nat.zero_le _, rfl, hupC, Below.refl _ _, rfl⟩
              case round =>
                obtain ⟨j, hj, rfl, hupD, hupE, hspI⟩ := hrel
                have hX2 := hXe.keep (hupE.out.block _ hXe.lt)
                clear x0 x1 x2 x3
                obtain ⟨⟨x0, x1, x2, x3⟩, _⟩ := hX2.cells
                by_cases hjl : j < its.length
                · first
                    | exact absurd hjl (by rw [show its = [] from g2h.out]; simp)
                    | obtain ⟨ad', cap', ee, hc⟩ := hrdC.out
                      obtain ⟨a3, ea, _, sv, hcell, hrd⟩ := hc j _ (List.getElem?_eq_getElem hjl)
                      injection ee with ee1 ee2 ee3
                      rw [ea] at ee1
                      subst ee1
                      rw [Nat.one_mul] at hcell
                      have hcr := cell_keep (hupE.out.block _ (World.block_lt_of_cell? _ _ hcell)) hcell
                      have hrd3 := hid (hrd.up hupE.out)
                      clear hcell hrd hc ee3 ea
                      have hdr : its.drop j = its[j] :: its.drop (j + 1) := List.drop_eq_getElem_cons hjl
                      generalize its[j] = y at hrd3 hdr
                      have hd' : Hid (d + 1 ≤ 2 ∧ 3 ≤ d + 1 + n) := by
                        rcases hdn.out with hd | hd
                        · rw [hd] at hjl; simp at hjl
                        · exact hd
                      obtain ⟨ad4, cap4, rfl⟩ := hrd3.out.slice
                      have hstI := hid (show errI (errS n (d + 1)) (its.drop j) = if errS n (d + 1) y = 0 then errI (errS n (d + 1)) (its.drop (j + 1)) else errS n (d + 1) y by rw [hdr]; rfl)
                      clear hdr
                      go_wp2_with fail
                      go_at_call 92
                      refine (H F _ _ y (d + 1) hd'.out.1 hd'.out.2 hrd3.out).mono ?_
                      rintro e w2 ⟨rfl, u2⟩
                      have hup2 := hid (hupD.out.trans (u2.mono hupD.out.size))
                      have hup3 := hid (hupE.out.trans (u2.mono hupE.out.size))
                      clear u2
                      generalize errS n (d + 1) y = ee at hstI ⊢
                      by_cases he : ee = 0
                      · subst he
                        go_wp2
                        go_roundw
                        case rel => exact ⟨j + 1, by omega, by go_num, hup2, hup3, by unfold Hid; rw [hspI.out, hstI.out]; simp⟩
                        case measure => simp [intOf]; omega
                      · have he2 : (ee != 0) = true := by simpa using he
                        have he3 := hid (hbad.out ee (by rw [E5.out, hspI.out, hstI.out, if_neg he]) he)
                        clear he
                        go_wp2
                        go_ret
                        exact ⟨ret_int he3.out.symm, hup2.out⟩
                · have hlast := hid (show errS (n + 1) d l = errL (errE (errI (errS n (d + 1))) d) (fun x => x.1) (t : Int) (l.drop (k + 1)) by
                    rw [hspec.out, hstep.out, if_pos (by rw [E5.out, hspI.out, List.drop_eq_nil_of_le (by omega)]; rfl)])
                  go_wp2
                  go_roundw
                  case rel => exact ⟨k + 1, t, by omega, by go_num, hupD, Or.inr ⟨by omega, by omega, _, hxk.out, rfl⟩, hlast⟩
                  case measure => simp [intOf]; omega
    · go_wp2
      go_ret
      refine ⟨ret_int ?_, hup.out⟩
      rw [hspec.out, List.drop_eq_nil_of_le (by omega)]; rfl
theorem rwrong_any : ∀ n, RE n
  | 0 => fun _ _ _ _ _ hd hn => by omega
  | n + 1 => rwrong_succ n (rwrong_any n)
end Go.Proofs.YtaokifbpakbgdaaGreatDoor
