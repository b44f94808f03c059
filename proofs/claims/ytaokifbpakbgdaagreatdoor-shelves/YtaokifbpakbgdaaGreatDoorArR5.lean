/-
  Package folioref on archives: described.
-/
import Derived.Test.YtaokifbpakbgdaaGreatDoorArR3
import Derived.Test.YtaokifbpakbgdaaGreatDoorArE
namespace Go.Proofs.YtaokifbpakbgdaaGreatDoor
open Go.RowKit

theorem any_drop {α : Type} (p : α → Bool) {l : List α} {k : Nat} (h : k < l.length) : (l.drop k).any p = (p l[k] || (l.drop (k + 1)).any p) := by
  rw [List.drop_eq_getElem_cons h, List.any_cons]
theorem Sane.at {n : Nat} {l : List (El (n + 2))} (h : Sane l) {k : Nat} (hk : k < l.length) : l[k].2.2.1.length ≤ 64 ∧ l[k].2.2.2.length ≤ 8 ∧ (∀ s ∈ l[k].2.2.2, s.length ≤ 24) ∧ ∀ s ∈ l[k].2.2.2, ∀ y ∈ s, y.2.2.1.length ≤ 64 := by
  have h1 := h.2 _ (List.getElem_mem hk)
  exact ⟨h1.1, h1.2.1, fun s hs => (h1.2.2 s hs).1, fun s hs => (h1.2.2 s hs).2⟩
set_option maxRecDepth 20000 in
set_option maxHeartbeats 2000000 in
theorem rdescribed_any (n : Nat) (F : Nat → Prop) (w : World) (v : Value) (l : List (El (n + 2))) (h : Rd w F (n + 2) v l) (hS : Sane l) :
    Calls Tryz.prog 99 #[v] w fun e w' => e = .returned (.int .i64 (desE l)) ∧ Below w.heap.size w w' := by
  obtain ⟨ad, cap, rfl⟩ := h.slice
  have H := hid h
  have HS := hid hS
  have hl := hS.1
  clear h hS
  go_enter Tryz.func99, Tryz.ntmps99
  go_wp2_with fail
  go_loopw [3] (fun i wr => ∃ k : Nat, k ≤ l.length ∧ i = .int .i64 k ∧ Hid (l.any bad1 = (l.drop k).any bad1) ∧ Hid (Below w.heap.size w wr)) (fun i _ => l.length - (intOf i).toNat)
  case atStart => exact ⟨0, Nat.zero_le _, rfl, rfl, Below.refl _ _⟩
  case round =>
    obtain ⟨k, hk, rfl, hsp, hU⟩ := hrel
    by_cases hkl : k < l.length
    · have hat := hid (H.out.at (List.getElem?_eq_getElem hkl))
      obtain ⟨a, ad2, cap2, rfl, _, d0, d1, d2, d3, hrd⟩ := hat.out
      have c0 := hU.out.cell (World.block_lt_of_cell? _ _ d0) |>.trans d0
      have c1 := hU.out.cell (World.block_lt_of_cell? _ _ d1) |>.trans d1
      have c3 := hU.out.cell (World.block_lt_of_cell? _ _ d3) |>.trans d3
      have hrd2 := hid hrd
      have hx := hid (HS.out.at hkl)
      have hst := hid (any_drop bad1 hkl)
      clear hrd hat d0 d1 d2 d3
      generalize l[k] = x at c0 c1 c3 hrd2 hst hx
      go_wp2_with fail
      go_at_call 161
      refine (rKind_any _ x.1).mono ?_
      rintro e w1 ⟨rfl, rfl⟩
      have e1 := bs_toList (kindT x.1)
      have e2 := bs_toList x.2.1
      by_cases hkd : kindT x.1 = []
      · have hb : bad1 x = false := by rw [bad1, decide_eq_false (fun h => h hkd), Bool.false_and]
        have hst2 := hid (show l.any bad1 = (l.drop (k + 1)).any bad1 by rw [hsp.out, hst.out, hb, Bool.false_or])
        rw [hkd] at e1 ⊢
        clear hst hkd hb
        go_wp2
        go_roundw
        case rel => exact ⟨k + 1, by omega, by go_num, hst2, hU⟩
        case measure => simp [intOf]; omega
      · have hkb : (kindT x.1 == []) = false := by simpa using hkd
        have hke : (kindT x.1).isEmpty = false := by cases hc : kindT x.1 with | nil => exact absurd hc hkd | cons _ _ => rfl
        have hst2 := hid (show l.any bad1 = ((decide (x.2.1 ≠ kindT x.1) || badI false x.2.2.2) || (l.drop (k + 1)).any bad1) by rw [hsp.out, hst.out, bad1, decide_eq_true hkd, Bool.true_and])
        clear hst hkd
        generalize kindT x.1 = kk at e1 hkb hke hst2
        by_cases hk2 : x.2.1 = kk
        · have hk3 : (x.2.1 == kk) = true := by simpa using hk2
          have hst3 := hid (hst2.out.trans (by rw [decide_eq_false (fun h => h hk2), Bool.false_or]))
          clear hst2 hk2
          go_wp2_with fail
          go_at_call 162
          refine (rinItems_any n F _ _ x.2.2.2 false (hrd2.out.up hU.out) hx.out.2.1 hx.out.2.2.1 hx.out.2.2.2).mono ?_
          rintro e w2 ⟨rfl, u2⟩
          have U2 := hid (hU.out.trans (u2.mono hU.out.size))
          have hI := inE_false x.2.2.2
          clear u2
          by_cases hbi : badI false x.2.2.2 = true
          · rw [if_pos hbi] at hI
            have hF := hid (show desE l = 2 by rw [desE, if_pos (by rw [hst3.out, hbi, Bool.true_or])])
            rw [hI]
            clear hI hst3 hbi
            go_wp2
            go_ret
            exact ⟨ret_int hF.out.symm, U2.out⟩
          · rw [if_neg hbi] at hI
            have hst4 := hid (show l.any bad1 = (l.drop (k + 1)).any bad1 by rw [hst3.out, show badI false x.2.2.2 = false by simpa using hbi, Bool.false_or])
            rw [hI]
            clear hI hst3 hbi
            go_wp2
            go_roundw
            case rel => exact ⟨k + 1, by omega, by go_num, hst4, U2⟩
            case measure => simp [intOf]; omega
        · have hk3 : (x.2.1 == kk) = false := by simpa using hk2
          have hF := hid (show desE l = 2 by rw [desE, if_pos (by rw [hst2.out, decide_eq_true hk2, Bool.true_or, Bool.true_or])])
          clear hst2 hk2
          go_wp2
          go_ret
          exact ⟨ret_int hF.out.symm, hU.out⟩
    · have hB1 := hid (show l.any bad1 = false by rw [hsp.out, List.drop_eq_nil_of_le (by omega)]; rfl)
      clear hsp
      go_wp2_with fail
      go_loopw [6] (fun i wr => ∃ q : Nat, q ≤ l.length ∧ i = .int .i64 q ∧ Hid (l.any bad2 = (l.drop q).any bad2) ∧ Hid (Below w.heap.size w wr)) (fun i _ => l.length - (intOf i).toNat)
      case atStart => exact ⟨0, Nat.zero_le _, rfl, rfl, hU⟩
      case round =>
        obtain ⟨q, hq, rfl, hsp, hU⟩ := hrel
        by_cases hql : q < l.length
        · have hat := hid (H.out.at (List.getElem?_eq_getElem hql))
          obtain ⟨a, ad2, cap2, rfl, _, d0, d1, d2, d3, hrd⟩ := hat.out
          have c0 := hU.out.cell (World.block_lt_of_cell? _ _ d0) |>.trans d0
          have c2 := hU.out.cell (World.block_lt_of_cell? _ _ d2) |>.trans d2
          have c3 := hU.out.cell (World.block_lt_of_cell? _ _ d3) |>.trans d3
          have D2 := hid d2
          have hrd2 := hid hrd
          have hx := hid (HS.out.at hql)
          have hst := hid (any_drop bad2 hql)
          clear hrd hat d0 d1 d2 d3
          generalize l[q] = x at c0 c2 c3 D2 hrd2 hst hx
          go_wp2_with fail
          go_at_call 161
          refine (rKind_any _ x.1).mono ?_
          rintro e w1 ⟨rfl, rfl⟩
          have e1 := bs_toList (kindT x.1)
          by_cases hkd : kindT x.1 = []
          · have hb : bad2 x = false := by rw [bad2, decide_eq_false (fun h => h hkd), Bool.false_and]
            have hst2 := hid (show l.any bad2 = (l.drop (q + 1)).any bad2 by rw [hsp.out, hst.out, hb, Bool.false_or])
            rw [hkd] at e1 ⊢
            clear hst hkd hb
            go_wp2
            go_roundw
            case rel => exact ⟨q + 1, by omega, by go_num, hst2, hU⟩
            case measure => simp [intOf]; omega
          · have hkb : (kindT x.1 == []) = false := by simpa using hkd
            have hke : (kindT x.1).isEmpty = false := by cases hc : kindT x.1 with | nil => exact absurd hc hkd | cons _ _ => rfl
            have hst2 := hid (show l.any bad2 = ((if kindT x.1 = SQ then badI true x.2.2.2 else decide (chk (kindT x.1) x.2.2.1 ≠ 0)) || (l.drop (q + 1)).any bad2) by rw [hsp.out, hst.out, bad2, decide_eq_true hkd, Bool.true_and])
            clear hst hkd
            generalize kindT x.1 = kk at e1 hkb hke hst2
            go_wp2_with fail
            go_at_call 162
            refine (rinItems_any n F _ _ x.2.2.2 true (hrd2.out.up hU.out) hx.out.2.1 hx.out.2.2.1 hx.out.2.2.2).mono ?_
            rintro e w2 ⟨rfl, u2⟩
            have U2 := hid (hU.out.trans (u2.mono hU.out.size))
            have hI := hid (inE_zero true x.2.2.2)
            have c2' := U2.out.cell (World.block_lt_of_cell? _ _ D2.out) |>.trans D2.out
            clear u2
            by_cases hsq : kk = SQ
            · have hk3 : (kk == [83, 81]) = true := by simpa using hsq
              have hst3 := hid (hst2.out.trans (by rw [if_pos hsq]))
              clear hst2 hsq
              generalize inE true x.2.2.2 = ee at hI
              by_cases he : ee = 0
              · have hst4 := hid (show l.any bad2 = (l.drop (q + 1)).any bad2 by rw [hst3.out, hI.out.1 he, Bool.false_or])
                subst he
                clear hI hst3
                go_wp2
                go_roundw
                case rel => exact ⟨q + 1, by omega, by go_num, hst4, U2⟩
                case measure => simp [intOf]; omega
              · have hF := hid (show desE l = 6 by
                  have hb : badI true x.2.2.2 = true := by
                    cases hc : badI true x.2.2.2 with
                    | true => rfl
                    | false => exact absurd (hI.out.2 hc) he
                  rw [desE, if_neg (by rw [hB1.out]; decide), if_pos (by rw [hst3.out, hb, Bool.true_or])])
                have he2 : (ee != 0) = true := by simpa using he
                clear hI hst3 he
                go_wp2
                go_ret
                exact ⟨ret_int hF.out.symm, U2.out⟩
            · have hk3 : (kk == [83, 81]) = false := by simpa using hsq
              have hst3 := hid (hst2.out.trans (by rw [if_neg hsq]))
              have C1 := hid (fun W : World => rCheck_any (bs kk) (bs x.2.2.1) W (by have := hx.out.1; rw [bs_size]; omega))
              clear hst2 hsq
              go_wp2_with fail
              go_at_call 14
              refine (C1.out _).mono ?_
              rintro e w3 ⟨rfl, u3⟩
              have U3 := hid (U2.out.trans (Below.mono u3 U2.out.size))
              clear u3 C1
              change Hid (l.any bad2 = (decide (chk (bs kk).data.toList (bs x.2.2.1).data.toList ≠ 0) || (l.drop (q + 1)).any bad2)) at hst3
              generalize chk (bs kk).data.toList (bs x.2.2.1).data.toList = ee at hst3
              by_cases he : ee = 0
              · have hst4 := hid (show l.any bad2 = (l.drop (q + 1)).any bad2 by rw [hst3.out, decide_eq_false (fun h => h he), Bool.false_or])
                subst he
                clear hst3
                go_wp2
                go_roundw
                case rel => exact ⟨q + 1, by omega, by go_num, hst4, U3⟩
                case measure => simp [intOf]; omega
              · have hF := hid (show desE l = 6 by rw [desE, if_neg (by rw [hB1.out]; decide), if_pos (by rw [hst3.out, decide_eq_true he, Bool.true_or])])
                have he2 : (ee != 0) = true := by simpa using he
                clear hst3 he
                go_wp2
                go_ret
                exact ⟨ret_int hF.out.symm, U3.out⟩
        · have hB2 := hid (show l.any bad2 = false by rw [hsp.out, List.drop_eq_nil_of_le (by omega)]; rfl)
          clear hsp
          go_wp2_with fail
          go_at_call 100
          refine (rnames_any (n + 1) F _ _ l (H.out.up hU.out) hl).mono ?_
          rintro e w2 ⟨g, capg, rfl, _, hN, u2⟩
          have U2 := hid (hU.out.trans (u2.mono hU.out.size))
          have N2 := hid hN
          clear u2 hN
          go_wp2_with fail
          go_loopw [10] (fun i wr => ∃ j : Nat, j ≤ 4 ∧ i = .int .i64 j ∧ wr = w2 ∧ Hid (∀ m, m < j → nm m l ≠ [])) (fun i _ => 4 - (intOf i).toNat)
          case atStart => exact ⟨0, by omega, rfl, rfl, fun m hm => by omega⟩
          case round =>
            obtain ⟨j, hj, rfl, rfl, hsp⟩ := hrel
            by_cases hjl : j < 4
            · have n1 := N2.out j hjl
              have e3 := bs_toList (nm j l)
              by_cases hs : nm j l = []
              · have hF := hid (show desE l = 7 by
                  rw [desE, if_neg (by rw [hB1.out]; decide), if_neg (by rw [hB2.out]; decide), if_pos]
                  rcases (show j = 0 ∨ j = 1 ∨ j = 2 ∨ j = 3 by omega) with rfl | rfl | rfl | rfl
                  · exact Or.inl hs
                  · exact Or.inr (Or.inl hs)
                  · exact Or.inr (Or.inr (Or.inl hs))
                  · exact Or.inr (Or.inr (Or.inr hs)))
                rw [hs] at n1 e3
                clear hs
                go_wp2
                go_ret
                exact ⟨ret_int hF.out.symm, U2.out⟩
              · have hb : (nm j l).isEmpty = false := by cases hc : nm j l with | nil => exact absurd hc hs | cons _ _ => rfl
                have hb2 : (nm j l == []) = false := by simpa using hs
                have hsp2 : Hid (∀ m, m < j + 1 → nm m l ≠ []) := fun m hm => by
                  by_cases e : m = j
                  · subst e; exact hs
                  · exact hsp.out m (by omega)
                clear hs
                generalize nm j l = s at n1 e3 hb hb2
                go_wp2
                go_roundw
                case rel => exact ⟨j + 1, by omega, by go_num, trivial, hsp2⟩
                case measure => simp [intOf]; omega
            · have hF := hid (show desE l = 0 by
                rw [desE, if_neg (by rw [hB1.out]; decide), if_neg (by rw [hB2.out]; decide), if_neg]
                rintro (h | h | h | h)
                · exact hsp.out 0 (by omega) h
                · exact hsp.out 1 (by omega) h
                · exact hsp.out 2 (by omega) h
                · exact hsp.out 3 (by omega) h)
              go_wp2
              go_ret
              exact ⟨ret_int hF.out.symm, U2.out⟩
end Go.Proofs.YtaokifbpakbgdaaGreatDoor
