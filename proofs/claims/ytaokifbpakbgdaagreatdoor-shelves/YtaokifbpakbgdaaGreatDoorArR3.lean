/-
  Package folioref on archives: inItems, described.
-/
import Derived.Test.YtaokifbpakbgdaaGreatDoorArR2
import Derived.Test.YtaokifbpakbgdaaGreatDoorWr2
import Derived.Test.YtaokifbpakbgdaaGreatDoorRef6
namespace Go.Proofs.YtaokifbpakbgdaaGreatDoor
open Go.RowKit

/-- What is wrong with Word and Meaning in an item, in items: the first. -/
def itE {n : Nat} (v : Bool) : List (El (n + 1)) → Int
  | [] => 0
  | y :: l => if isWord y.1 = true then (if y.2.1 ≠ LO then 2 else if v = true ∧ chk LO y.2.2.1 ≠ 0 then 6 else itE v l) else itE v l
def inE {n : Nat} (v : Bool) (its : Its (n + 1)) : Int := errI (itE v) its
theorem itE_zero {n : Nat} (v : Bool) : ∀ l : List (El (n + 1)), itE v l = 0 ↔ l.any (badY v) = false
  | [] => by simp [itE]
  | y :: l => by
    have ih := itE_zero v l
    rw [itE, List.any_cons, badY]
    by_cases h1 : isWord y.1 = true
    · rw [if_pos h1, h1]
      by_cases h2 : y.2.1 ≠ LO
      · rw [if_pos h2, decide_eq_true h2]; simp
      · rw [if_neg h2, decide_eq_false h2]
        by_cases h3 : v = true ∧ chk LO y.2.2.1 ≠ 0
        · rw [if_pos h3, h3.1, decide_eq_true h3.2]; simp
        · rw [if_neg h3, ih]
          have : (v && decide (chk LO y.2.2.1 ≠ 0)) = false := by
            cases v
            · rfl
            · rw [Bool.true_and, decide_eq_false (fun h => h3 ⟨rfl, h⟩)]
          rw [this]; simp
    · rw [if_neg h1, ih]
      have : isWord y.1 = false := by simpa using h1
      rw [this]; simp
theorem itE_false {n : Nat} : ∀ l : List (El (n + 1)), itE false l = if l.any (badY false) = true then 2 else 0
  | [] => by simp [itE]
  | y :: l => by
    have ih := itE_false l
    rw [itE, List.any_cons, badY]
    by_cases h1 : isWord y.1 = true
    · rw [if_pos h1, h1]
      by_cases h2 : y.2.1 ≠ LO
      · rw [if_pos h2, decide_eq_true h2]; simp
      · rw [if_neg h2, decide_eq_false h2, if_neg (by simp), ih]; simp
    · rw [if_neg h1, ih]
      have : isWord y.1 = false := by simpa using h1
      rw [this]; simp
theorem inE_zero {n : Nat} (v : Bool) : ∀ its : Its (n + 1), inE v its = 0 ↔ badI v its = false
  | [] => by simp [inE, errI, badI]
  | s :: l => by
    have ih := inE_zero v l
    have hs := itE_zero v s
    unfold inE badI at ih ⊢
    rw [errI, List.any_cons]
    by_cases h : itE v s = 0
    · rw [if_pos h, ih, hs.1 h]; simp
    · rw [if_neg h]
      have : s.any (badY v) = true := by
        cases hc : s.any (badY v) with
        | true => rfl
        | false => exact absurd (hs.2 hc) h
      rw [this]; simp [h]
theorem inE_false {n : Nat} : ∀ its : Its (n + 1), inE false its = if badI false its = true then 2 else 0
  | [] => by simp [inE, errI, badI]
  | s :: l => by
    have ih := inE_false l
    have hs := itE_false s
    unfold inE badI at ih ⊢
    rw [errI, List.any_cons]
    by_cases h : s.any (badY false) = true
    · rw [if_pos h] at hs
      rw [if_neg (by rw [hs]; decide), hs, h]; simp
    · rw [if_neg h] at hs
      have h' : s.any (badY false) = false := by simpa using h
      rw [if_pos hs, ih, h']; simp
theorem itE_drop {n : Nat} (v : Bool) {l : List (El (n + 1))} {k : Nat} (h : k < l.length) : itE v (l.drop k) = if isWord l[k].1 = true then (if l[k].2.1 ≠ LO then 2 else if v = true ∧ chk LO l[k].2.2.1 ≠ 0 then 6 else itE v (l.drop (k + 1))) else itE v (l.drop (k + 1)) := by
  rw [List.drop_eq_getElem_cons h]; rfl
theorem inE_drop {n : Nat} (v : Bool) {l : Its (n + 1)} {k : Nat} (h : k < l.length) : inE v (l.drop k) = if itE v l[k] = 0 then inE v (l.drop (k + 1)) else itE v l[k] := by
  rw [List.drop_eq_getElem_cons h]; rfl
set_option maxRecDepth 20000 in
set_option maxHeartbeats 1000000 in
theorem rinItems_any (n : Nat) (F : Nat → Prop) (w : World) (v : Value) (its : Its (n + 1)) (vals : Bool) (h : RdI w F (n + 1) v its) (hl : its.length ≤ 8) (hs : ∀ s ∈ its, s.length ≤ 24) (hv : ∀ s ∈ its, ∀ y ∈ s, y.2.2.1.length ≤ 64) :
    Calls Tryz.prog 162 #[v, .bool vals] w fun e w' => e = .returned (.int .i64 (inE vals its)) ∧ Below w.heap.size w w' := by
  obtain ⟨ad, cap, rfl⟩ := h.slice
  have H := hid h
  have HS := hid hs
  have HV := hid hv
  clear h hs hv
  go_enter Tryz.func162, Tryz.ntmps162
  go_wp2_with fail
  go_loopw [5] (fun i wr => ∃ k : Nat, k ≤ its.length ∧ i = .int .i64 k ∧ Hid (inE vals its = inE vals (its.drop k)) ∧ Hid (Below w.heap.size w wr)) (fun i _ => its.length - (intOf i).toNat)
  case atStart => exact ⟨0, Nat.zero_le _, rfl, rfl, Below.refl _ _⟩
  case round =>
    obtain ⟨k, hk, rfl, hsp, hU⟩ := hrel
    by_cases hkl : k < its.length
    · have hat := hid (H.out.at (List.getElem?_eq_getElem hkl))
      obtain ⟨a, ad2, cap2, rfl, _, d0, hrd⟩ := hat.out
      have D0 := hid d0
      have hsl := HS.out _ (List.getElem_mem hkl)
      have hvl := hid (HV.out _ (List.getElem_mem hkl))
      have hst := hid (inE_drop vals hkl)
      have hrd2 := hid hrd
      clear hrd hat d0
      generalize its[k] = s at D0 hrd2 hst hsl hvl
      go_wp2_with fail
      go_loopw [6] (fun i wq => ∃ q : Nat, q ≤ s.length ∧ i = .int .i64 q ∧ Hid (itE vals s = itE vals (s.drop q)) ∧ Hid (Below w.heap.size w wq)) (fun i _ => s.length - (intOf i).toNat)
      case atStart => exact ⟨0, Nat.zero_le _, rfl, rfl, hU⟩
      case round =>
        obtain ⟨q, hq, rfl, hsq, hV⟩ := hrel
        have c0 := hV.out.cell (World.block_lt_of_cell? _ _ D0.out) |>.trans D0.out
        by_cases hql : q < s.length
        · have hat := hid (hrd2.out.at (List.getElem?_eq_getElem hql))
          obtain ⟨a2, ad3, cap3, e2, _, f0, f1, f2, f3, _⟩ := hat.out
          subst e2
          have g0 := hV.out.cell (World.block_lt_of_cell? _ _ f0) |>.trans f0
          have g1 := hV.out.cell (World.block_lt_of_cell? _ _ f1) |>.trans f1
          have g2 := hV.out.cell (World.block_lt_of_cell? _ _ f2) |>.trans f2
          have g3 := hV.out.cell (World.block_lt_of_cell? _ _ f3) |>.trans f3
          have hyl := hvl.out _ (List.getElem_mem hql)
          have hsy := hid (itE_drop vals hql)
          clear hat f0 f1 f2 f3
          generalize s[q] = y at g0 g1 g2 g3 hyl hsy
          have hXc := (Four.new wr (.int .i64 y.1) (.string (bs y.2.1)) (.string (bs y.2.2.1)) (.slice ad3 y.2.2.2.length cap3)).cells
          obtain ⟨⟨x0, x1, x2, x3⟩, _⟩ := hXc
          have V1 := hid (Below.alloc hV.out hV.out.size (.cells #[.int .i64 y.1, .string (bs y.2.1), .string (bs y.2.2.1), .slice ad3 y.2.2.2.length cap3] 73))
          have e1 := bs_toList y.2.1
          by_cases hw : isWord y.1 = true
          · have hor : y.1 = 524544 ∨ y.1 = 524548 := by simpa [isWord] using hw
            have hs1 := hid (hsy.out.trans (if_pos hw))
            by_cases hk2 : y.2.1 = [76, 79]
            · have hs2 := hid (hs1.out.trans (if_neg (fun h => h hk2)))
              have c1 : ∀ W : World, Calls Tryz.prog 14 #[.string ⟨#[76, 79]⟩, .string (bs y.2.2.1)] W fun e w' => e = .returned (.int .i64 (chk LO y.2.2.1)) ∧ Up W w' := fun W => rCheck_any ⟨#[76, 79]⟩ (bs y.2.2.1) W (by rw [bs_size]; omega)
              have hkb : (y.2.1 == [76, 79]) = true := by simpa using hk2
              have C1 := hid c1
              clear c1 hw hsy hs1 hk2
              generalize chk LO y.2.2.1 = ee at C1 hs2
              have t1 : (y.1 != 524544) = true ∧ (y.1 != 524548) = false ∨ (y.1 != 524544) = false := by
                rcases hor with h | h
                · exact Or.inr (by simpa using h)
                · exact Or.inl ⟨by simp [h], by simp [h]⟩
              clear hor
              rcases t1 with ⟨t1, t2⟩ | t1
              all_goals
                go_wp2_with fail
                go_at_call 14
                refine (C1.out _).mono ?_
                rintro e w2 ⟨rfl, u2⟩
                have V2 := hid (V1.out.trans (Below.mono u2 V1.out.size))
                clear u2
                cases vals
                · have hs3 := hid (hs2.out.trans (if_neg (by simp)))
                  clear hs2
                  go_wp2
                  go_roundw
                  case rel => exact ⟨q + 1, by omega, by go_num, hsq.out.trans hs3.out, V2⟩
                  case measure => simp [intOf]; omega
                · by_cases he : ee = 0
                  · have hs3 := hid (hs2.out.trans (if_neg (fun h => h.2 he)))
                    subst he
                    clear hs2
                    go_wp2
                    go_roundw
                    case rel => exact ⟨q + 1, by omega, by go_num, hsq.out.trans hs3.out, V2⟩
                    case measure => simp [intOf]; omega
                  · have h6 : itE true s = 6 := by rw [hsq.out, hs2.out, if_pos ⟨rfl, he⟩]
                    have hs3 := hid (show inE true its = 6 by rw [hsp.out, hst.out, if_neg (by rw [h6]; decide), h6])
                    clear h6
                    have he2 : (ee != 0) = true := by simpa using he
                    clear hs2 he
                    go_wp2
                    go_ret
                    exact ⟨ret_int hs3.out.symm, V2.out⟩
            · have hs3 := hid (show inE vals its = 2 by rw [hsp.out, hst.out, hsq.out, hs1.out, if_pos hk2, if_neg (by decide)])
              have hkb : (y.2.1 == [76, 79]) = false := by simpa using hk2
              clear hw hsy hs1 hk2
              have t1 : (y.1 != 524544) = true ∧ (y.1 != 524548) = false ∨ (y.1 != 524544) = false := by
                rcases hor with h | h
                · exact Or.inr (by simpa using h)
                · exact Or.inl ⟨by simp [h], by simp [h]⟩
              clear hor
              rcases t1 with ⟨t1, t2⟩ | t1
              all_goals
                go_wp2
                go_ret
                exact ⟨ret_int hs3.out.symm, V1.out⟩
          · have hs1 := hid (hsy.out.trans (if_neg hw))
            have t1 : (y.1 != 524544) = true := by
              rw [isWord] at hw
              cases hc : (y.1 == 524544) with
              | true => rw [hc] at hw; exact absurd rfl hw
              | false => rw [bne, hc]; rfl
            have t2 : (y.1 != 524548) = true := by
              rw [isWord] at hw
              cases hc : (y.1 == 524548) with
              | true => rw [hc, Bool.or_true] at hw; exact absurd rfl hw
              | false => rw [bne, hc]; rfl
            clear hw hsy
            go_wp2
            go_roundw
            case rel => exact ⟨q + 1, by omega, by go_num, hsq.out.trans hs1.out, V1⟩
            case measure => simp [intOf]; omega
        · have hz := hid (show itE vals s = 0 by rw [hsq.out, List.drop_eq_nil_of_le (by omega)]; rfl)
          have hs3 := hid (show inE vals its = inE vals (its.drop (k + 1)) by rw [hsp.out, hst.out, if_pos hz.out])
          clear hz hst
          go_wp2
          go_roundw
          case rel => exact ⟨k + 1, by omega, by go_num, hs3, hV⟩
          case measure => simp [intOf]; omega
    · have hF := hid (show inE vals its = 0 by rw [hsp.out, List.drop_eq_nil_of_le (by omega)]; rfl)
      go_wp2
      go_ret
      exact ⟨ret_int hF.out.symm, hU.out⟩
end Go.Proofs.YtaokifbpakbgdaaGreatDoor
