/-
  The document's answer (package folioref), eighth part: seconds, starts, span.
-/
import Derived.Test.YtaokifbpakbgdaaGreatDoorRef7
import Derived.Test.YtaokifbpakbgdaaGreatDoorSpans
namespace Go.Proofs.YtaokifbpakbgdaaGreatDoor
open Go.RowKit

theorem starts_any (s t : ByteArray) (w : World) :
    Calls Tryz.prog 89 #[.string s, .string t] w fun e w' => e = .returned (.bool (Lib.hasPrefix s.data.toList t.data.toList)) ∧ w' = w := by
  by_cases h : t.size ≤ s.size
  · have R : Hid (Lib.hasPrefix s.data.toList t.data.toList = ((s.extract 0 t.size).toList == t.toList)) := by
      unfold Hid
      rw [Lib.toList_data, Lib.toList_data, sub_data, List.drop_zero, Nat.sub_zero, Bool.eq_iff_iff, beq_iff_eq]
      unfold Lib.hasPrefix
      rw [List.isPrefixOf_iff_prefix, List.prefix_iff_eq_take, len_list]
      exact eq_comm
    go_enter Tryz.func89, Tryz.ntmps89
    go_wp2
    go_ret
    exact ⟨vret_bool R.out.symm, rfl⟩
  · have R : Hid (Lib.hasPrefix s.data.toList t.data.toList = false) := by
      unfold Hid Lib.hasPrefix
      rw [Bool.eq_false_iff, ne_eq, List.isPrefixOf_iff_prefix]
      intro hp
      have := hp.length_le
      rw [len_list, len_list] at this
      omega
    go_enter Tryz.func89, Tryz.ntmps89
    go_wp2
    go_ret
    exact ⟨vret_bool R.out.symm, rfl⟩
theorem secP_bd {l : Bs} {f : Int} (h : timeB l = true) (h0 : 0 ≤ f) (h59 : f ≤ 59) (j : Nat) : 0 ≤ secP l j f ∧ secP l j f ≤ 99 := by
  obtain ⟨hl, hd, _, _, _⟩ := time_facts h
  unfold secP
  split
  · have := num_lt _ (digits_take _ 2 (digits_drop l j hd)) 2 (by simp; omega) 100 rfl
    omega
  · omega
theorem sq_bd {l : Bs} {f : Int} (h : timeB l = true) (h0 : 0 ≤ f) (h59 : f ≤ 59) : ∀ m, m ≤ 3 → 0 ≤ sq l f m ∧ sq l f m ≤ 1000000 := fun m hm => by
  have a := secP_bd h h0 h59 0
  have b := secP_bd h h0 h59 2
  have c := secP_bd h h0 h59 4
  have hc : m = 0 ∨ m = 1 ∨ m = 2 ∨ m = 3 := by omega
  rcases hc with rfl | rfl | rfl | rfl <;> simp [sq] <;> omega
theorem seconds_any (s : ByteArray) (f : Int) (w : World) (h : Hid (timeB s.data.toList = true)) (h0 : 0 ≤ f) (h59 : f ≤ 59) :
    Calls Tryz.prog 147 #[.string s, .int .i64 f] w fun e w' => e = .returned (.int .i64 (sq s.data.toList f 3)) ∧ w' = w := by
  obtain ⟨hl, hd, _, _, _⟩ := time_facts h.out
  rw [len_list] at hl
  have HD := hid hd
  have hsz : s.size ≤ 6 := by omega
  have hev : s.size % 2 = 0 := by omega
  clear hl hd
  go_enter Tryz.func147, Tryz.ntmps147
  go_wp2
  go_loop [5, 6] (fun x y => ∃ m : Nat, m ≤ 3 ∧ x = .int .i64 (sq s.data.toList f m) ∧ y = .int .i64 ((2 * m : Nat) : Int)) (fun _ y => 6 - (intOf y).toNat)
  case atStart => exact ⟨0, by omega, rfl, rfl⟩
  case round =>
    obtain ⟨m, hm, rfl, rfl⟩ := hrel
    have b1 := sq_bd h.out h0 h59 m hm
    by_cases hlt : m < 3
    · have b2 := secP_bd h.out h0 h59 (2 * m)
      have hs3 : Hid (sq s.data.toList f (m + 1) = sq s.data.toList f m * 60 + secP s.data.toList (2 * m) f) := rfl
      generalize sq s.data.toList f m = q at b1 hs3
      by_cases hin : 2 * m < s.size
      · have hp : Hid (rdig ((s.data.toList.drop (2 * m)).take 2) = secP s.data.toList (2 * m) f) := by
          unfold Hid secP rdig
          rw [if_pos ⟨by simp; omega, by simp; omega, digits_take _ _ (digits_drop _ _ HD.out)⟩, if_pos (by rw [len_list]; exact hin)]
        generalize secP s.data.toList (2 * m) f = d at b2 hs3 hp
        go_wp2_with fail
        go_at_call 145; refine (rsub s _ _ _ (by omega)).mono ?_; rintro e w1 ⟨rfl, rfl⟩
        rw [show 2 * m + 2 - 2 * m = 2 by omega, hp.out]
        go_wp2
        go_round
        case rel => exact ⟨m + 1, by omega, by rw [hs3.out], by go_num⟩
        case measure => simp [intOf]; omega
      · have hp : Hid (secP s.data.toList (2 * m) f = f) := by unfold Hid secP; rw [if_neg (by rw [len_list]; exact hin)]
        go_wp2
        go_round
        case rel => exact ⟨m + 1, by omega, by rw [hs3.out, hp.out], by go_num⟩
        case measure => simp [intOf]; omega
    · obtain rfl : m = 3 := by omega
      go_wp2
      go_ret
      exact ⟨rfl, rfl⟩

/-- What span answers, where it is a range that nothing is wrong with. -/
def spanV (k a b v : Bs) : Bool :=
  if v = [] then false else if k = [68, 65] then (decide (a = []) || decide (rdig a ≤ rdig v)) && (decide (b = []) || decide (rdig v ≤ rdig b))
  else (decide (a = []) || decide (sq a 0 3 ≤ sq v 0 3)) && (decide (b = []) || decide (sq v 0 3 ≤ sq b 59 3))
theorem span_fits {k p a b v : Bs} (hk : DT k) (h : spl 45 p = [a, b]) (ha : a = [] ∨ rval k a = true) (hb : b = [] ∨ rval k b = true) (hv : v = [] ∨ rval k v = true) : fitsB k p v = spanV k a b v := by
  by_cases hv0 : v = []
  · subst hv0; rw [fits_empty hk]; rfl
  · have hv' := hv.resolve_left hv0
    unfold spanV
    rw [if_neg hv0]
    rcases hk with rfl | rfl
    · rw [fits_two_date h hv0, if_pos rfl]
      have dv : dateB v = true := hv'
      unfold withinB
      congr 1
      · rcases ha with ha | ha
        · subst ha; rw [leB_nil v hv0]; simp
        · have da : dateB a = true := ha
          have hne : ¬ a = [] := fun e => by subst e; revert da; decide
          rw [le_date da dv, decide_eq_false hne]; rfl
      · rcases hb with hb | hb
        · subst hb; simp
        · have db : dateB b = true := hb
          have hne : ¬ b = [] := fun e => by subst e; revert db; decide
          rw [le_date dv db, decide_eq_false hne]
    · rw [fits_two_time h hv0, if_neg (by decide)]
      have tv : timeB v = true := hv'
      unfold withinB
      have nv := filled_ne tv (m := [48, 48]) (f := 0) rfl (by decide) (by decide) (by decide) (by decide)
      congr 1
      · rcases ha with ha | ha
        · subst ha; rw [filled_nil, leB_nil _ nv]; simp
        · have ta : timeB a = true := ha
          have hne : ¬ a = [] := fun e => by subst e; revert ta; decide
          rw [le_time ta tv (f := 0) (f' := 0) rfl (by decide) (by decide) (by decide) (by decide) rfl (by decide) (by decide) (by decide) (by decide), decide_eq_false hne]; rfl
      · rcases hb with hb | hb
        · subst hb; rw [filled_nil]; simp
        · have tb : timeB b = true := hb
          have hne : ¬ b = [] := fun e => by subst e; revert tb; decide
          have nb' := filled_ne tb (m := [53, 57]) (f := 59) rfl (by decide) (by decide) (by decide) (by decide)
          rw [le_time tv tb (f := 0) (f' := 59) rfl (by decide) (by decide) (by decide) (by decide) rfl (by decide) (by decide) (by decide) (by decide), decide_eq_false hne, decide_eq_false nb']
theorem len_two {zs : List ByteArray} (h : zs.length = 2) : ∃ x y, zs = [x, y] := by
  match zs, h with
  | [x, y], _ => exact ⟨x, y, rfl⟩
set_option maxHeartbeats 4000000 in
theorem rspan_any (k p v : ByteArray) (w : World) (hk : Hid (DT k.data.toList)) (hp : p.size < 4294967281) (hvs : v.size < 4294967281) (hs : Hid (rval k.data.toList p.data.toList = false)) (hv : Hid (v.data.toList = [] ∨ rval k.data.toList v.data.toList = true)) :
    Calls Tryz.prog 88 #[.string k, .string p, .string v] w fun e w' => e = .returned (.tuple #[.bool (isPatB k.data.toList p.data.toList && fitsB k.data.toList p.data.toList v.data.toList), .bool (isPatB k.data.toList p.data.toList)]) ∧ Up w w' := by
  go_enter Tryz.func88, Tryz.ntmps88
  go_wp2_with fail
  go_at_call 87; refine (parts_any p 45 _ _ rfl hp).mono ?_; rintro e w1 ⟨b, cap, zs, rfl, hz, hzl, hcell, hup⟩
  have U1 := hid hup
  clear hup
  by_cases h2 : zs.length = 2
  · obtain ⟨x, y, rfl⟩ := len_two h2
    have c0 : w1.cell? ⟨b, 0, none⟩ = some (.string x) := hcell.out 0 (by simp)
    have c1 : w1.cell? ⟨b, 1, none⟩ = some (.string y) := hcell.out 1 (by simp)
    have hspl : Hid (spl 45 p.data.toList = [x.data.toList, y.data.toList]) := hz.out.symm
    have hxs : x.size < 4294967281 := by have := part_size hz.out (j := 0) (by simp); rw [len_list] at this; exact Nat.lt_of_le_of_lt this hp
    have hys : y.size < 4294967281 := by have := part_size hz.out (j := 1) (by simp); rw [len_list] at this; exact Nat.lt_of_le_of_lt this hp
    have hP := hid (pat_two hk.out hspl.out)
    clear hz hcell hzl h2
    simp only [List.length_cons, List.length_nil, Nat.reduceAdd]
    by_cases hboth : x.toList = [] ∧ y.toList = []
    · obtain ⟨hx, hy⟩ := hboth
      have hF : Hid (isPatB k.data.toList p.data.toList = false) := by
        unfold Hid
        rw [hP.out, ← Lib.toList_data x, ← Lib.toList_data y, hx, hy]; rfl
      go_wp2
      go_ret2
      exact ⟨by rw [hF.out]; rfl, U1.out⟩
    · have hB : Hid ((decide (x.data.toList = []) && decide (y.data.toList = [])) = false) := by
        unfold Hid; rw [← Lib.toList_data x, ← Lib.toList_data y]; simpa using hboth
      have hway : (¬ x.toList = []) ∨ (x.toList = [] ∧ ¬ y.toList = []) := by
        by_cases hx : x.toList = []
        · exact Or.inr ⟨hx, fun hy => hboth ⟨hx, hy⟩⟩
        · exact Or.inl hx
      have hgo : ∀ (Q : Prop), ((x.toList.isEmpty = false) → Q) → ((x.toList = [] ∧ y.toList.isEmpty = false) → Q) → Q := fun Q f g => by
        rcases hway with h | ⟨h1, h2⟩
        · exact f (by simpa using h)
        · exact g ⟨h1, by simpa using h2⟩
      have HGO := hid hgo
      clear hboth hway hgo
      apply HGO.out
      all_goals intro hfirst
      all_goals
        go_wp2_with fail
        clear hfirst HGO
        go_loopw [9] (fun z ws => ∃ m : Nat, m ≤ 2 ∧ z = .int .i64 m ∧ Hid (0 < m → (x.data.toList = [] ∨ rval k.data.toList x.data.toList = true)) ∧ Hid (1 < m → (y.data.toList = [] ∨ rval k.data.toList y.data.toList = true)) ∧ Hid (Up w1 ws)) (fun z _ => 2 - (intOf z).toNat)
        case atStart => exact ⟨0, by omega, rfl, fun h => absurd h (by omega), fun h => absurd h (by omega), Up.refl _⟩
        case round =>
          obtain ⟨m, hm, rfl, ox, oy, U⟩ := hrel
          have hm3 : m = 0 ∨ m = 1 ∨ m = 2 := by omega
          clear hm
          rcases hm3 with rfl | rfl | rfl
          · have d0 := U.out.cell c0
            by_cases he : x.toList = []
            · have O : Hid (x.data.toList = [] ∨ rval k.data.toList x.data.toList = true) := Or.inl (by rw [← Lib.toList_data]; exact he)
              go_wp2
              go_roundw
              case rel => exact ⟨1, by omega, by go_num, fun _ => O.out, fun h => absurd h (by omega), U⟩
              case measure => simp [intOf]
            · have h0 : 0 < x.size := by
                rcases Nat.eq_zero_or_pos x.size with h | h
                · exact absurd (by rw [Lib.toList_data]; exact List.eq_nil_of_length_eq_zero (by rw [len_list]; exact h)) he
                · exact h
              have hie : x.toList.isEmpty = false := by simpa using he
              have HE := hid he
              clear he
              go_wp2_with fail
              go_at_call 43; refine (rvalue_any _ _ _ hxs h0).mono ?_; rintro e w2 ⟨rfl, u2⟩
              have U2 := hid (U.out.trans u2)
              clear u2
              cases hr : rval k.data.toList x.data.toList
              · have hF : Hid (isPatB k.data.toList p.data.toList = false) := by
                  unfold Hid
                  rw [hP.out, hr, decide_eq_false (fun e => HE.out (by rw [Lib.toList_data]; exact e) : ¬ x.data.toList = [])]; simp
                go_wp2
                go_ret2
                exact ⟨by rw [hF.out]; rfl, U1.out.trans U2.out⟩
              · have O : Hid (x.data.toList = [] ∨ rval k.data.toList x.data.toList = true) := Or.inr hr
                go_wp2_with fail
                go_roundw
                case rel => exact ⟨1, by omega, by go_num, fun _ => O.out, fun h => absurd h (by omega), U2⟩
                case measure => simp [intOf]
          · have d1 := U.out.cell c1
            by_cases he : y.toList = []
            · have O : Hid (y.data.toList = [] ∨ rval k.data.toList y.data.toList = true) := Or.inl (by rw [← Lib.toList_data]; exact he)
              go_wp2
              go_roundw
              case rel => exact ⟨2, by omega, by go_num, fun _ => ox.out (by omega), fun _ => O.out, U⟩
              case measure => simp [intOf]
            · have h0 : 0 < y.size := by
                rcases Nat.eq_zero_or_pos y.size with h | h
                · exact absurd (by rw [Lib.toList_data]; exact List.eq_nil_of_length_eq_zero (by rw [len_list]; exact h)) he
                · exact h
              have hie : y.toList.isEmpty = false := by simpa using he
              have HE := hid he
              clear he
              go_wp2_with fail
              go_at_call 43; refine (rvalue_any _ _ _ hys h0).mono ?_; rintro e w2 ⟨rfl, u2⟩
              have U2 := hid (U.out.trans u2)
              clear u2
              cases hr : rval k.data.toList y.data.toList
              · have hF : Hid (isPatB k.data.toList p.data.toList = false) := by
                  unfold Hid
                  rw [hP.out, hr, decide_eq_false (fun e => HE.out (by rw [Lib.toList_data]; exact e) : ¬ y.data.toList = [])]; simp
                go_wp2
                go_ret2
                exact ⟨by rw [hF.out]; rfl, U1.out.trans U2.out⟩
              · have O : Hid (y.data.toList = [] ∨ rval k.data.toList y.data.toList = true) := Or.inr hr
                go_wp2_with fail
                go_roundw
                case rel => exact ⟨2, by omega, by go_num, fun _ => ox.out (by omega), fun _ => O.out, U2⟩
                case measure => simp [intOf]
          · have d0 := U.out.cell c0
            have d1 := U.out.cell c1
            have OX := hid (ox.out (by omega))
            have OY := hid (oy.out (by omega))
            have hT : Hid (isPatB k.data.toList p.data.toList = true) := by
              unfold Hid
              have q1 : (decide (x.data.toList = []) || rval k.data.toList x.data.toList) = true := by simpa using OX.out
              have q2 : (decide (y.data.toList = []) || rval k.data.toList y.data.toList) = true := by simpa using OY.out
              rw [hP.out, hB.out, q1, q2]; rfl
            have hV : Hid (fitsB k.data.toList p.data.toList v.data.toList = spanV k.data.toList x.data.toList y.data.toList v.data.toList) := span_fits hk.out hspl.out OX.out OY.out hv.out
            by_cases hve : v.toList = []
            · have hf : Hid (spanV k.data.toList x.data.toList y.data.toList v.data.toList = false) := by
                unfold Hid spanV; rw [if_pos (by rw [← Lib.toList_data]; exact hve)]
              go_wp2
              go_ret2
              exact ⟨by rw [hT.out, hV.out, hf.out]; rfl, U1.out.trans U.out⟩
            · have hvie : v.toList.isEmpty = false := by simpa using hve
              have hvn : Hid (¬ v.data.toList = []) := by rw [Lib.toList_data] at hve; exact hve
              have hvr := hid (hv.out.resolve_left hvn.out)
              clear hve
              rcases hk.out with hkd | hkt
              · have hk1 : k.toList = [68, 65] := by rw [Lib.toList_data]; exact hkd
                have hf : Hid (spanV k.data.toList x.data.toList y.data.toList v.data.toList = ((decide (x.data.toList = []) || decide (rdig x.data.toList ≤ rdig v.data.toList)) && (decide (y.data.toList = []) || decide (rdig v.data.toList ≤ rdig y.data.toList)))) := by
                  unfold Hid spanV; rw [if_neg hvn.out, if_pos hkd]
                clear hkd
                by_cases hx : x.toList = []
                all_goals
                  by_cases hy : y.toList = []
                all_goals
                  by_cases hxv : rdig x.data.toList ≤ rdig v.data.toList
                all_goals
                  have ex : decide (x.data.toList = []) = decide (x.toList = []) := by rw [Lib.toList_data]
                  have ey : decide (y.data.toList = []) = decide (y.toList = []) := by rw [Lib.toList_data]
                  have EX := hid ex
                  have EY := hid ey
                  clear ex ey
                  have hxi : x.toList.isEmpty = decide (x.toList = []) := isEmpty_dec _
                  have hyi : y.toList.isEmpty = decide (y.toList = []) := isEmpty_dec _
                  simp only [hx, hy, decide_true, decide_false] at hxi hyi
                  go_wp2_with (go_at_call 145; refine (rdigits_any _ _ (by omega)).mono ?_; rintro e w' ⟨rfl, rfl⟩)
                  go_ret2
                  refine ⟨?_, U1.out.trans U.out⟩
                  rw [hT.out, hV.out, hf.out, EX.out, EY.out]
                  simp [hx, hy] <;> (intros; omega)
              · have hk1 : k.toList = [84, 77] := by rw [Lib.toList_data]; exact hkt
                have hf : Hid (spanV k.data.toList x.data.toList y.data.toList v.data.toList = ((decide (x.data.toList = []) || decide (sq x.data.toList 0 3 ≤ sq v.data.toList 0 3)) && (decide (y.data.toList = []) || decide (sq v.data.toList 0 3 ≤ sq y.data.toList 59 3)))) := by
                  unfold Hid spanV; rw [if_neg hvn.out, if_neg (by rw [hkt]; decide)]
                have tv : Hid (timeB v.data.toList = true) := by have := hvr.out; rw [hkt] at this; exact this
                have tx : Hid (¬ x.toList = [] → timeB x.data.toList = true) := fun hn => by
                  have := OX.out.resolve_left (fun e => hn (by rw [Lib.toList_data]; exact e)); rw [hkt] at this; exact this
                have ty : Hid (¬ y.toList = [] → timeB y.data.toList = true) := fun hn => by
                  have := OY.out.resolve_left (fun e => hn (by rw [Lib.toList_data]; exact e)); rw [hkt] at this; exact this
                clear hkt
                by_cases hx : x.toList = []
                all_goals
                  by_cases hy : y.toList = []
                all_goals
                  by_cases hxv : sq x.data.toList 0 3 ≤ sq v.data.toList 0 3
                all_goals
                  have ex : decide (x.data.toList = []) = decide (x.toList = []) := by rw [Lib.toList_data]
                  have ey : decide (y.data.toList = []) = decide (y.toList = []) := by rw [Lib.toList_data]
                  have EX := hid ex
                  have EY := hid ey
                  clear ex ey
                  have hxi : x.toList.isEmpty = decide (x.toList = []) := isEmpty_dec _
                  have hyi : y.toList.isEmpty = decide (y.toList = []) := isEmpty_dec _
                  simp only [hx, hy, decide_true, decide_false] at hxi hyi
                  have HX := hid hx
                  have HY := hid hy
                  go_wp2_with (go_at_call 147; refine (seconds_any _ _ _ (by first | exact tv | exact tx.out HX.out | exact ty.out HY.out) (by omega) (by omega)).mono ?_; rintro e w' ⟨rfl, rfl⟩)
                  go_ret2
                  refine ⟨?_, U1.out.trans U.out⟩
                  rw [hT.out, hV.out, hf.out, EX.out, EY.out]
                  simp [hx, hy] <;> (intros; omega)
  · have hF : Hid (isPatB k.data.toList p.data.toList = false) := pat_no hk.out hs.out (by rw [← hz.out, List.length_map]; exact h2)
    have h2' : ((zs.length : Int) != 2) = true := by simp; omega
    go_wp2
    go_ret2
    exact ⟨by rw [hF.out]; rfl, U1.out⟩
end Go.Proofs.YtaokifbpakbgdaaGreatDoor
