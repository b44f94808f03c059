/-
  Several texts in one; what each one has stands at its head.
-/
import Derived.Test.YtaokifbpakbgdaaGreatDoorPut18
import Derived.ChangeMaps5
import Derived.Test.YtaokifbpakbgdaaGreatDoorPut17
import Derived.Test.YtaokifbpakbgdaaGreatDoorPut9
import Derived.Test.YtaokifbpakbgdaaGreatDoorPut3
/- The document's answer (package folioref), eighth part: seconds, starts, span. -/
namespace Go.Proofs.YtaokifbpakbgdaaGreatDoor
open Go.RowKit

theorem starts_any (s t : ByteArray) (w : World) :
    Calls Tryz.prog 89 #[.string s, .string t] w fun e w' => e = .returned (.bool (Lib.hasPrefix s.data.toList t.data.toList)) ∧ w' = w := by
  by_cases h : t.size ≤ s.size
  · have R : Hid (Lib.hasPrefix s.data.toList t.data.toList = ((s.extract 0 t.size).toList == t.toList)) := by
      unfold Hid
      rw [Lib.toList_data, Lib.toList_data, sub_data, List.drop_zero, Nat.sub_zero, Bool.eq_iff_iff, beq_iff_eq]
      unfold Lib.hasPrefix
      rw [List.isPrefixOf_iff_prefix, List.prefix_iff_eq_take, len_list]
      exact eq_comm
    go_enter Tryz.func89, Tryz.ntmps89
    go_wp2
    go_ret
    exact ⟨vret_bool R.out.symm, rfl⟩
  · have R : Hid (Lib.hasPrefix s.data.toList t.data.toList = false) := by
      unfold Hid Lib.hasPrefix
      rw [Bool.eq_false_iff, ne_eq, List.isPrefixOf_iff_prefix]
      intro hp
      have := hp.length_le
      rw [len_list, len_list] at this
      omega
    go_enter Tryz.func89, Tryz.ntmps89
    go_wp2
    go_ret
    exact ⟨vret_bool R.out.symm, rfl⟩
theorem secP_bd {l : Bs} {f : Int} (h : timeB l = true) (h0 : 0 ≤ f) (h59 : f ≤ 59) (j : Nat) : 0 ≤ secP l j f ∧ secP l j f ≤ 99 := by
  obtain ⟨hl, hd, _, _, _⟩ := time_facts h
  unfold secP
  split
  · have := num_lt _ (digits_take _ 2 (digits_drop l j hd)) 2 (by simp; omega) 100 rfl
    omega
  · omega
theorem sq_bd {l : Bs} {f : Int} (h : timeB l = true) (h0 : 0 ≤ f) (h59 : f ≤ 59) : ∀ m, m ≤ 3 → 0 ≤ sq l f m ∧ sq l f m ≤ 1000000 := fun m hm => by
  have a := secP_bd h h0 h59 0
  have b := secP_bd h h0 h59 2
  have c := secP_bd h h0 h59 4
  have hc : m = 0 ∨ m = 1 ∨ m = 2 ∨ m = 3 := by omega
  rcases hc with rfl | rfl | rfl | rfl <;> simp [sq] <;> omega
theorem seconds_any (s : ByteArray) (f : Int) (w : World) (h : Hid (timeB s.data.toList = true)) (h0 : 0 ≤ f) (h59 : f ≤ 59) :
    Calls Tryz.prog 147 #[.string s, .int .i64 f] w fun e w' => e = .returned (.int .i64 (sq s.data.toList f 3)) ∧ w' = w := by
  obtain ⟨hl, hd, _, _, _⟩ := time_facts h.out
  rw [len_list] at hl
  have HD := hid hd
  have hsz : s.size ≤ 6 := by omega
  have hev : s.size % 2 = 0 := by omega
  clear hl hd
  go_enter Tryz.func147, Tryz.ntmps147
  go_wp2
  go_loop [5, 6] (fun x y => ∃ m : Nat, m ≤ 3 ∧ x = .int .i64 (sq s.data.toList f m) ∧ y = .int .i64 ((2 * m : Nat) : Int)) (fun _ y => 6 - (intOf y).toNat)
  case atStart => exact ⟨0, by omega, rfl, rfl⟩
  case round =>
    obtain ⟨m, hm, rfl, rfl⟩ := hrel
    have b1 := sq_bd h.out h0 h59 m hm
    by_cases hlt : m < 3
    · have b2 := secP_bd h.out h0 h59 (2 * m)
      have hs3 : Hid (sq s.data.toList f (m + 1) = sq s.data.toList f m * 60 + secP s.data.toList (2 * m) f) := rfl
      generalize sq s.data.toList f m = q at b1 hs3
      by_cases hin : 2 * m < s.size
      · have hp : Hid (rdig ((s.data.toList.drop (2 * m)).take 2) = secP s.data.toList (2 * m) f) := by
          unfold Hid secP rdig
          rw [if_pos ⟨by simp; omega, by simp; omega, digits_take _ _ (digits_drop _ _ HD.out)⟩, if_pos (by rw [len_list]; exact hin)]
        generalize secP s.data.toList (2 * m) f = d at b2 hs3 hp
        go_wp2_with fail
        go_at_call 145; refine (rsub s _ _ _ (by omega)).mono ?_; rintro e w1 ⟨rfl, rfl⟩
        rw [show 2 * m + 2 - 2 * m = 2 by omega, hp.out]
        go_wp2
        go_round
        case rel => exact ⟨m + 1, by omega, by rw [hs3.out], by go_num⟩
        case measure => simp [intOf]; omega
      · have hp : Hid (secP s.data.toList (2 * m) f = f) := by unfold Hid secP; rw [if_neg (by rw [len_list]; exact hin)]
        go_wp2
        go_round
        case rel => exact ⟨m + 1, by omega, by rw [hs3.out, hp.out], by go_num⟩
        case measure => simp [intOf]; omega
    · obtain rfl : m = 3 := by omega
      go_wp2
      go_ret
      exact ⟨rfl, rfl⟩

/-- What span answers, where it is a range that nothing is wrong with. -/
def spanV (k a b v : Bs) : Bool :=
  if v = [] then false else if k = [68, 65] then (decide (a = []) || decide (rdig a ≤ rdig v)) && (decide (b = []) || decide (rdig v ≤ rdig b))
  else (decide (a = []) || decide (sq a 0 3 ≤ sq v 0 3)) && (decide (b = []) || decide (sq v 0 3 ≤ sq b 59 3))
theorem span_fits {k p a b v : Bs} (hk : DT k) (h : spl 45 p = [a, b]) (ha : a = [] ∨ rval k a = true) (hb : b = [] ∨ rval k b = true) (hv : v = [] ∨ rval k v = true) : fitsB k p v = spanV k a b v := by
  by_cases hv0 : v = []
  · subst hv0; rw [fits_empty hk]; rfl
  · have hv' := hv.resolve_left hv0
    unfold spanV
    rw [if_neg hv0]
    rcases hk with rfl | rfl
    · rw [fits_two_date h hv0, if_pos rfl]
      have dv : dateB v = true := hv'
      unfold withinB
      congr 1
      · rcases ha with ha | ha
        · subst ha; rw [leB_nil v hv0]; simp
        · have da : dateB a = true := ha
          have hne : ¬ a = [] := fun e => by subst e; revert da; decide
          rw [le_date da dv, decide_eq_false hne]; rfl
      · rcases hb with hb | hb
        · subst hb; simp
        · have db : dateB b = true := hb
          have hne : ¬ b = [] := fun e => by subst e; revert db; decide
          rw [le_date dv db, decide_eq_false hne]
    · rw [fits_two_time h hv0, if_neg (by decide)]
      have tv : timeB v = true := hv'
      unfold withinB
      have nv := filled_ne tv (m := [48, 48]) (f := 0) rfl (by decide) (by decide) (by decide) (by decide)
      congr 1
      · rcases ha with ha | ha
        · subst ha; rw [filled_nil, leB_nil _ nv]; simp
        · have ta : timeB a = true := ha
          have hne : ¬ a = [] := fun e => by subst e; revert ta; decide
          rw [le_time ta tv (f := 0) (f' := 0) rfl (by decide) (by decide) (by decide) (by decide) rfl (by decide) (by decide) (by decide) (by decide), decide_eq_false hne]; rfl
      · rcases hb with hb | hb
        · subst hb; rw [filled_nil]; simp
        · have tb : timeB b = true := hb
          have hne : ¬ b = [] := fun e => by subst e; revert tb; decide
          have nb' := filled_ne tb (m := [53, 57]) (f := 59) rfl (by decide) (by decide) (by decide) (by decide)
          rw [le_time tv tb (f := 0) (f' := 59) rfl (by decide) (by decide) (by decide) (by decide) rfl (by decide) (by decide) (by decide) (by decide), decide_eq_false hne, decide_eq_false nb']
theorem len_two {zs : List ByteArray} (h : zs.length = 2) : ∃ x y, zs = [x, y] := by
  match zs, h with
  | [x, y], _ => exact ⟨x, y, rfl⟩
set_option maxHeartbeats 4000000 in
theorem rspan_any (k p v : ByteArray) (w : World) (hk : Hid (DT k.data.toList)) (hp : p.size < 4294967281) (hvs : v.size < 4294967281) (hs : Hid (rval k.data.toList p.data.toList = false)) (hv : Hid (v.data.toList = [] ∨ rval k.data.toList v.data.toList = true)) :
    Calls Tryz.prog 88 #[.string k, .string p, .string v] w fun e w' => e = .returned (.tuple #[.bool (isPatB k.data.toList p.data.toList && fitsB k.data.toList p.data.toList v.data.toList), .bool (isPatB k.data.toList p.data.toList)]) ∧ Up w w' := by
  go_enter Tryz.func88, Tryz.ntmps88
  go_wp2_with fail
  go_at_call 87; refine (parts_any p 45 _ _ rfl hp).mono ?_; rintro e w1 ⟨b, cap, zs, rfl, hz, hzl, hcell, hup⟩
  have U1 := hid hup
  clear hup
  by_cases h2 : zs.length = 2
  · obtain ⟨x, y, rfl⟩ := len_two h2
    have c0 : w1.cell? ⟨b, 0, none⟩ = some (.string x) := hcell.out 0 (by simp)
    have c1 : w1.cell? ⟨b, 1, none⟩ = some (.string y) := hcell.out 1 (by simp)
    have hspl : Hid (spl 45 p.data.toList = [x.data.toList, y.data.toList]) := hz.out.symm
    have hxs : x.size < 4294967281 := by have := part_size hz.out (j := 0) (by simp); rw [len_list] at this; exact Nat.lt_of_le_of_lt this hp
    have hys : y.size < 4294967281 := by have := part_size hz.out (j := 1) (by simp); rw [len_list] at this; exact Nat.lt_of_le_of_lt this hp
    have hP := hid (pat_two hk.out hspl.out)
    clear hz hcell hzl h2
    simp only [List.length_cons, List.length_nil, Nat.reduceAdd]
    by_cases hboth : x.toList = [] ∧ y.toList = []
    · obtain ⟨hx, hy⟩ := hboth
      have hF : Hid (isPatB k.data.toList p.data.toList = false) := by
        unfold Hid
        rw [hP.out, ← Lib.toList_data x, ← Lib.toList_data y, hx, hy]; rfl
      go_wp2
      go_ret2
      exact ⟨by rw [hF.out]; rfl, U1.out⟩
    · have hB : Hid ((decide (x.data.toList = []) && decide (y.data.toList = [])) = false) := by
        unfold Hid; rw [← Lib.toList_data x, ← Lib.toList_data y]; simpa using hboth
      have hway : (¬ x.toList = []) ∨ (x.toList = [] ∧ ¬ y.toList = []) := by
        by_cases hx : x.toList = []
        · exact Or.inr ⟨hx, fun hy => hboth ⟨hx, hy⟩⟩
        · exact Or.inl hx
      have hgo : ∀ (Q : Prop), ((x.toList.isEmpty = false) → Q) → ((x.toList = [] ∧ y.toList.isEmpty = false) → Q) → Q := fun Q f g => by
        rcases hway with h | ⟨h1, h2⟩
        · exact f (by simpa using h)
        · exact g ⟨h1, by simpa using h2⟩
      have HGO := hid hgo
      clear hboth hway hgo
      apply HGO.out
      all_goals intro hfirst
      all_goals
        go_wp2_with fail
        clear hfirst HGO
        go_loopw [9] (fun z ws => ∃ m : Nat, m ≤ 2 ∧ z = .int .i64 m ∧ Hid (0 < m → (x.data.toList = [] ∨ rval k.data.toList x.data.toList = true)) ∧ Hid (1 < m → (y.data.toList = [] ∨ rval k.data.toList y.data.toList = true)) ∧ Hid (Up w1 ws)) (fun z _ => 2 - (intOf z).toNat)
        case atStart => exact ⟨0, by omega, rfl, fun h => absurd h (by omega), fun h => absurd h (by omega), Up.refl _⟩
        case round =>
          obtain ⟨m, hm, rfl, ox, oy, U⟩ := hrel
          have hm3 : m = 0 ∨ m = 1 ∨ m = 2 := by omega
          clear hm
          rcases hm3 with rfl | rfl | rfl
          · have d0 := U.out.cell c0
            by_cases he : x.toList = []
            · have O : Hid (x.data.toList = [] ∨ rval k.data.toList x.data.toList = true) := Or.inl (by rw [← Lib.toList_data]; exact he)
              go_wp2
              go_roundw
              case rel => exact ⟨1, by omega, by go_num, fun _ => O.out, fun h => absurd h (by omega), U⟩
              case measure => simp [intOf]
            · have h0 : 0 < x.size := by
                rcases Nat.eq_zero_or_pos x.size with h | h
                · exact absurd (by rw [Lib.toList_data]; exact List.eq_nil_of_length_eq_zero (by rw [len_list]; exact h)) he
                · exact h
              have hie : x.toList.isEmpty = false := by simpa using he
              have HE := hid he
              clear he
              go_wp2_with fail
              go_at_call 43; refine (rvalue_any _ _ _ hxs h0).mono ?_; rintro e w2 ⟨rfl, u2⟩
              have U2 := hid (U.out.trans u2)
              clear u2
              cases hr : rval k.data.toList x.data.toList
              · have hF : Hid (isPatB k.data.toList p.data.toList = false) := by
                  unfold Hid
                  rw [hP.out, hr, decide_eq_false (fun e => HE.out (by rw [Lib.toList_data]; exact e) : ¬ x.data.toList = [])]; simp
                go_wp2
                go_ret2
                exact ⟨by rw [hF.out]; rfl, U1.out.trans U2.out⟩
              · have O : Hid (x.data.toList = [] ∨ rval k.data.toList x.data.toList = true) := Or.inr hr
                go_wp2_with fail
                go_roundw
                case rel => exact ⟨1, by omega, by go_num, fun _ => O.out, fun h => absurd h (by omega), U2⟩
                case measure => simp [intOf]
          · have d1 := U.out.cell c1
            by_cases he : y.toList = []
            · have O : Hid (y.data.toList = [] ∨ rval k.data.toList y.data.toList = true) := Or.inl (by rw [← Lib.toList_data]; exact he)
              go_wp2
              go_roundw
              case rel => exact ⟨2, by omega, by go_num, fun _ => ox.out (by omega), fun _ => O.out, U⟩
              case measure => simp [intOf]
            · have h0 : 0 < y.size := by
                rcases Nat.eq_zero_or_pos y.size with h | h
                · exact absurd (by rw [Lib.toList_data]; exact List.eq_nil_of_length_eq_zero (by rw [len_list]; exact h)) he
                · exact h
              have hie : y.toList.isEmpty = false := by simpa using he
              have HE := hid he
              clear he
              go_wp2_with fail
              go_at_call 43; refine (rvalue_any _ _ _ hys h0).mono ?_; rintro e w2 ⟨rfl, u2⟩
              have U2 := hid (U.out.trans u2)
              clear u2
              cases hr : rval k.data.toList y.data.toList
              · have hF : Hid (isPatB k.data.toList p.data.toList = false) := by
                  unfold Hid
                  rw [hP.out, hr, decide_eq_false (fun e => HE.out (by rw [Lib.toList_data]; exact e) : ¬ y.data.toList = [])]; simp
                go_wp2
                go_ret2
                exact ⟨by rw [hF.out]; rfl, U1.out.trans U2.out⟩
              · have O : Hid (y.data.toList = [] ∨ rval k.data.toList y.data.toList = true) := Or.inr hr
                go_wp2_with fail
                go_roundw
                case rel => exact ⟨2, by omega, by go_num, fun _ => ox.out (by omega), fun _ => O.out, U2⟩
                case measure => simp [intOf]
          · have d0 := U.out.cell c0
            have d1 := U.out.cell c1
            have OX := hid (ox.out (by omega))
            have OY := hid (oy.out (by omega))
            have hT : Hid (isPatB k.data.toList p.data.toList = true) := by
              unfold Hid
              have q1 : (decide (x.data.toList = []) || rval k.data.toList x.data.toList) = true := by simpa using OX.out
              have q2 : (decide (y.data.toList = []) || rval k.data.toList y.data.toList) = true := by simpa using OY.out
              rw [hP.out, hB.out, q1, q2]; rfl
            have hV : Hid (fitsB k.data.toList p.data.toList v.data.toList = spanV k.data.toList x.data.toList y.data.toList v.data.toList) := span_fits hk.out hspl.out OX.out OY.out hv.out
            by_cases hve : v.toList = []
            · have hf : Hid (spanV k.data.toList x.data.toList y.data.toList v.data.toList = false) := by
                unfold Hid spanV; rw [if_pos (by rw [← Lib.toList_data]; exact hve)]
              go_wp2
              go_ret2
              exact ⟨by rw [hT.out, hV.out, hf.out]; rfl, U1.out.trans U.out⟩
            · have hvie : v.toList.isEmpty = false := by simpa using hve
              have hvn : Hid (¬ v.data.toList = []) := by rw [Lib.toList_data] at hve; exact hve
              have hvr := hid (hv.out.resolve_left hvn.out)
              clear hve
              rcases hk.out with hkd | hkt
              · have hk1 : k.toList = [68, 65] := by rw [Lib.toList_data]; exact hkd
                have hf : Hid (spanV k.data.toList x.data.toList y.data.toList v.data.toList = ((decide (x.data.toList = []) || decide (rdig x.data.toList ≤ rdig v.data.toList)) && (decide (y.data.toList = []) || decide (rdig v.data.toList ≤ rdig y.data.toList)))) := by
                  unfold Hid spanV; rw [if_neg hvn.out, if_pos hkd]
                clear hkd
                by_cases hx : x.toList = []
                all_goals
                  by_cases hy : y.toList = []
                all_goals
                  by_cases hxv : rdig x.data.toList ≤ rdig v.data.toList
                all_goals
                  have ex : decide (x.data.toList = []) = decide (x.toList = []) := by rw [Lib.toList_data]
                  have ey : decide (y.data.toList = []) = decide (y.toList = []) := by rw [Lib.toList_data]
                  have EX := hid ex
                  have EY := hid ey
                  clear ex ey
                  have hxi : x.toList.isEmpty = decide (x.toList = []) := isEmpty_dec _
                  have hyi : y.toList.isEmpty = decide (y.toList = []) := isEmpty_dec _
                  simp only [hx, hy, decide_true, decide_false] at hxi hyi
                  go_wp2_with (go_at_call 145; refine (rdigits_any _ _ (by omega)).mono ?_; rintro e w' ⟨rfl, rfl⟩)
                  go_ret2
                  refine ⟨?_, U1.out.trans U.out⟩
                  rw [hT.out, hV.out, hf.out, EX.out, EY.out]
                  simp [hx, hy] <;> (intros; omega)
              · have hk1 : k.toList = [84, 77] := by rw [Lib.toList_data]; exact hkt
                have hf : Hid (spanV k.data.toList x.data.toList y.data.toList v.data.toList = ((decide (x.data.toList = []) || decide (sq x.data.toList 0 3 ≤ sq v.data.toList 0 3)) && (decide (y.data.toList = []) || decide (sq v.data.toList 0 3 ≤ sq y.data.toList 59 3)))) := by
                  unfold Hid spanV; rw [if_neg hvn.out, if_neg (by rw [hkt]; decide)]
                have tv : Hid (timeB v.data.toList = true) := by have := hvr.out; rw [hkt] at this; exact this
                have tx : Hid (¬ x.toList = [] → timeB x.data.toList = true) := fun hn => by
                  have := OX.out.resolve_left (fun e => hn (by rw [Lib.toList_data]; exact e)); rw [hkt] at this; exact this
                have ty : Hid (¬ y.toList = [] → timeB y.data.toList = true) := fun hn => by
                  have := OY.out.resolve_left (fun e => hn (by rw [Lib.toList_data]; exact e)); rw [hkt] at this; exact this
                clear hkt
                by_cases hx : x.toList = []
                all_goals
                  by_cases hy : y.toList = []
                all_goals
                  by_cases hxv : sq x.data.toList 0 3 ≤ sq v.data.toList 0 3
                all_goals
                  have ex : decide (x.data.toList = []) = decide (x.toList = []) := by rw [Lib.toList_data]
                  have ey : decide (y.data.toList = []) = decide (y.toList = []) := by rw [Lib.toList_data]
                  have EX := hid ex
                  have EY := hid ey
                  clear ex ey
                  have hxi : x.toList.isEmpty = decide (x.toList = []) := isEmpty_dec _
                  have hyi : y.toList.isEmpty = decide (y.toList = []) := isEmpty_dec _
                  simp only [hx, hy, decide_true, decide_false] at hxi hyi
                  have HX := hid hx
                  have HY := hid hy
                  go_wp2_with (go_at_call 147; refine (seconds_any _ _ _ (by first | exact tv | exact tx.out HX.out | exact ty.out HY.out) (by omega) (by omega)).mono ?_; rintro e w' ⟨rfl, rfl⟩)
                  go_ret2
                  refine ⟨?_, U1.out.trans U.out⟩
                  rw [hT.out, hV.out, hf.out, EX.out, EY.out]
                  simp [hx, hy] <;> (intros; omega)
  · have hF : Hid (isPatB k.data.toList p.data.toList = false) := pat_no hk.out hs.out (by rw [← hz.out, List.length_map]; exact h2)
    have h2' : ((zs.length : Int) != 2) = true := by simp; omega
    go_wp2
    go_ret2
    exact ⟨by rw [hF.out]; rfl, U1.out⟩
end Go.Proofs.YtaokifbpakbgdaaGreatDoor

/- The document's answer (package folioref), ninth part: fits, Match. -/
namespace Go.Proofs.YtaokifbpakbgdaaGreatDoor
open Go.RowKit

theorem map_fl_true (l : Bs) : l.map (fl true) = Lib.toLowerA l := rfl
theorem map_fl_false (l : Bs) : l.map (fl false) = l := by
  have : fl false = id := rfl
  rw [this, List.map_id]
/-- LO, PN, CS. -/
theorem rfits_text (k p v : ByteArray) (w : World) (hk : Hid (k.data.toList = [76, 79] ∨ k.data.toList = [80, 78] ∨ k.data.toList = [67, 83])) (hp : p.size < 4294967281) (hp0 : 0 < p.size) (hv : v.size < 4294967281) :
    Calls Tryz.prog 44 #[.string k, .string p, .string v] w fun e w' => e = .returned (.tuple #[.bool (isPatB k.data.toList p.data.toList && fitsB k.data.toList p.data.toList v.data.toList), .bool (isPatB k.data.toList p.data.toList)]) ∧ Up w w' := by
  have hI : Hid (isPatB k.data.toList p.data.toList = isTextB p.data.toList) := by unfold Hid isPatB; rw [if_pos hk.out]
  have g1 : (k.toList == [85, 73]) = false := by rw [Lib.toList_data]; rcases hk.out with h | h | h <;> rw [h] <;> rfl
  have g2 : (k.toList == [68, 65]) = false := by rw [Lib.toList_data]; rcases hk.out with h | h | h <;> rw [h] <;> rfl
  have g3 : (k.toList == [84, 77]) = false := by rw [Lib.toList_data]; rcases hk.out with h | h | h <;> rw [h] <;> rfl
  have g4 : (k.toList == [73, 83]) = false := by rw [Lib.toList_data]; rcases hk.out with h | h | h <;> rw [h] <;> rfl
  cases ht : isTextB p.data.toList
  · go_enter Tryz.func44, Tryz.ntmps44
    go_wp2_with fail
    go_at_call 43; refine (rvalue_any _ _ _ hp hp0).mono ?_; rintro e w1 ⟨rfl, u1⟩
    go_wp2_with (go_at_call 90; refine (line_any _ _ (by omega)).mono ?_; rintro e w' ⟨rfl, rfl⟩)
    go_ret2
    exact ⟨by rw [hI.out, ht]; rfl, u1⟩
  · have hF : Hid (∀ fold, (k.toList == [80, 78]) = fold → fitsB k.data.toList p.data.toList v.data.toList = glob (p.data.toList.map (fl fold)) (v.data.toList.map (fl fold))) := fun fold hf => by
      rw [Lib.toList_data] at hf
      rcases hk.out with h | h | h
      · rw [h] at hf ⊢
        obtain rfl : fold = false := hf.symm
        rw [map_fl_false, map_fl_false]; rfl
      · rw [h] at hf ⊢
        obtain rfl : fold = true := hf.symm
        rw [map_fl_true, map_fl_true]; rfl
      · rw [h] at hf ⊢
        obtain rfl : fold = false := hf.symm
        rw [map_fl_false, map_fl_false]; rfl
    cases hfold : (k.toList == [80, 78])
    all_goals
      have hR := hid (hF.out _ hfold)
      go_enter Tryz.func44, Tryz.ntmps44
      go_wp2_with fail
      go_at_call 43; refine (rvalue_any _ _ _ hp hp0).mono ?_; rintro e w1 ⟨rfl, u1⟩
      go_wp2_with (first
        | (go_at_call 90; refine (line_any _ _ (by omega)).mono ?_; rintro e w' ⟨rfl, rfl⟩)
        | (go_at_call 91; refine (rwild_any _ _ _ _ hp hv).mono ?_; rintro e w2 ⟨rfl, u2⟩))
      go_ret2
      exact ⟨by rw [hI.out, ht, hR.out]; rfl, u1.trans u2⟩
theorem pat_single {k p : Bs} (hk : DT k) (h : rval k p = true) : isPatB k p = true := by
  rw [pat_span k p hk]
  exact span_one k p (no_dash p (rval_digits hk h)) ((chkF_rval hk).2 h)
theorem rfits_date (k p v : ByteArray) (w : World) (hk : Hid (k.data.toList = [68, 65])) (hp : p.size < 4294967281) (hp0 : 0 < p.size) (hv : v.size < 4294967281) (hvr : Hid (v.data.toList = [] ∨ rval k.data.toList v.data.toList = true)) :
    Calls Tryz.prog 44 #[.string k, .string p, .string v] w fun e w' => e = .returned (.tuple #[.bool (isPatB k.data.toList p.data.toList && fitsB k.data.toList p.data.toList v.data.toList), .bool (isPatB k.data.toList p.data.toList)]) ∧ Up w w' := by
  have hkl : k.toList = [68, 65] := by rw [Lib.toList_data]; exact hk.out
  have hDT : Hid (DT k.data.toList) := Or.inl hk.out
  have hne : Hid (¬ p.data.toList = []) := fun e => by
    have : p.data.toList.length = 0 := by rw [e]; rfl
    rw [len_list] at this; omega
  cases hs : rval k.data.toList p.data.toList
  · have HS := hid hs
    go_enter Tryz.func44, Tryz.ntmps44
    go_wp2_with fail
    go_at_call 43; refine (rvalue_any _ _ _ hp hp0).mono ?_; rintro e w1 ⟨rfl, u1⟩
    go_wp2_with (go_at_call 88; refine (rspan_any _ _ _ _ hDT hp hv HS hvr).mono ?_; rintro e w2 ⟨rfl, u2⟩)
    go_ret2
    exact ⟨rfl, u1.trans u2⟩
  · have hI : Hid (isPatB k.data.toList p.data.toList = true) := pat_single hDT.out hs
    have hF : Hid (fitsB k.data.toList p.data.toList v.data.toList = (v.toList == p.toList)) := by
      unfold Hid
      rw [Lib.toList_data, Lib.toList_data, hk.out]
      by_cases hv0 : v.data.toList = []
      · rw [hv0, fits_empty (Or.inl rfl)]
        symm
        rw [beq_eq_false_iff_ne]
        exact fun e => hne.out e.symm
      · rw [fits_date _ _ hv0]
        unfold fitsDateB
        rw [cut_miss _ (no_dash _ (rval_digits hDT.out hs))]; rfl
    go_enter Tryz.func44, Tryz.ntmps44
    go_wp2_with fail
    go_at_call 43; refine (rvalue_any _ _ _ hp hp0).mono ?_; rintro e w1 ⟨rfl, u1⟩
    go_wp2_with fail
    go_ret2
    exact ⟨by rw [hI.out, hF.out]; rfl, u1⟩
theorem rfits_time (k p v : ByteArray) (w : World) (hk : Hid (k.data.toList = [84, 77])) (hp : p.size < 4294967281) (hp0 : 0 < p.size) (hv : v.size < 4294967281) (hvr : Hid (v.data.toList = [] ∨ rval k.data.toList v.data.toList = true)) :
    Calls Tryz.prog 44 #[.string k, .string p, .string v] w fun e w' => e = .returned (.tuple #[.bool (isPatB k.data.toList p.data.toList && fitsB k.data.toList p.data.toList v.data.toList), .bool (isPatB k.data.toList p.data.toList)]) ∧ Up w w' := by
  have hkl : k.toList = [84, 77] := by rw [Lib.toList_data]; exact hk.out
  have hDT : Hid (DT k.data.toList) := Or.inr hk.out
  cases hs : rval k.data.toList p.data.toList
  · have HS := hid hs
    go_enter Tryz.func44, Tryz.ntmps44
    go_wp2_with fail
    go_at_call 43; refine (rvalue_any _ _ _ hp hp0).mono ?_; rintro e w1 ⟨rfl, u1⟩
    go_wp2_with (go_at_call 88; refine (rspan_any _ _ _ _ hDT hp hv HS hvr).mono ?_; rintro e w2 ⟨rfl, u2⟩)
    go_ret2
    exact ⟨rfl, u1.trans u2⟩
  · have hI : Hid (isPatB k.data.toList p.data.toList = true) := pat_single hDT.out hs
    by_cases hv0 : v.toList = []
    · have hF : Hid (fitsB k.data.toList p.data.toList v.data.toList = false) := by
        unfold Hid; rw [← Lib.toList_data v, hv0, fits_empty hDT.out]
      go_enter Tryz.func44, Tryz.ntmps44
      go_wp2_with fail
      go_at_call 43; refine (rvalue_any _ _ _ hp hp0).mono ?_; rintro e w1 ⟨rfl, u1⟩
      go_wp2_with fail
      go_ret2
      exact ⟨by rw [hI.out, hF.out]; rfl, u1⟩
    · have hie : v.toList.isEmpty = false := by simpa using hv0
      have hF : Hid (fitsB k.data.toList p.data.toList v.data.toList = (Lib.hasPrefix v.data.toList p.data.toList || Lib.hasPrefix p.data.toList v.data.toList)) := by
        unfold Hid
        rw [hk.out, fits_time _ _ (fun e => hv0 (by rw [Lib.toList_data]; exact e))]
        unfold fitsTimeB
        rw [cut_miss _ (no_dash _ (rval_digits hDT.out hs))]; rfl
      cases h1 : Lib.hasPrefix v.data.toList p.data.toList
      all_goals
        have H1 := hid h1
        go_enter Tryz.func44, Tryz.ntmps44
        go_wp2_with fail
        go_at_call 43; refine (rvalue_any _ _ _ hp hp0).mono ?_; rintro e w1 ⟨rfl, u1⟩
        go_wp2_with (go_at_call 89; refine (starts_any _ _ _).mono ?_; rintro e w2 ⟨rfl, rfl⟩)
        go_ret2
        exact ⟨by rw [hI.out, hF.out, H1.out]; rfl, u1⟩
theorem rfits_num (k p v : ByteArray) (w : World) (hk : Hid (k.data.toList = [73, 83])) (hp : p.size < 4294967281) (hp0 : 0 < p.size) (hv : v.size < 4294967281) (hvr : Hid (v.data.toList = [] ∨ rval k.data.toList v.data.toList = true)) :
    Calls Tryz.prog 44 #[.string k, .string p, .string v] w fun e w' => e = .returned (.tuple #[.bool (isPatB k.data.toList p.data.toList && fitsB k.data.toList p.data.toList v.data.toList), .bool (isPatB k.data.toList p.data.toList)]) ∧ Up w w' := by
  have hkl : k.toList = [73, 83] := by rw [Lib.toList_data]; exact hk.out
  have hI : Hid (isPatB k.data.toList p.data.toList = rnumOk p.data.toList) := by
    unfold Hid
    rw [hk.out]
    show decide (chkF [73, 83] p.data.toList = 0) = _
    rw [show chkF [73, 83] p.data.toList = if isNum p.data.toList then 0 else 6 from rfl, isNum_ok]
    cases rnumOk p.data.toList <;> rfl
  have hF : Hid (rnumOk p.data.toList = true → fitsB k.data.toList p.data.toList v.data.toList = (rnumOk v.data.toList && (rnumV p.data.toList == rnumV v.data.toList))) := fun hop => by
    rw [hk.out]
    by_cases hv0 : v.data.toList = []
    · rw [hv0]; rfl
    · have hvo : rnumOk v.data.toList = true := by
        have := hvr.out.resolve_left hv0
        rw [hk.out] at this; exact this
      unfold fitsB
      rw [if_neg (by decide), if_neg (by decide), if_neg hv0, if_neg (by decide), if_neg (by decide), if_pos rfl]
      unfold sameB
      rw [numB_ref, numB_ref, hop, hvo]
      rw [Bool.true_and, Bool.eq_iff_iff]; simp
  cases ho : rnumOk p.data.toList
  · have HO := hid ho
    go_enter Tryz.func44, Tryz.ntmps44
    go_wp2_with fail
    go_at_call 43; refine (rvalue_any _ _ _ hp hp0).mono ?_; rintro e w1 ⟨rfl, u1⟩
    go_wp2_with (go_at_call 85; refine (rnumber_any _ _ (by omega)).mono ?_; rintro e w2 ⟨rfl, rfl⟩)
    go_ret2
    exact ⟨by rw [hI.out, HO.out]; rfl, u1⟩
  · have HO := hid ho
    have HF := hid (hF.out ho)
    cases hov : rnumOk v.data.toList
    all_goals
      have HV := hid hov
      go_enter Tryz.func44, Tryz.ntmps44
      go_wp2_with fail
      go_at_call 43; refine (rvalue_any _ _ _ hp hp0).mono ?_; rintro e w1 ⟨rfl, u1⟩
      go_wp2_with (go_at_call 85; refine (rnumber_any _ _ (by omega)).mono ?_; rintro e w2 ⟨rfl, rfl⟩)
      go_ret2
      exact ⟨by rw [hI.out, HO.out, HF.out, HV.out]; rfl, u1⟩
end Go.Proofs.YtaokifbpakbgdaaGreatDoor

/- Package folioref: Match. -/
namespace Go.Proofs.YtaokifbpakbgdaaGreatDoor
open Go.ChangeShapes Go.WideShapes Go.ChangeAt Go.RowKit Go.ChangeMaps

/-- Is the text among the first m parts? -/
def inB (zs : List ByteArray) (v : ByteArray) (m : Nat) : Bool := (zs.take m).any fun z => z.toList == v.toList
theorem inB_next {zs : List ByteArray} {v : ByteArray} {m : Nat} (h : m < zs.length) : inB zs v (m + 1) = (inB zs v m || (zs[m].toList == v.toList)) := by
  unfold inB
  rw [List.take_succ_eq_append_getElem h, List.any_append]; simp
set_option maxHeartbeats 1000000 in
theorem rfits_name (k p v : ByteArray) (w : World) (hk : Hid (k.data.toList = [85, 73])) (hp : p.size < 4294967281) (hp0 : 0 < p.size) :
    Calls Tryz.prog 44 #[.string k, .string p, .string v] w fun e w' => e = .returned (.tuple #[.bool (isPatB k.data.toList p.data.toList && fitsB k.data.toList p.data.toList v.data.toList), .bool (isPatB k.data.toList p.data.toList)]) ∧ Up w w' := by
  have hkl : k.toList = [85, 73] := by rw [Lib.toList_data]; exact hk.out
  have hI : Hid (isPatB k.data.toList p.data.toList = (spl 92 p.data.toList).all nameB) := by
    unfold Hid
    rw [hk.out]
    show (spl 92 p.data.toList).all (fun x => decide (chkF [85, 73] x = 0)) = _
    congr 1
    funext x
    rw [show chkF [85, 73] x = if nameB x then 0 else 6 from rfl]
    cases nameB x <;> rfl
  go_enter Tryz.func44, Tryz.ntmps44
  go_wp2_with fail
  go_at_call 43; refine (rvalue_any _ _ _ hp hp0).mono ?_; rintro e w1 ⟨rfl, u1⟩
  go_wp2_with fail
  go_at_call 87; refine (parts_any p 92 _ _ rfl hp).mono ?_; rintro e w2 ⟨b, cap, zs, rfl, hz, hzl, hcell, u2⟩
  have U2 := hid (u1.trans u2)
  clear u1 u2
  go_wp2_with fail
  go_loopw [10, 11] (fun x y ws => ∃ m : Nat, m ≤ zs.length ∧ x = .bool (inB zs v m) ∧ y = .int .i64 m ∧ Hid ((zs.take m).all (fun z => nameB z.data.toList) = true) ∧ Hid (Up w2 ws)) (fun _ y _ => zs.length - (intOf y).toNat)
  case atStart => exact ⟨0, Nat.zero_le _, rfl, rfl, rfl, Up.refl _⟩
  case round =>
    obtain ⟨m, hm, rfl, rfl, ha, U⟩ := hrel
    by_cases hlt : m < zs.length
    · have hc := U.out.cell (hcell.out m hlt)
      have hin : Hid (inB zs v (m + 1) = (inB zs v m || (zs[m].toList == v.toList))) := inB_next hlt
      generalize hzk : zs[m] = z at hc hin
      have hsz : z.size < 4294967281 := by have := part_size hz.out hlt; rw [hzk, len_list] at this; exact Nat.lt_of_le_of_lt this hp
      have HZ := hid hzk
      clear hzk
      go_wp2_with fail
      go_at_call 82; refine (rname_any _ _ hsz).mono ?_; rintro e w3 ⟨rfl, u3⟩
      have hc3 := u3.cell hc
      have U3 := hid (U.out.trans u3)
      clear u3
      cases hn : nameB z.data.toList
      · have hF : Hid ((spl 92 p.data.toList).all nameB = false) := by
          unfold Hid; rw [of_parts hz.out]; exact takeAll_fail (p := fun z => nameB z.data.toList) hlt (by rw [HZ.out]; exact hn)
        go_wp2_with fail
        go_ret2
        exact ⟨by rw [hI.out, hF.out]; rfl, U2.out.trans U3.out⟩
      · have hA : Hid ((zs.take (m + 1)).all (fun z => nameB z.data.toList) = true) := takeAll_next hlt ha.out (by rw [HZ.out]; exact hn)
        cases hi : inB zs v m
        all_goals
          have HI := hid hi
          go_wp2_with fail
          go_roundw
          case rel => exact ⟨m + 1, by omega, by rw [hin.out, HI.out]; rfl, by go_num, hA, U3⟩
          case measure => simp [intOf]; omega
    · have hA : Hid ((spl 92 p.data.toList).all nameB = true) := by unfold Hid; rw [of_parts hz.out]; exact takeAll_end (by omega) ha.out
      have hF : Hid (fitsB k.data.toList p.data.toList v.data.toList = inB zs v m) := by
        unfold Hid inB
        rw [hk.out, List.take_of_length_le (by omega), Bool.eq_iff_iff, List.any_eq_true]
        have key : (∃ z, z ∈ zs ∧ (z.toList == v.toList) = true) ↔ v.data.toList ∈ spl 92 p.data.toList := by
          rw [← hz.out, List.mem_map]
          constructor
          · rintro ⟨z, h1, h2⟩
            rw [beq_iff_eq, Lib.toList_data, Lib.toList_data] at h2
            exact ⟨z, h1, h2⟩
          · rintro ⟨z, h1, h2⟩
            exact ⟨z, h1, by rw [beq_iff_eq, Lib.toList_data, Lib.toList_data]; exact h2⟩
        rw [key]
        by_cases hv0 : v.data.toList = []
        · rw [hv0]
          constructor
          · intro h; cases h
          · intro h
            exact absurd (List.all_eq_true.1 hA.out [] h) (by decide)
        · unfold fitsB
          rw [if_neg (by decide), if_neg (by decide), if_neg hv0, if_neg (by decide), if_neg (by decide), if_neg (by decide), decide_eq_true_eq]
      go_wp2
      go_ret2
      exact ⟨by rw [hI.out, hA.out, hF.out]; rfl, U2.out.trans U.out⟩
theorem rfits_any (k p v : ByteArray) (w : World) (hk : Hid (IsKind k.data.toList)) (hp : p.size < 4294967281) (hp0 : 0 < p.size) (hv : v.size < 4294967281) (hc : Hid (chk k.data.toList v.data.toList = 0)) :
    Calls Tryz.prog 44 #[.string k, .string p, .string v] w fun e w' => e = .returned (.tuple #[.bool (isPatB k.data.toList p.data.toList && fitsB k.data.toList p.data.toList v.data.toList), .bool (isPatB k.data.toList p.data.toList)]) ∧ Up w w' := by
  have hvr : v.data.toList = [] ∨ rval k.data.toList v.data.toList = true := by
    by_cases e : v.data.toList = []
    · exact Or.inl e
    · right
      have h := hc.out
      unfold chk at h
      rw [if_neg (fun c => e c.2), rval_chk _ _ hk.out] at h
      cases hr : rval k.data.toList v.data.toList
      · rw [hr] at h; cases h
      · rfl
  rcases hk.out with h | h | h | h | h | h | h
  · exact rfits_text k p v w (Or.inl h) hp hp0 hv
  · exact rfits_text k p v w (Or.inr (Or.inl h)) hp hp0 hv
  · exact rfits_text k p v w (Or.inr (Or.inr h)) hp hp0 hv
  · exact rfits_name k p v w h hp hp0
  · exact rfits_date k p v w h hp hp0 hv hvr
  · exact rfits_time k p v w h hp hp0 hv hvr
  · exact rfits_num k p v w h hp hp0 hv hvr
theorem rMatch_any (k p v : ByteArray) (w : World) (hp : p.size < 4294967281) (hv : v.size < 4294967281) :
    Calls Tryz.prog 15 #[.string k, .string p, .string v] w fun e w' => e = .returned (.tuple #[.bool (matchV k.data.toList p.data.toList v.data.toList), .int .i64 (matchE k.data.toList p.data.toList v.data.toList)]) ∧ Up w w' := by
  by_cases hc : chk k.data.toList v.data.toList = 0
  · have hK : Hid (IsKind k.data.toList) := kind_of_chk hc
    have HC := hid hc
    by_cases hp0 : p.toList = []
    · have hV : Hid (matchV k.data.toList p.data.toList v.data.toList = true) := by unfold Hid matchV; rw [if_neg (fun h => h hc), if_pos (by rw [← Lib.toList_data]; exact hp0)]
      have hE : Hid (matchE k.data.toList p.data.toList v.data.toList = 0) := by unfold Hid matchE; rw [if_neg (fun h => h hc), if_pos (by rw [← Lib.toList_data]; exact hp0)]
      go_enter Tryz.func15, Tryz.ntmps15
      go_wp2_with (go_at_call 14; refine (rCheck_any _ _ _ hv).mono ?_; rintro e w' ⟨rfl, hup⟩)
      go_ret2
      exact ⟨by rw [hV.out, hE.out]; rfl, hup⟩
    · have hie : p.toList.isEmpty = false := by simpa using hp0
      have hpos : 0 < p.size := by
        rcases Nat.eq_zero_or_pos p.size with h | h
        · exact absurd (by rw [Lib.toList_data]; exact List.eq_nil_of_length_eq_zero (by rw [len_list]; exact h)) hp0
        · exact h
      have hV : Hid (matchV k.data.toList p.data.toList v.data.toList = if isPatB k.data.toList p.data.toList then fitsB k.data.toList p.data.toList v.data.toList else false) := by unfold Hid matchV; rw [if_neg (fun h => h hc), if_neg (by rw [← Lib.toList_data]; exact hp0)]
      have hE : Hid (matchE k.data.toList p.data.toList v.data.toList = if isPatB k.data.toList p.data.toList then 0 else 12) := by unfold Hid matchE; rw [if_neg (fun h => h hc), if_neg (by rw [← Lib.toList_data]; exact hp0)]
      cases hi : isPatB k.data.toList p.data.toList
      all_goals
        have HI := hid hi
        go_enter Tryz.func15, Tryz.ntmps15
        go_wp2_with fail
        go_at_call 14; refine (rCheck_any _ _ _ hv).mono ?_; rintro e w1 ⟨rfl, hu1⟩
        go_wp2_with fail
        go_at_call 44; refine (rfits_any _ _ _ _ hK hp hpos hv HC).mono ?_; rintro e w2 ⟨rfl, hu2⟩
        go_wp2_with fail
        go_ret2
        exact ⟨by rw [hV.out, hE.out, HI.out]; rfl, hu1.trans hu2⟩
  · have hV : Hid (matchV k.data.toList p.data.toList v.data.toList = false) := by unfold Hid matchV; rw [if_pos hc]
    have hE : Hid (matchE k.data.toList p.data.toList v.data.toList = chk k.data.toList v.data.toList) := by unfold Hid matchE; rw [if_pos hc]
    have hc' : (chk k.data.toList v.data.toList == 0) = false := by simpa using hc
    go_enter Tryz.func15, Tryz.ntmps15
    go_wp2_with (go_at_call 14; refine (rCheck_any _ _ _ hv).mono ?_; rintro e w' ⟨rfl, hup⟩)
    go_ret2
    exact ⟨by rw [hV.out, hE.out]; rfl, hup⟩
end Go.Proofs.YtaokifbpakbgdaaGreatDoor

/- Package folioref on archives: pattern. -/
namespace Go.Proofs.YtaokifbpakbgdaaGreatDoor
open Go.RowKit

set_option maxRecDepth 20000 in
theorem rpattern_any {n : Nat} (x : El (n + 1)) (iv : Value) (w : World) (hp : x.2.2.1.length ≤ 64) (hiv : ∃ a m c, iv = .slice a m c) :
    Calls Tryz.prog 265 #[elV x iv] w fun e w' => e = .returned (.int .i64 (matchE x.2.1 x.2.2.1 [])) ∧ Below w.heap.size w w' := by
  obtain ⟨a, m, c, rfl⟩ := hiv
  have C := hid (fun W : World => rMatch_any (bs x.2.1) (bs x.2.2.1) ⟨#[]⟩ W (by rw [bs_size]; omega) (by decide))
  unfold elV
  go_enter Tryz.func265, Tryz.ntmps265
  go_wp2_with fail
  go_at_call 15
  refine (C.out _).mono ?_
  rintro e w1 ⟨rfl, u1⟩
  have U := hid ((Below.alloc (Below.refl _ _) (Nat.le_refl _) _).trans (Below.mono u1 (by simp)))
  clear u1 C
  have hE := hid (show matchE (bs x.2.1).data.toList (bs x.2.2.1).data.toList (⟨#[]⟩ : ByteArray).data.toList = matchE x.2.1 x.2.2.1 [] from rfl)
  rw [hE.out]
  generalize hG : matchE x.2.1 x.2.2.1 [] = ee
  have HG := hid hG
  clear hG hE
  generalize matchV _ _ _ = vv
  go_wp2
  go_ret
  exact ⟨by rw [HG.out]; rfl, U.out⟩
end Go.Proofs.YtaokifbpakbgdaaGreatDoor

/- Package archive, queries: rowOf, elementOf, checkPattern, checkKeyInParts. -/
namespace Go.Proofs.YtaokifbpakbgdaaGreatDoor
open Go.RowKit

/-- The highest level on which a tag can be asked for; 4: on none. -/
def rowT (t : Int) : Nat :=
  if t = 524370 ∨ t = 1048608 ∨ t = 1048592 ∨ t = 1048624 ∨ t = 2101760 then 0
  else if t = 2097165 ∨ t = 524320 ∨ t = 524336 ∨ t = 524368 ∨ t = 2101766 then 1
  else if t = 2097166 ∨ t = 524384 ∨ t = 2097169 ∨ t = 2101769 then 2
  else if t = 524312 ∨ t = 2097171 ∨ t = 533016 then 3
  else 4
theorem rowOf_any (w : World) (t : Int) : Calls Tryz.prog 175 #[.int .i64 t] w fun e w' => e = .returned (.int .i64 (rowT t)) ∧ w' = w := by
  go_enter Tryz.func175, Tryz.ntmps175
  go_wp2
  all_goals go_ret
  all_goals refine ⟨?_, rfl⟩
  all_goals simp_all [rowT]
/-- How the look for a tag ends, as the program has it. -/
def ElEnd (n : Nat) (F : Nat → Prop) (w : World) (l : List (El (n + 1))) (t : Int) (e : Ending) (w' : World) : Prop := Below w.heap.size w w' ∧
  ((findE l t = none ∧ e = .returned zeroE) ∨ ∃ x iv, findE l t = some x ∧ e = .returned (elV x iv) ∧ RdI w F n iv x.2.2.2)
set_option maxRecDepth 20000 in
theorem elementOf_any (n : Nat) (F : Nat → Prop) (w : World) (v : Value) (l : List (El (n + 1))) (t : Int) (h : Rd w F (n + 1) v l) (hl : l.length ≤ 24) :
    Calls Tryz.prog 109 #[v, .int .i64 t] w (ElEnd n F w l t) := by
  obtain ⟨ad, cap, rfl⟩ := h.slice
  go_enter Tryz.func109, Tryz.ntmps109
  go_wp2_with fail
  go_loopw [9] (fun i wr => ∃ k : Nat, k ≤ l.length ∧ i = .int .i64 k ∧ Hid (Four wr w.heap.size (.int .i64 0) (.string ⟨#[]⟩) (.string ⟨#[]⟩) (.slice none 0 0)) ∧ Hid (Below w.heap.size w wr) ∧ Hid (findE l t = findE (l.drop k) t)) (fun i _ => l.length - (intOf i).toNat)
  case atStart => exact ⟨0, Nat.zero_le _, rfl, Four.new w _ _ _ _, Below.alloc (Below.refl _ _) (Nat.le_refl _) _, rfl⟩
  case round =>
    obtain ⟨k, hk, rfl, hR, hU, hsp⟩ := hrel
    by_cases hkl : k < l.length
    · have hrd' := hid (h.at (List.getElem?_eq_getElem hkl))
      obtain ⟨a, ad2, cap2, rfl, _, d0, d1, d2, d3, hrd⟩ := hrd'.out
      have c0 := hU.out.cell (World.block_lt_of_cell? _ _ d0) |>.trans d0
      have c1 := hU.out.cell (World.block_lt_of_cell? _ _ d1) |>.trans d1
      have c2 := hU.out.cell (World.block_lt_of_cell? _ _ d2) |>.trans d2
      have c3 := hU.out.cell (World.block_lt_of_cell? _ _ d3) |>.trans d3
      have hrd2 := hid hrd
      have hst := hid (findE_drop hkl t)
      clear hrd hrd' d0 d1 d2 d3
      generalize l[k] = x at c0 c1 c2 c3 hrd2 hst
      have hX := (Four.new wr (.int .i64 x.1) (.string (bs x.2.1)) (.string (bs x.2.2.1)) (.slice ad2 x.2.2.2.length cap2)).cells
      obtain ⟨⟨x0, x1, x2, x3⟩, _⟩ := hX
      have U1 := hid (Below.alloc hU.out hU.out.size (.cells #[.int .i64 x.1, .string (bs x.2.1), .string (bs x.2.2.1), .slice ad2 x.2.2.2.length cap2] 73))
      have R1 := hid (hR.out.keep (Below.heap_alloc wr (.cells #[.int .i64 x.1, .string (bs x.2.1), .string (bs x.2.2.1), .slice ad2 x.2.2.2.length cap2] 73) _ (by have := hR.out.lt; omega)))
      obtain ⟨⟨r0, r1, r2, r3⟩, s0, s1, s2, s3⟩ := R1.out.cells
      by_cases ht : x.1 = t
      · have hd : (x.1 == t) = true := by simpa using ht
        have hF := hid (show findE l t = some x by rw [hsp.out, hst.out, if_pos ht])
        clear ht
        go_wp2
        (try simp only [Exit.inBlock, Exit.then])
        refine bodyPost_ret (v := elV x (.slice ad2 x.2.2.2.length cap2)) (by simp [results, Tryz.results109, go_sem, r0, r1, r2, r3, elV]) rfl ?_
        exact ⟨(((U1.out.setCell (Nat.le_refl _) _).setCell (Nat.le_refl _) _).setCell (Nat.le_refl _) _).setCell (Nat.le_refl _) _, Or.inr ⟨x, _, hF.out, rfl, hrd2.out⟩⟩
      · have hd : (x.1 == t) = false := by simpa using ht
        have hF := hid (show findE l t = findE (l.drop (k + 1)) t by rw [hsp.out, hst.out, if_neg ht])
        clear ht
        go_wp2
        go_roundw
        case rel => exact ⟨k + 1, by omega, by go_num, R1, U1, hF⟩
        case measure => simp [intOf]; omega
    · have hF := hid (show findE l t = none by rw [hsp.out, List.drop_eq_nil_of_le (by omega)]; rfl)
      obtain ⟨⟨r0, r1, r2, r3⟩, s0, s1, s2, s3⟩ := hR.out.cells
      go_wp2
      (try simp only [Exit.inBlock, Exit.then])
      refine bodyPost_ret (v := zeroE) (by simp [results, Tryz.results109, go_sem, r0, r1, r2, r3, zeroE]) rfl ?_
      exact ⟨(((hU.out.setCell (Nat.le_refl _) _).setCell (Nat.le_refl _) _).setCell (Nat.le_refl _) _).setCell (Nat.le_refl _) _, Or.inl ⟨hF.out, rfl⟩⟩
/-- What is wrong with a pattern of a kind. -/
def patE {n : Nat} (x : El (n + 1)) (k : By) : Int := if x.2.1 ≠ k then 2 else matchE k x.2.2.1 []
set_option maxRecDepth 20000 in
theorem checkPattern_any {n : Nat} (x : El (n + 1)) (ad : Option Addr) (m c : Nat) (k : By) (w : World) (hp : x.2.2.1.length ≤ 64) (hv : Vars w) :
    Calls Tryz.prog 177 #[.agg #[.int .i64 x.1, .string (bs x.2.1), .string (bs x.2.2.1), .slice ad m c], .string (bs k)] w fun e w' => e = .returned (.int .i64 (patE x k)) ∧ Below w.heap.size w w' := by
  have C := hid (fun (W : World) (hW : Vars W) => Match_any (bs k) (bs x.2.2.1) ⟨#[]⟩ W (by rw [bs_size]; omega) (by decide) hW)
  have V := hid hv
  have x1 := bs_toList x.2.1
  have x2 := bs_toList k
  have hE := hid (show matchE (bs k).data.toList (bs x.2.2.1).data.toList (⟨#[]⟩ : ByteArray).data.toList = matchE k x.2.2.1 [] from rfl)
  have hP := hid (show patE x k = if x.2.1 ≠ k then 2 else matchE k x.2.2.1 [] from rfl)
  clear hv
  generalize patE x k = pe at hP ⊢
  generalize hkd : x.2.1 = kd at x1 hP ⊢
  clear hkd
  by_cases hk : kd = k
  · subst hk
    have hF := hid (hP.out.trans (if_neg (fun h => h rfl)))
    clear hP
    go_enter Tryz.func177, Tryz.ntmps177
    go_wp2_with fail
    go_at_call 12
    refine (C.out _ (Vars.up V.out (Below.alloc (Below.refl _ _) (Nat.le_refl _) _))).mono ?_
    rintro e w1 ⟨rfl, u1⟩
    have U := hid ((Below.alloc (Below.refl _ _) (Nat.le_refl _) _).trans (Below.mono u1 (by simp)))
    clear u1 C
    rw [hE.out, ← hF.out]
    clear hF hE
    generalize matchV _ _ _ = vv
    go_wp2
    go_ret
    exact ⟨rfl, U.out⟩
  · have hF := hid (hP.out.trans (if_pos hk))
    have hb : (kd == k) = false := beq_eq_false_iff_ne.2 hk
    clear hP hk hE C
    go_enter Tryz.func177, Tryz.ntmps177
    go_wp2
    go_ret
    rw [hF.out]
    exact ⟨rfl, Below.alloc (Below.refl _ _) (Nat.le_refl _) _⟩
/-- What is wrong with a key in parts. -/
def kipE {n : Nat} (x : El (n + 1)) : Int := if isWord x.1 = true then patE x LO else 11
set_option maxRecDepth 20000 in
theorem checkKeyInParts_any {n : Nat} (x : El (n + 1)) (ad : Option Addr) (m c : Nat) (w : World) (hp : x.2.2.1.length ≤ 64) (hv : Vars w) :
    Calls Tryz.prog 229 #[.agg #[.int .i64 x.1, .string (bs x.2.1), .string (bs x.2.2.1), .slice ad m c]] w fun e w' => e = .returned (.int .i64 (kipE x)) ∧ Below w.heap.size w w' := by
  have C := hid (fun (W : World) (hW : Vars W) => checkPattern_any x ad m c LO W hp hW)
  have V := hid hv
  have hP := hid (show kipE x = if isWord x.1 = true then patE x LO else 11 from rfl)
  clear hv
  go_enter Tryz.func229, Tryz.ntmps229
  go_wp2_with fail
  go_at_call 260
  refine (isInParts_any _ x.1).mono ?_
  rintro e w1 ⟨rfl, rfl⟩
  generalize hw : isWord x.1 = b at hP ⊢
  clear hw
  cases b
  · go_wp2
    go_ret
    rw [hP.out]
    exact ⟨rfl, Below.alloc (Below.refl _ _) (Nat.le_refl _) _⟩
  · go_wp2_with fail
    go_at_call 177
    refine (C.out _ (Vars.up V.out (Below.alloc (Below.refl _ _) (Nat.le_refl _) _))).mono ?_
    rintro e w1 ⟨rfl, u1⟩
    have U := hid ((Below.alloc (Below.refl _ _) (Nat.le_refl _) _).trans (Below.mono u1 (by simp)))
    clear u1 C
    have hF := hid (hP.out.trans (if_pos trivial))
    rw [← hF.out]
    go_wp2
    go_ret
    exact ⟨rfl, U.out⟩
end Go.Proofs.YtaokifbpakbgdaaGreatDoor

/- Package archive, queries: levelOf, checkAskedParts, checkKey. -/
namespace Go.Proofs.YtaokifbpakbgdaaGreatDoor
open Go.RowKit

/-- The words of the levels lie there. -/
def LevelsV (w : World) : Prop := ∀ i, i < 4 → w.cell? ⟨0, i, none⟩ = some (.string (bs (wordL i)))
theorem LevelsV.up {w w' : World} (h : LevelsV w) (k : Below w.heap.size w w') : LevelsV w' := fun i hi => (k.cell (World.block_lt_of_cell? _ _ (h i hi))).trans (h i hi)
abbrev levsV : Value := .agg #[.string ⟨#[80, 65, 84, 73, 69, 78, 84]⟩, .string ⟨#[83, 84, 85, 68, 89]⟩, .string ⟨#[83, 69, 82, 73, 69, 83]⟩, .string ⟨#[73, 77, 65, 71, 69]⟩]
set_option maxRecDepth 20000 in
set_option maxHeartbeats 2000000 in
theorem levelOf_any (n : Nat) (F : Nat → Prop) (w : World) (v : Value) (l : List (El (n + 1))) (h : Rd w F (n + 1) v l) (hl : l.length ≤ 24) (hL : LevelsV w) :
    Calls Tryz.prog 60 #[v] w fun e w' => e = .returned (.int .i64 (levO l)) ∧ Below w.heap.size w w' := by
  obtain ⟨ad, cap, rfl⟩ := h.slice
  have H := hid h
  have HL := hid hL
  clear h hL
  go_enter Tryz.func60, Tryz.ntmps60
  go_wp2_with fail
  go_at_call 109
  refine (elementOf_any n F w _ l 524370 H.out hl).mono ?_
  rintro e w1 ⟨u1, hf⟩
  have hx : ∃ (t : Int) (kd vl : By) (iv : Value), e = .returned (.agg #[.int .i64 t, .string (bs kd), .string (bs vl), iv]) ∧ Hid (levO l = lvI (decide (kd = [67, 83])) vl [0, 1, 2, 3]) ∧ ∃ ad2 n2 cap2, iv = .slice ad2 n2 cap2 := by
    rcases hf with ⟨h1, h2⟩ | ⟨x, iv, h1, h2, h3⟩
    · exact ⟨0, [], [], .slice none 0 0, h2, by unfold Hid levO; rw [h1, decide_eq_false (by decide), lvI_false], _, _, _, rfl⟩
    · obtain ⟨ad2, cap2, h4⟩ := h3.slice
      exact ⟨x.1, x.2.1, x.2.2.1, iv, h2, by unfold Hid levO; rw [h1], _, _, _, h4⟩
  obtain ⟨t, kd, vl, iv, rfl, hL, ad2, n2, cap2, rfl⟩ := hx
  have U1 := hid (Below.alloc u1 u1.size (.cells #[.int .i64 t, .string (bs kd), .string (bs vl), .slice ad2 n2 cap2] 73))
  have hX := (Four.new w1 (.int .i64 t) (.string (bs kd)) (.string (bs vl)) (.slice ad2 n2 cap2)).cells
  obtain ⟨⟨x0, x1, x2, x3⟩, _⟩ := hX
  have HG := HL.out.up U1.out
  have n0 : (w1.alloc (.cells #[.int .i64 t, .string (bs kd), .string (bs vl), .slice ad2 n2 cap2] 73)).cell? ⟨0, 0, none⟩ = some (.string ⟨#[80, 65, 84, 73, 69, 78, 84]⟩) := HG 0 (by omega)
  have n1 : (w1.alloc (.cells #[.int .i64 t, .string (bs kd), .string (bs vl), .slice ad2 n2 cap2] 73)).cell? ⟨0, 1, none⟩ = some (.string ⟨#[83, 84, 85, 68, 89]⟩) := HG 1 (by omega)
  have n2' : (w1.alloc (.cells #[.int .i64 t, .string (bs kd), .string (bs vl), .slice ad2 n2 cap2] 73)).cell? ⟨0, 2, none⟩ = some (.string ⟨#[83, 69, 82, 73, 69, 83]⟩) := HG 2 (by omega)
  have n3 : (w1.alloc (.cells #[.int .i64 t, .string (bs kd), .string (bs vl), .slice ad2 n2 cap2] 73)).cell? ⟨0, 3, none⟩ = some (.string ⟨#[73, 77, 65, 71, 69]⟩) := HG 3 (by omega)
  clear hf u1 H HL HG
  go_wp2_with fail
  generalize (w1.alloc (.cells #[.int .i64 t, .string (bs kd), .string (bs vl), .slice ad2 n2 cap2] 73)) = W at *
  go_loop [9] (fun i => ∃ k : Nat, k ≤ 4 ∧ i = .int .i64 k ∧ Hid (levO l = lvI (decide (kd = [67, 83])) vl ([0, 1, 2, 3].drop k))) (fun i => 4 - (intOf i).toNat)
  case atStart => exact ⟨0, by omega, rfl, hL⟩
  case round =>
    obtain ⟨k, hk, rfl, hE⟩ := hrel
    by_cases hkl : k < 4
    · have hix : (Instr.index 58 levsV (.int .i64 k)).run Tryz.prog W = .ok (.string (bs (wordL k))) W := by
        rcases (show k = 0 ∨ k = 1 ∨ k = 2 ∨ k = 3 by omega) with rfl | rfl | rfl | rfl <;> kernel_rfl
      have hE2 := hid (show levO l = if (decide (kd = [67, 83])) = true ∧ vl = wordL k then (k : Int) else lvI (decide (kd = [67, 83])) vl ([0, 1, 2, 3].drop (k + 1)) by rw [hE.out, drop4 hkl, lvI])
      clear hE
      have y1 := bs_toList kd
      have y2 := bs_toList vl
      have y3 := bs_toList (wordL k)
      generalize hw : wordL k = wd at hix y3 hE2
      clear hw
      by_cases hkd : kd = [67, 83]
      · by_cases hv : vl = wd
        · have hF := hid (hE2.out.trans (if_pos ⟨by simp [hkd], hv⟩))
          clear hE2
          subst hkd; subst hv
          go_wp2
          go_ret
          rw [hF.out]
          exact ⟨rfl, U1.out⟩
        · have hF := hid (hE2.out.trans (if_neg (fun h => hv h.2)))
          have hv2 : (vl == wd) = false := beq_eq_false_iff_ne.2 hv
          clear hE2
          subst hkd
          go_wp2
          go_round
          case rel => exact ⟨k + 1, by omega, by go_num, hF⟩
          case measure => simp [intOf]; omega
      · have hF := hid (hE2.out.trans (if_neg (fun h => hkd (by simpa using h.1))))
        have hk2 : (kd == [67, 83]) = false := beq_eq_false_iff_ne.2 hkd
        clear hE2
        go_wp2
        go_round
        case rel => exact ⟨k + 1, by omega, by go_num, hF⟩
        case measure => simp [intOf]; omega
    · obtain rfl : k = 4 := by omega
      have hF := hid (show levO l = -1 from hE.out)
      clear hE
      go_wp2
      go_ret
      rw [hF.out]
      exact ⟨rfl, U1.out⟩
end Go.Proofs.YtaokifbpakbgdaaGreatDoor
